/- One of the texts of the proof: KlB KlC KlD. -/
import Derived.Test.YtegmjgjkcdbmkaaGreatDoorG43
import Derived.Test.YtegmjgjkcdbmkaaGreatDoorG11
set_option maxRecDepth 100000
set_option maxHeartbeats 4000000
namespace Go.Proofs.YtegmjgjkcdbmkaaGreatDoor
open Go.RowKit
theorem Xj(n:Nat)(h:n≤4000):Lib.nDigits n≤4:=by
 rw [Lib.nDigits];split
 ·omega
 ·rw [Lib.nDigits];split
  ·omega
  ·rw [Lib.nDigits];split
   ·omega
   ·rw [Lib.nDigits];split
    ·omega
    ·omega
theorem FP(n:Nat)(h:n≤4000):(JR n).size≤4:=by have:=Lib.decDigits_length n;have a:=Xj n h;unfold JR;simp [ByteArray.size];omega
theorem PG:∀(n:Nat),n≤100000→∀(w:World),Calls Tryz.prog 24 #[.int .i64 n] w fun e t=>e=.returned (.string ⟨(Lib.decDigits n).toArray⟩)∧∃m,t=w.drewN m:=by
 intro n;induction n using Nat.strongRecOn with
 | ind n g=>
   intro v w;by_cases h:n<10
   ·have k:decide ((n:Int)<10)=true:=by simp;omega
    have c:dN (Wa.extract n (n+1)=⟨(Lib.decDigits n).toArray⟩):=FN (by rw [RN n h,Lib.decDigits_one h]);clear g;go_enter Tryz.func24,Tryz.ntmps24;go_wp2;go_ret;exact ⟨congrArg (fun s=>Ending.returned (Value.string s)) c.o,0,rfl⟩
   ·have k:decide ((n:Int)<10)=false:=by simp;omega
    obtain ⟨L,d⟩:∃L,Lib.decDigits (n / 10)=L:=⟨_,rfl⟩;have l:=Hw (n / 10);have a:=g (n / 10) (by omega) (by omega);rw [d] at l a;have a:=Aa a;obtain ⟨r,i⟩:∃r,n % 10=r:=⟨_,rfl⟩;have j:r<10:=by omega
    have o:=TQ r j;obtain ⟨x,f⟩:∃x,Wa.extract r (r+1)=x:=⟨_,rfl⟩;have b:=RN r j;have A:x.size=1:=by
     have:x.data.toList.length=1:=by rw [←f,b];rfl
     simpa using this
    rw [f] at b o;have c:dN ((⟨L.toArray⟩:ByteArray)++x=⟨(Lib.decDigits n).toArray⟩):=FN (by
     have e:Lib.decDigits n=Lib.decDigits (n / 10)++[UInt8.ofNat (48+n % 10)]:=by conv=>lhs;rw [Lib.decDigits,dif_neg h]
     rw [e,i,d];simp only [ByteArray.data_append,Array.toList_append,b])
    have p:dN ((n:Int) / 10=((n / 10:Nat):Int)):=by show _=_;omega
    have q:dN (IntKind.i64.wrap ((n:Int) / 10)=((n / 10:Nat):Int)):=by show _=_;rw [IntKind.wrap_i64];omega
    have z:(n:Int).tmod 10=(r:Int):=by rw [Int.tmod_eq_emod_of_nonneg (by omega)];omega
    have y:IntKind.i64.wrap ((r:Int)+1)=(r:Int)+1:=by rw [IntKind.wrap_i64];omega
    have u:¬9223372036854775807<L.length+1:=by omega
    clear g i d f b;go_enter Tryz.func24,Tryz.ntmps24;go_wp2;go_quiet ((go_at_call 24;(first | rw [q.o] | rw [p.o]);exact Calls.quiet_of (a.o _)));go_wp2;go_ret;exact ⟨congrArg (fun s=>Ending.returned (Value.string s)) c.o,nq,rfl⟩
theorem GY(n:Nat)(h:n≤4000)(w:World):Calls Tryz.prog 24 #[.int .i64 n] w fun e a=>e=.returned (.string (JR n))∧∃m,a=w.drewN m:=PG n (by omega) w
theorem FQ(n:Nat)(h:n≤4000)(w:World):Calls Tryz.prog 24 #[.int .i64 n] w fun e c=>e=.returned (.string (JR n))∧Ab (fun _=>False) w c:=
 (GY n h w).mono fun _ _ ⟨a,m,b⟩=>⟨a,by rw [b];exact (Ab.refl _ _).drewN m⟩
theorem Ia(f:Nat):(Kz f).size≤4:=by have:=J5 f;simpa [Kz,ByteArray.size] using this
theorem OY(v:Nat):(GA v).size=1:=by have:=Gz v;simpa [GA,ByteArray.size] using this
theorem SZ(f v:Nat)(h:f<4)(i:v<4)(w:World):Calls Tryz.prog 33 #[.int .i64 f,.int .i64 v] w fun e b=>e=.returned (.string (GD f v))∧b=w:=by
 have j:=Ia f;have k:=OY v;unfold GD;generalize c:Kz f=F at*;generalize a:GA v=V at*;have d:=Aa c;have g:=Aa a;clear c a;go_enter Tryz.func33,Tryz.ntmps33;go_wp2_with (first
  | (go_at_call 26;refine (Gm _ h _).mono ?_;rw [d.o];rintro e b ⟨rfl,a⟩;have a:=a.symm;subst a)
  | (go_at_call 28;refine (Kc _ i _).mono ?_;rw [g.o];rintro e b ⟨rfl,a⟩;have a:=a.symm;subst a))
 go_ret;exact ⟨rfl,rfl⟩
def ZZ(T:Tb)(s:ByteArray)(w:World)(e:Ending)(c:World):Prop:=
 (∃(a:Value) (b:Bool) (l:List ByteArray),e=.returned (.tuple #[a,.bool b])∧Au 0 c a l∧
   (b=true→(∃f v,f<4∧v<4∧s=GD f v∧l=FD T f v)∨∃i,∃h:i<T.F.length,s=EX (i / 4+1) (i % 4)∧l=T.F[i])∧
   (b=false→(∀f v,f<4→v<4→s≠GD f v)∧∀i,i<T.F.length→s≠EX (i / 4+1) (i % 4)))∧Ab (fun _=>False) w c
theorem ER{a b:ByteArray}:(a.toList==b.toList)=true↔a=b:=⟨fun h=>Dd (beq_iff_eq.1 h),fun h=>by rw [h];simp⟩
theorem UG(vs:List Value)(fv ev:Value)(T:Tb)(s:ByteArray)(w:World)(h:Ek w vs fv ev T):
 Calls Tryz.prog 25 #[.agg (Fv vs fv ev),.string s] w fun e R=>ZZ T s w e R:=by
 have HS:=Aa h;clear h;obtain ⟨H,a1⟩:∃c,Fv vs fv ev=c:=⟨_,rfl⟩;rw [a1];have HC:=Aa a1;clear a1;have m:=Aa ((Ab.refl (fun _=>False) w).alloc (.cells H 33));have o:=Aa (Ak.new w H 33);go_enter Tryz.func25,Tryz.ntmps25;go_wp2_with fail;generalize w.alloc (.cells H 33)=W at*;go_loopw [6] (fun i wr=>∃(f:Nat),f≤4∧i=.int .i64 f∧dN (Ab (fun _=>False) w wr)∧dN (Ak w.heap.size H 33 wr)∧dN (∀u v,u<f→v<4→s≠GD u v)) (fun i _=>4-(intOf i).toNat)
 case atStart=>exact ⟨0,by omega,rfl,m,o,fun _ _ q=>by omega⟩
 case round=>
  clear m o;obtain ⟨f,hf,rfl,m,o,HN⟩:=hrel;by_cases Y:f<4
  ·have tf:decide ((f:Int)<4)=true:=by simp;omega
   go_wp2_with fail;go_loopw [7] (fun i wr=>∃(v:Nat),v≤4∧i=.int .i64 v∧dN (Ab (fun _=>False) w wr)∧dN (Ak w.heap.size H 33 wr)∧dN (∀t,t<v→s≠GD f t)) (fun i _=>4-(intOf i).toNat)
   case atStart=>exact ⟨0,by omega,rfl,m,o,fun _ q=>by omega⟩
   case round=>
    clear m o;obtain ⟨v,hv,rfl,m,o,K⟩:=hrel;by_cases a0:v<4
    ·obtain ⟨F,hF⟩:∃x,Kz f=x:=⟨_,rfl⟩;obtain ⟨V,X⟩:∃x,GA v=x:=⟨_,rfl⟩;have z1:=Ia f;have z2:=OY v;have b0:GD f v=F++{data:=#[46]}++V:=by unfold GD;rw [hF,X]
     rw [hF] at z1;rw [X] at z2;have HF:=Aa hF;have HV:=Aa X;have a5:=Aa b0;clear hF X b0;cases P:(s.toList==(F++{data:=#[46]}++V).toList) with
     | true=>
       have G:dN (s=GD f v):=by rw [a5.o];exact ER.1 P
       obtain ⟨a,c,z,N⟩:=HS.o.var Y a0;rw [HC.o] at z;have I:=o.o.cell (f*4+v);rw [z] at I;have Q:=Ae o.o;have HR:=Aa (Ac N m.o (fun _ _ q=>q));clear z N;go_wp2_with (first
        | (go_at_call 26;refine (Gm _ Y _).mono ?_;rw [HF.o];rintro e R ⟨rfl,p⟩;have p:=p.symm;subst p)
        | (go_at_call 28;refine (Kc _ a0 _).mono ?_;rw [HV.o];rintro e R ⟨rfl,p⟩;have p:=p.symm;subst p))
       refine bodyPost_ret (v:=.tuple #[.slice a (FD T f v).length c,.bool true]) (by simp [results,Tryz.results25,go_sem]) rfl ⟨⟨_,true,FD T f v,rfl,HR.o,fun _=>.inl ⟨f,v,Y,a0,G.o,rfl⟩,fun q=>by cases q⟩,m.o⟩
     | false=>
       have G:dN (s≠GD f v):=fun q=>by rw [a5.o] at q;have:=ER.2 q;rw [P] at this;cases this
       go_wp2_with (first
        | (go_at_call 26;refine (Gm _ Y _).mono ?_;rw [HF.o];rintro e R ⟨rfl,p⟩;have p:=p.symm;subst p)
        | (go_at_call 28;refine (Kc _ a0 _).mono ?_;rw [HV.o];rintro e R ⟨rfl,p⟩;have p:=p.symm;subst p))
       go_roundw
       case rel=>
        refine ⟨v+1,by omega,by go_num,m,o,fun t q=>?_⟩;rcases Nat.lt_or_ge t v with y | y
        ·exact K.o t y
        ·have:t=v:=by omega
         rw [this];exact G.o
       case measure=>simp [intOf];omega
    ·go_wp2_with fail;go_roundw
     case rel=>
      refine ⟨f+1,by omega,by go_num,m,o,fun u t q q'=>?_⟩;rcases Nat.lt_or_ge u f with y | y
      ·exact HN.o u t y q'
      ·have:u=f:=by omega
       rw [this];exact K.o t (by omega)
     case measure=>simp [intOf];omega
  ·have tf:decide ((f:Int)<4)=false:=by simp;omega
   have b7:dN (∀f v,f<4→v<4→s≠GD f v):=fun u v q q'=>HN.o u v (by omega) q'
   clear HN;obtain ⟨fa,fc,z,N⟩:=HS.o.fld;rw [HC.o] at z;have b6:=Aa N;have a4:=Aa z;have b8:=HS.o.fl;clear z N;obtain ⟨J,a3⟩:∃n,T.F.length=n:=⟨_,rfl⟩;rw [a3] at b8 a4;have a9:=Aa a3;clear a3;go_wp2_with fail;go_loopw [8] (fun i wr=>∃(k:Nat),k≤J∧i=.int .i64 k∧dN (Ab (fun _=>False) w wr)∧dN (Ak w.heap.size H 33 wr)∧dN (∀C,C<k→s≠EX (C / 4+1) (C % 4))) (fun i _=>J-(intOf i).toNat)
   case atStart=>exact ⟨0,by omega,rfl,m,o,fun _ q=>by omega⟩
   case round=>
    clear m o;obtain ⟨k,hk,rfl,m,o,K⟩:=hrel;have Q:=Ae o.o;have I:=o.o.cell 16;rw [a4.o] at I;by_cases c0:k<J
    ·obtain ⟨n,hn⟩:∃x,k / 4=x:=⟨_,rfl⟩;obtain ⟨j,Z⟩:∃x,k % 4=x:=⟨_,rfl⟩;have e1:(k:Int).tdiv 4=(n:Int):=by rw [←hn];rfl
     have e2:(k:Int).tmod 4=(j:Int):=by rw [←Z];rfl
     have c6:n≤250:=by omega
     have c5:j<4:=by omega
     obtain ⟨D,S⟩:∃x,JR (n+1)=x:=⟨_,rfl⟩;obtain ⟨E,U⟩:∃x,JR j=x:=⟨_,rfl⟩;have z1:=FP (n+1) (by omega);have z2:=FP j (by omega);have b1:EX (k / 4+1) (k % 4)=D++{data:=#[46]}++E:=by unfold EX;rw [hn,Z,S,U]
     rw [S] at z1;rw [U] at z2;have HD:=Aa S;have G:=Aa U;have a6:=Aa b1;have b5:dN (∀r,Ab (fun _=>False) wr r→r.cell? ⟨w.heap.size,16,none⟩=some (.slice fa J fc)∧w.heap.size<r.heap.size):=fun r O=>⟨(World.cell?_of_block (O.block _ Q (fun q=>q))).trans I,Nat.lt_of_lt_of_le Q O.size⟩
     have c2:=Aa hn;have c1:=Aa Z;clear S U b1 hn Z;have tk:decide ((k:Int)<(J:Int))=true:=by simp;omega
     cases P:(s.toList==(D++{data:=#[46]}++E).toList) with
     | true=>
       have HQ:dN (s=EX (k / 4+1) (k % 4)):=by rw [a6.o];exact ER.1 P
       have b4:k<T.F.length:=by rw [a9.o];exact c0
       obtain ⟨g,b,d,b9,b2,a2,b3⟩:=Dj.get (w:=w) (by have:=b6.o;exact this) b4;subst b9;have a7:dN (∀r,Ab (fun _=>False) w r→r.cell? ⟨g,k,none⟩=some (.slice b T.F[k].length d)∧g<r.heap.size):=fun r O=>⟨(World.cell?_of_block (O.block _ a2 (fun q=>q))).trans b2,Nat.lt_of_lt_of_le a2 O.size⟩
       have a8:=Aa b3;clear b2 b3 a2;obtain ⟨L,hL⟩:∃l,T.F[k]=l:=⟨_,rfl⟩;rw [hL] at a7 a8;have HL:=Aa hL;clear hL;go_wp2_with fail;refine (FQ (n+1) (by omega) _).mono ?_;rw [HD.o];rintro e w2 ⟨rfl,A⟩;have O2:=Aa (m.o.trans A);go_wp2_with fail;refine (FQ j (by omega) _).mono ?_;rw [G.o];rintro e w3 ⟨rfl,B⟩;obtain ⟨c3,c7⟩:=b5.o w3 (A.trans B);have M:=Aa (O2.o.trans B);obtain ⟨c4,c8⟩:=a7.o w3 M.o;clear A B I Q;go_wp2_with fail;refine bodyPost_ret (v:=.tuple #[.slice b L.length d,.bool true]) (by simp [results,Tryz.results25,go_sem]) rfl ⟨⟨_,true,L,rfl,Ac a8.o M.o (fun _ _ q=>q),fun _=>.inr ⟨k,b4,HQ.o,HL.o.symm⟩,fun q=>by cases q⟩,M.o⟩
     | false=>
       have HQ:dN (s≠EX (k / 4+1) (k % 4)):=fun q=>by rw [a6.o] at q;have:=ER.2 q;rw [P] at this;cases this
       go_wp2_with fail;refine (FQ (n+1) (by omega) _).mono ?_;rw [HD.o];rintro e w2 ⟨rfl,A⟩;go_wp2_with fail;refine (FQ j (by omega) _).mono ?_;rw [G.o];rintro e w3 ⟨rfl,B⟩;have M:=Aa (m.o.trans (A.trans B));have B3:=Aa (o.o.O (A.trans B) (fun q=>q));clear A B I Q;go_wp2_with fail;go_roundw
       case rel=>
        refine ⟨k+1,by omega,by go_num,M,B3,fun C q=>?_⟩;rcases Nat.lt_or_ge C k with y | y
        ·exact K.o C y
        ·have:C=k:=by omega
         rw [this];exact HQ.o
       case measure=>simp [intOf];omega
    ·have tk:decide ((k:Int)<(J:Int))=false:=by simp;omega
     go_wp2_with fail;refine bodyPost_ret (v:=.tuple #[.slice none 0 0,.bool false]) (by simp [results,Tryz.results25,go_sem]) rfl ⟨⟨_,false,[],rfl,World.ownsRow_nil _ _ _ _,(fun q=>absurd q (by decide)),fun _=>⟨b7.o,fun i hi=>K.o i (by have:=a9.o;omega)⟩⟩,m.o⟩
structure Lw(w:World)(vs:List Value)(fv ev:Value)(T:Tb)(sv:Value)(xs:List (Sm×Nat)):Prop where
 ss:Ek w vs fv ev T
 st:J2 0 w sv xs
 ok:∀x,x∈xs→x.1.In
 bA:xs.length≤300
theorem Lw.i9{w e d b a T c f}(h:Lw w d b a T c f)(k:Ab (fun _=>False) w e):Lw e d b a T c f:=⟨h.ss.i9 k,h.st.quiet k,h.ok,h.bA⟩
structure CB(w:World)(cs pa sa:Array Value)(wr:World):Prop where
 b0:Ak w.heap.size cs 33 wr
 b1:Ak (w.heap.size+1) pa 25 wr
 b2:Ak (w.heap.size+2) sa 39 wr
 o:Ab (fun _=>False) w wr
theorem CB.go{w a b c wr d}(h:CB w a b c wr)(k:Ab (fun _=>False) wr d):CB w a b c d:=⟨h.b0.O k (fun q=>q),h.b1.O k (fun q=>q),h.b2.O k (fun q=>q),h.o.trans k⟩
theorem CB.new(w:World)(a b c:Array Value):CB w a b c (((w.alloc (.cells a 33)).alloc (.cells b 25)).alloc (.cells c 39)):=by
 refine ⟨((Ak.new w a _).alloc _).alloc _,?_,?_,(((Ab.refl _ w).alloc _).alloc _).alloc _⟩
 ·have:=(Ak.new (w.alloc (.cells a 33)) b 25).alloc (.cells c 39);simpa using this
 ·have:=Ak.new ((w.alloc (.cells a 33)).alloc (.cells b 25)) c 39;simpa using this
def Ww(T:Tb)(a:List (Sm×Nat))(x:Sm)(f:Nat):Prop:=
 (∀i (h:i<x.args.length),Fj (FD T x.aW x.args[i]) (FD T f i)=true)∧∀y,y∈a→y.1.kind=9→y.1.aW=f→Fj (FD T f y.1.q) (FD T x.aW x.p)=true
theorem Jr(vs:List Value)(fv ev:Value)(T:Tb)(sv:Value)(g:List (Sm×Nat))(K:ByteArray)(F D:Nat)(x:Sm×Nat)(av:Value)(f:Nat)(w:World)(h:Lw w vs fv ev T sv g)(t:x.1.In)(R:BT 0 w av x.1.args)(hf:f<4)(hC:Ww T g x.1 f):
 Calls Tryz.prog 34 #[.agg (Fv vs fv ev),.agg (Vs K sv F D),.agg (K6 x av),.int .i64 f] w fun e w'=>e=.returned (.bool true)∧Ab (fun _=>False) w w':=by
 obtain ⟨L,al,M,rfl⟩:=Ad R;have a6:=Aq R;subst a6;obtain ⟨U,V,rfl⟩:=h.st.form;have r:=Aa h;have HX:=Aa t;have HA:=Aa R;have HC:=Aa hC;have a7:=t.aW;have hp:=t.p;have hq:=t.q;have a6:=t.ok.args;have b4:=h.bA;clear h t R hC;obtain ⟨N,a0⟩:∃c,Fv vs fv ev=c:=⟨_,rfl⟩;rw [a0];have a5:=Aa a0;clear a0;unfold Vs;have b:=Aa (CB.new w N #[.string K,.slice U g.length V,.int .i64 F,.int .i64 D] (K6 x (.slice L x.1.args.length M)));go_enter Tryz.func34,Tryz.ntmps34;go_wp2_with fail;generalize ((w.alloc (.cells N 33)).alloc (.cells #[.string K,.slice U g.length V,.int .i64 F,.int .i64 D] 25)).alloc (.cells (K6 x (.slice L x.1.args.length M)) 39)=W at b⊢;go_loopw [9] (fun i wr=>∃(k:Nat),k≤x.1.args.length∧i=.int .i64 k∧dN (CB w N #[.string K,.slice U g.length V,.int .i64 F,.int .i64 D] (K6 x (.slice L x.1.args.length M)) wr)) (fun i _=>x.1.args.length-(intOf i).toNat)
 case atStart=>exact ⟨0,by omega,rfl,b⟩
 case round=>
  clear b;obtain ⟨k,hk,rfl,b⟩:=hrel;have c7:=b.o.b2.cell 7;have c0:=b.o.b2.cell 0;have u:=Ae b.o.b0;have S:=Ae b.o.b1;have z:=Ae b.o.b2;simp only [dM,dJ,dK] at c0 c7;by_cases a8:k<x.1.args.length
  ·have tk:decide ((k:Int)<(x.1.args.length:Int))=true:=by simp;omega
   obtain ⟨ag,Q⟩:∃a,x.1.args[k]=a:=⟨_,rfl⟩;have b0:ag<4:=by rw [←Q];exact HX.o.a4 _ (List.getElem_mem _)
   have s:=HC.o.1 k a8;rw [Q] at s;have A:=Aa s;have P:=Ac HA.o b.o.o (fun _ _ q=>q);obtain ⟨gg,rfl⟩:=AA P (by omega);have lg:=(P.lt gg rfl).2;have b1:wr.cell? ⟨gg,k,none⟩=some (.int .i64 (ag:Int)):=by have:=P.cellAt (k*1) (by omega);rw [Nat.mul_one] at this;rw [this];simp [a8,Q]
   obtain ⟨a1,d1,n,I⟩:=(r.o.ss.i9 b.o.o).var a7 b0;obtain ⟨a2,d2,o,J⟩:=(r.o.ss.i9 b.o.o).var (f:=f) (v:=k) hf (by omega);rw [a5.o] at n o;have G:=b.o.b0.cell (x.1.aW*4+ag);have H:=b.o.b0.cell (f*4+k);rw [n] at G;rw [o] at H;have B:=Aa I;have C:=Aa J;clear n o I J s Q P;have b5:k<4:=by omega
   go_wp2_with fail;go_quiet ((go_at_call 18;exact Calls.quiet_of_same (Ev 0 _ _ _ _ _ B.o C.o)));rw [A.o];have d:=Aa (b.o.go ((Ab.refl _ wr).drewN nq));generalize wr.drewN nq=w1 at d⊢;clear b c7 c0 u S z b1 lg G H B C A;go_wp2_with fail;go_roundw
   case rel=>exact ⟨k+1,by omega,by go_num,d⟩
   case measure=>simp [intOf];omega
  ·have tk:decide ((k:Int)<(x.1.args.length:Int))=false:=by simp;omega
   go_wp2_with fail;have d:=b;go_loopw [11] (fun i wr=>∃(k:Nat),k≤g.length∧i=.int .i64 k∧dN (CB w N #[.string K,.slice U g.length V,.int .i64 F,.int .i64 D] (K6 x (.slice L x.1.args.length M)) wr)) (fun i _=>g.length-(intOf i).toNat)
   case atStart=>exact ⟨0,by omega,rfl,d⟩
   case round=>
    clear b d c7 c0 u S z;obtain ⟨m,hm,rfl,b⟩:=hrel;have p1:=b.o.b1.cell 1;have u:=Ae b.o.b0;have S:=Ae b.o.b1;have z:=Ae b.o.b2;simp only [dM,dJ,dK] at p1;by_cases b2:m<g.length
    ·have tm:decide ((m:Int)<(g.length:Int))=true:=by simp;omega
     obtain ⟨y,hy⟩:∃y,g[m]=y:=⟨_,rfl⟩;have a9:y∈g:=by rw [←hy];exact List.getElem_mem _
     have a3:=r.o.ok y a9;have b3:=a3.q;have b6:=a3.aW;obtain ⟨sg,X,Z,Y,rfl,lg,_,j⟩:=J2.get (r.o.st.quiet b.o.o) b2;rw [hy] at j;have y0:=j 0 (by omega);have y1:=j 1 (by omega);have y2:=j 2 (by omega);have y3:=j 3 (by omega);have y4:=j 4 (by omega);have y5:=j 5 (by omega);have y6:=j 6 (by omega);have y7:=j 7 (by omega);simp only [dM,dJ,dK,Nat.add_zero] at y0 y1 y2 y3 y4 y5 y6 y7;clear j a3 hy;go_upto_region 11 with fail;have d:=Aa (b.o.go ((Ab.refl _ wr).alloc (.cells (K6 y (.slice X Z Y)) 39)));have p:=Aa (Ak.new wr (K6 y (.slice X Z Y)) 39);change Code.wp _ _ _ _ (wr.alloc (.cells (K6 y (.slice X Z Y)) 39));generalize wr.alloc (.cells (K6 y (.slice X Z Y)) 39)=w1 at d p⊢;generalize wr.heap.size=b7 at p⊢;clear y0 y1 y2 y3 y4 y5 y6 y7 b p1 u S z lg;have z0:=p.o.cell 0;have z1:=p.o.cell 1;have z3:=p.o.cell 3;have lz:=Ae p.o;have u:=Ae d.o.b0;have z:=Ae d.o.b2;have x0:=d.o.b2.cell 0;have x2:=d.o.b2.cell 2;simp only [dM,dJ,dK] at z0 z1 z3 x0 x2;by_cases O:y.1.kind=9∧y.1.aW=f
     ·obtain ⟨l,E⟩:=O;have t9:((y.1.kind:Int)==9)=true:=by simp [l]
      have ti:((y.1.aW:Int)==(f:Int))=true:=by simp [E]
      have s:=HC.o.2 y a9 l E;have A:=Aa s;obtain ⟨a1,d1,n,I⟩:=(r.o.ss.i9 d.o.o).var (f:=f) (v:=y.1.q) hf b3;obtain ⟨a2,d2,o,J⟩:=(r.o.ss.i9 d.o.o).var a7 hp;rw [a5.o] at n o;have G:=d.o.b0.cell (f*4+y.1.q);have H:=d.o.b0.cell (x.1.aW*4+x.1.p);rw [n] at G;rw [o] at H;have B:=Aa I;have C:=Aa J;clear n o I J s l E;go_wp2_with fail;go_quiet ((go_at_call 18;exact Calls.quiet_of_same (Ev 0 _ _ _ _ _ B.o C.o)));rw [A.o];have a4:=Aa (d.o.go ((Ab.refl _ w1).drewN nq));generalize w1.drewN nq=w2 at a4⊢;clear d z0 z1 z3 lz u z x0 x2 G H B C A;go_wp2_with fail;go_roundw
      case rel=>exact ⟨m+1,by omega,by go_num,a4⟩
      case measure=>simp [intOf];omega
     ·by_cases l:y.1.kind=9
      ·have E:¬y.1.aW=f:=fun q=>O ⟨l,q⟩
       have t9:((y.1.kind:Int)==9)=true:=by simp [l]
       have ti:((y.1.aW:Int)==(f:Int))=false:=by simp;omega
       clear l O E;go_wp2_with fail;go_roundw
       case rel=>exact ⟨m+1,by omega,by go_num,d⟩
       case measure=>simp [intOf];omega
      ·have t9:((y.1.kind:Int)==9)=false:=by simp;omega
       clear l O;go_wp2_with fail;go_roundw
       case rel=>exact ⟨m+1,by omega,by go_num,d⟩
       case measure=>simp [intOf];omega
    ·have tm:decide ((m:Int)<(g.length:Int))=false:=by simp;omega
     go_wp2_with fail;go_ret;exact ⟨rfl,b.o.o⟩
end Go.Proofs.YtegmjgjkcdbmkaaGreatDoor
