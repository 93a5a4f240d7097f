/- One of the texts of the proof of runs_card_holds: CkB CkC CkD ChA RnA. -/
import Derived.Test.YthppbgndiplgnaaGreatDoorG10
set_option maxRecDepth 100000
set_option maxHeartbeats 1000000
namespace Go.Proofs.YthppbgndiplgnaaGreatDoor
open Go.RowKit Go.Maps
theorem I4(b g i h m n D c t w)(f:CN b g i (.map (some m)) h c w)(l:Bh m n D w)(r:t.i6.size≤4000):
 Calls Tryz.prog 121 #[.pointer (some ⟨b,0,none⟩),Jd t] w fun e p=>e=.returned (.tuple #[])∧CN b g i (.map (some m)) h (Cx D t c) p∧Ab (fun k=>k=b) w p:=by
 have v:=Ao f 2;simp only [aU,aS,aT] at v;have x:=Ae f;obtain ⟨z,o,_,_⟩:=ER (w:=(w.alloc (.cells #[.string t.i6,.int .i64 t.i9] 92)).drew) (l.f8 (((Ab.refl (fun _=>False) w).alloc _).drew) (fun q=>q)) r;have j:=Aa f;clear f l;unfold Jd;cases a:Maps.has D (Bj t.i6) with
 | true=>
   rw [a] at o;have d:Cx D t c=c:=by simp [Cx,a]
   rw [d];clear d a;go_enter Tryz.func121,Tryz.ntmps121;go_wp2;go_region;go_wp2;go_end0;exact ⟨rfl,j.o.f8 (((Ab.refl (fun _=>False) w).alloc _).drew) (fun q=>q),((Ab.refl _ w).alloc _).drew⟩
 | false=>
   rw [a] at o;have d:Cx D t c=BK 6 t.i9 c:=by simp [Cx,a]
   rw [d];clear d a;go_enter Tryz.func121,Tryz.ntmps121;go_wp2;go_region;go_wp2_with (go_at_call 49;refine (Cg b 6 t.i9 g i (.map (some m)) h c _ (j.o.f8 (((Ab.refl (fun _=>False) w).alloc _).drew) (fun q=>q))).mono ?_);rintro e y ⟨rfl,u,s⟩;go_wp2;go_end0;exact ⟨rfl,u,(((Ab.refl _ w).alloc _).drew).trans s⟩
theorem EF{m n p:Nat}{D:DataW Unit}{w:World}{s:ByteArray}(h:Bh m n D w)(e:s.size≤4000)(j:p≤4000)(i:n≤4000):
 ∃a,(Instr.mapUpdate 87 (.map (some m)) (.string s) (.int .i64 p)).run Tryz.prog w=.ok () a∧Bh m (n+1) (D.put (Bj s) (.lit (.int .i64 p))) a∧Ab (fun k=>k=m) w a:=by
 have g:(Lit.int .i64 (p:Int)).wf=true:=WalkArith.wf_i64 (by omega);obtain ⟨a,f,b,c⟩:=World.ownsMap.store h KB Tryz.underlying87 (by unfold maxLen;omega) (Iu e) (plainElem_int Tryz.underlying3 g);exact ⟨a,f,b,(Ab.refl _ w).grown c.grown (fun k d=>.inl (by cases d;rfl))⟩
def EM(D:DataW Unit)(t:PT)(c:CS):CS:=
 let a:=if 12≤Maps.size D then BK 4 t.i9 c else c
 if Maps.has D (Bj t.i6) then BK 5 t.i9 a else a
def G8(D:DataW Unit)(t:PT):DataW Unit:=D.put (Bj t.i6) (.lit (.int .i64 t.i9))
theorem Jo(b M R P m n D c t w)(X:CN b M R P (.map (some m)) c w)(hm:Bh m n D w)(J:t.i6.size≤4000)(U:t.i9≤4000)(T:n≤4000):
 Calls Tryz.prog 81 #[.pointer (some ⟨b,0,none⟩),Jd t] w fun e w'=>e=.returned (.tuple #[])∧CN b M R P (.map (some m)) (EM D t c) w'∧Bh m (n+1) (G8 D t) w'∧Ab (fun k=>k=b∨k=m) w w':=by
 have r3:=Ao X 3;simp only [aU,aS,aT] at r3;have lr:=Ae X;have HR:=Aa X;have HM:=Aa hm;clear X hm;unfold Jd;have S:=Aa (HR.o.f8 ((Ab.refl (fun _=>False) w).alloc (.cells #[.string t.i6,.int .i64 t.i9] 92)) (fun q=>q));have K:=Aa (HM.o.f8 ((Ab.refl (fun _=>False) w).alloc (.cells #[.string t.i6,.int .i64 t.i9] 92)) (fun q=>q));have N0:=Aa (Ar.new w #[.string t.i6,.int .i64 t.i9] 92);have O0:=Aa ((Ab.refl (fun k=>k=b) w).alloc (.cells #[.string t.i6,.int .i64 t.i9] 92));have a1:=fun ty=>World.ownsMap.len K.o Tryz.underlying87 ty
 by_cases Y:12≤Maps.size D
 ·have a2:(12:Int)≤(Maps.size D:Int):=by omega
  obtain ⟨i,I⟩:∃i,BK 4 t.i9 c=i:=⟨_,rfl⟩;have N:EM D t c=if Maps.has D (Bj t.i6) then BK 5 t.i9 i else i:=by simp [EM,Y,I]
  rw [N];have C1:=Aa I;clear N I Y;go_enter Tryz.func81,Tryz.ntmps81;go_wp2_with (go_at_call 49;refine (Cg b 4 t.i9 M R P (.map (some m)) c _ S.o).mono ?_);rw [C1.o];rintro e W ⟨rfl,kw,Z⟩;have j:=Aa kw;have l:=Aa (Bh.f8 K.o Z (Bh.ne K.o S.o));have o:=Aa (Ar.f8 N0.o Z (by omega));have L:=Aa (O0.o.trans Z);clear kw Z a1 r3;go_wp2;have E:=Ao j.o 3;have B:=Ao o.o 0;have C:=Ao o.o 1;simp only [aU,aS,aT] at E B C;obtain ⟨z,p,_,_⟩:=ER (w:=W.drew) (Bh.f8 l.o ((Ab.refl (fun _=>False) W).drew) (fun q=>q)) J;cases d:Maps.has D (Bj t.i6) with
  | true=> rw [d] at p;have s:=Aa d;clear d;go_region;go_wp2_with (go_at_call 49;refine (Cg b 5 t.i9 M R P (.map (some m)) i _ (Ar.f8 j.o ((Ab.refl (fun _=>False) W).drew) (fun q=>q))).mono ?_);rintro e V ⟨rfl,O,Q⟩;have r:Ab (fun k=>k=b) W V:=((Ab.refl _ W).drew).trans Q;have a:=Aa O;have f:=Aa (Bh.f8 l.o r (Bh.ne l.o j.o));have g:=Aa (Ar.f8 o.o r (by omega));have u:=Aa (L.o.trans r);clear O Q r p E B C;obtain ⟨v,a0,x,y⟩:=EF (w:=V.drew) (Bh.f8 f.o ((Ab.refl (fun _=>False) V).drew) (fun q=>q)) J U T;have H:=Ao a.o 3;have F:=Ao g.o 0;have G:=Ao g.o 1;simp only [aU,aS,aT] at H F G;go_wp2;go_region;go_end0;have h:Ab (fun k=>k=m) V v:=((Ab.refl _ V).drew).trans y;have A:=f.o.ne a.o;rw [cU s.o];exact ⟨rfl,Ar.f8 a.o h (fun q=>A q.symm),x,(u.o.mono (fun _ _ q=>.inl q)).trans (h.mono (fun _ _ q=>.inr q))⟩
  | false=> rw [d] at p;have s:=Aa d;clear d;go_region;have a:=Aa (Ar.f8 j.o ((Ab.refl (fun _=>False) W).drew) (fun q=>q));have f:=Aa (Bh.f8 l.o ((Ab.refl (fun _=>False) W).drew) (fun q=>q));have g:=Aa (Ar.f8 o.o ((Ab.refl (fun _=>False) W).drew) (fun q=>q));have u:=Aa (L.o.drew);generalize hV:W.drew=V at*;clear p E B C hV;obtain ⟨v,a0,x,y⟩:=EF (w:=V.drew) (Bh.f8 f.o ((Ab.refl (fun _=>False) V).drew) (fun q=>q)) J U T;have H:=Ao a.o 3;have F:=Ao g.o 0;have G:=Ao g.o 1;simp only [aU,aS,aT] at H F G;go_wp2;go_region;go_end0;have h:Ab (fun k=>k=m) V v:=((Ab.refl _ V).drew).trans y;have A:=f.o.ne a.o;rw [cT (by rw [s.o];decide)];exact ⟨rfl,Ar.f8 a.o h (fun q=>A q.symm),x,(u.o.mono (fun _ _ q=>.inl q)).trans (h.mono (fun _ _ q=>.inr q))⟩
 ·have a2:¬(12:Int)≤(Maps.size D:Int):=by omega
  obtain ⟨i,I⟩:∃i,c=i:=⟨_,rfl⟩;have N:EM D t c=if Maps.has D (Bj t.i6) then BK 5 t.i9 i else i:=by simp [EM,Y,I]
  rw [N];clear N Y;subst I;go_enter Tryz.func81,Tryz.ntmps81;go_wp2;generalize w.alloc (.cells #[.string t.i6,.int .i64 t.i9] 92)=W at*;have j:=S;have l:=K;have o:=N0;have L:=O0;clear a1 r3 S K N0 O0;have E:=Ao j.o 3;have B:=Ao o.o 0;have C:=Ao o.o 1;simp only [aU,aS,aT] at E B C;obtain ⟨z,p,_,_⟩:=ER (w:=W.drew) (Bh.f8 l.o ((Ab.refl (fun _=>False) W).drew) (fun q=>q)) J;cases d:Maps.has D (Bj t.i6) with
  | true=> rw [d] at p;have s:=Aa d;clear d;go_region;go_wp2_with (go_at_call 49;refine (Cg b 5 t.i9 M R P (.map (some m)) c _ (Ar.f8 j.o ((Ab.refl (fun _=>False) W).drew) (fun q=>q))).mono ?_);rintro e V ⟨rfl,O,Q⟩;have r:Ab (fun k=>k=b) W V:=((Ab.refl _ W).drew).trans Q;have a:=Aa O;have f:=Aa (Bh.f8 l.o r (Bh.ne l.o j.o));have g:=Aa (Ar.f8 o.o r (by omega));have u:=Aa (L.o.trans r);clear O Q r p E B C;obtain ⟨v,a0,x,y⟩:=EF (w:=V.drew) (Bh.f8 f.o ((Ab.refl (fun _=>False) V).drew) (fun q=>q)) J U T;have H:=Ao a.o 3;have F:=Ao g.o 0;have G:=Ao g.o 1;simp only [aU,aS,aT] at H F G;go_wp2;go_region;go_end0;have h:Ab (fun k=>k=m) V v:=((Ab.refl _ V).drew).trans y;have A:=f.o.ne a.o;rw [cU s.o];exact ⟨rfl,Ar.f8 a.o h (fun q=>A q.symm),x,(u.o.mono (fun _ _ q=>.inl q)).trans (h.mono (fun _ _ q=>.inr q))⟩
  | false=> rw [d] at p;have s:=Aa d;clear d;go_region;have a:=Aa (Ar.f8 j.o ((Ab.refl (fun _=>False) W).drew) (fun q=>q));have f:=Aa (Bh.f8 l.o ((Ab.refl (fun _=>False) W).drew) (fun q=>q));have g:=Aa (Ar.f8 o.o ((Ab.refl (fun _=>False) W).drew) (fun q=>q));have u:=Aa (L.o.drew);generalize hV:W.drew=V at*;clear p E B C hV;obtain ⟨v,a0,x,y⟩:=EF (w:=V.drew) (Bh.f8 f.o ((Ab.refl (fun _=>False) V).drew) (fun q=>q)) J U T;have H:=Ao a.o 3;have F:=Ao g.o 0;have G:=Ao g.o 1;simp only [aU,aS,aT] at H F G;go_wp2;go_region;go_end0;have h:Ab (fun k=>k=m) V v:=((Ab.refl _ V).drew).trans y;have A:=f.o.ne a.o;rw [cT (by rw [s.o];decide)];exact ⟨rfl,Ar.f8 a.o h (fun q=>A q.symm),x,(u.o.mono (fun _ _ q=>.inl q)).trans (h.mono (fun _ _ q=>.inr q))⟩
def Fj(D:DataW Unit)(l:List PT)(c:CS):CS:=l.foldl (fun c t=>Cx D t c) c
theorem N5(D:DataW Unit)(l:List PT)(k:Nat)(h:k<l.length)(c:CS):Fj D (l.drop k) c=Fj D (l.drop (k+1)) (Cx D l[k] c):=by rw [bG h];rfl
theorem Fa{l i}(h:i<l.length):(BG l)[i*2]? =some (.string l[i].i6)∧(BG l)[i*2+1]? =some (.int .i64 l[i].i9):=by
 induction l generalizing i with
 | nil=>simp at h
 | cons t l a=>
   cases i with
   | zero=>simp [BG,E9]
   | succ i=>
     have:=a (i:=i) (by simpa using h);simp only [BG,List.flatMap_cons,cK] at this⊢;have e:∀j,(E9 t++List.flatMap E9 l)[(i+1)*2+j]? =(List.flatMap E9 l)[i*2+j]? :=by intro j;rw [cV (by simp [E9];omega)];congr 1;simp [E9];omega
     exact ⟨by rw [show (i+1)*2=(i+1)*2+0 from rfl,e];exact this.1,by rw [e];exact this.2⟩
theorem Fu(b j r p m n D c l z w)(h:CN b j r p (.map (some m)) c w)(u:Bh m n D w)(f:w.ownsRow 0 92 2 z l.length (BG l))(K:∀t,t∈l→t.i6.size≤4000)(T:l.length≤4000):
 Calls Tryz.prog 123 #[.pointer (some ⟨b,0,none⟩),z] w fun e F=>e=.returned (.tuple #[])∧CN b j r p (.map (some m)) (Fj D l c) F∧Ab (fun k=>k=b) w F:=by
 obtain ⟨Z,vl,vc,rfl⟩:=Ad f;have S:=Ah f;subst S;have Y:=Ae h;have N:=Ap f h (by decide);have M:=u.ne h;generalize A:Fj D l c=V;have x:dJ (Fj D (l.drop 0) c=V):=A;have v:=Aa h;have G:=Aa u;have y:=Aa f;clear A h u f;go_enter Tryz.func123,Tryz.ntmps123;go_wp2;go_loopw [8] (fun i wr=>∃(k:Nat) (a:CS),k≤l.length∧i=.int .i64 k∧dJ (CN b j r p (.map (some m)) a wr)∧dJ (Ab (fun k=>k=b) w wr)∧dJ (Fj D (l.drop k) a=V)) (fun i _=>l.length-(intOf i).toNat)
 case atStart=>exact ⟨0,c,by omega,rfl,v,Aa (Ab.refl _ _),x⟩
 case round=>
  obtain ⟨k,a,U,rfl,C,d,E⟩:=hrel;clear x v;by_cases B:k<l.length
  ·obtain ⟨g,rfl⟩:=As y.o (by omega);have o:=Ac y.o d.o N;have J:=Aa (Bh.f8 G.o d.o M);have s:=Fa B;have H:=o.cellAt (k*2) (by omega);have I:=o.cellAt (k*2+1) (by omega);rw [s.1] at H;rw [s.2] at I;have X:=(o.lt g rfl).2;have Q:=Aa (N5 D l k B a);have L:=K l[k] (bD _);generalize l[k]=t at*;have W:=d.o.size;clear s o;go_wp2_with (go_at_call 120;refine (Ev b j r p m n D a t _ (Ar.f8 C.o ((Ab.refl (fun _=>False) _).alloc _) (fun q=>q)) (Bh.f8 J.o ((Ab.refl (fun _=>False) _).alloc _) (fun q=>q)) L).mono ?_;rintro e w2 ⟨rfl,P,O⟩);go_round
   case rel=>exact ⟨k+1,_,by omega,by go_num,Aa P,Aa (d.o.trans (((Ab.refl _ _).alloc _).trans O)),Aa (Q.o.symm.trans E.o)⟩
   case measure=>simp [intOf];omega
  ·have e:k=l.length:=by omega
   subst e;have R:a=V:=by have:=E.o;simpa [Fj] using this
   subst R;go_wp2;go_end0;exact ⟨rfl,C.o,d.o⟩
theorem BN:∀{a:List (List Value)} {s:Nat},(∀c,c∈a→c.length=s)→∀{j i:Nat} (b:j<a.length),i<s→a.flatten[j*s+i]? =a[j][i]?
 | [],_,_,_,_,b,_=>by simp at b
 | c::a,s,d,0,i,_,g=>by have f:=d c (by simp);simp only [Nat.zero_mul,cB,List.flatten_cons,bQ];rw [cW (by omega)]
 | c::a,s,d,j+1,i,b,g=>by
   have f:=d c (by simp);have h:j<a.length:=by simpa using b
   have e:(j+1)*s+i=s+(j*s+i):=by rw [Nat.succ_mul];omega
   simp only [List.flatten_cons,cK];rw [e,cV (by omega),f,Nat.add_sub_cancel_left];exact BN (fun x k=>d x (by simp [k])) h g
theorem DF.f8{d}{U:Nat→Prop}{w w' sv a}{X:Nat→Prop}(h:DF d U w sv a)(c:Ab X w w')(e:∀k,U k→¬X k):DF d U w' sv a:=by obtain ⟨f,l,m,b,n⟩:=h;exact ⟨f,Ac l c (fun k o=>e k (b k o)),m,b,fun j g i=>(n j g i).f8 c e⟩
theorem DF.get{d}{U:Nat→Prop}{w g l c a}(h:DF d U w (.slice (some ⟨g,0,none⟩) l c) a){j}(t:j<a.length):
 ∃(b f:Value),(∀i,i<5→w.cell? ⟨g,j*5+i,none⟩=(Lx a[j] b f)[i]?)∧w.ownsRow 0 92 2 b a[j].p8.length (BG a[j].p8)∧(∀k,b.ownBlock=some k→U k)∧CU d U w f a[j].Yg:=by
 obtain ⟨n,o,C,D,p⟩:=h;have v:=Ah o;subst v;have q:j<n.length:=by omega
 obtain ⟨b,f,e,z,A,B⟩:=p j t q;have u:∀x,x∈n→x.length=5:=by intro x y;obtain ⟨i,m,rfl⟩:=bS.1 y;obtain ⟨_,_,r,_⟩:=p i (by omega) m;rw [r];rfl
 refine ⟨b,f,fun i m=>?_,z,A,B⟩;have s:=o.cellAt (j*5+i) (by omega);rw [s,BN u q m,e];simp
def J2(F:DataW Unit)(N:Nat):Prop:=∀s,Maps.has F (Bj s)=true→∃j:Nat,j<N∧F.atKey (Bj s) (.lit (.int .i64 0))=.lit (.int .i64 j)
def Ce(F:DataW Unit)(s:ByteArray):Nat:=match F.atKey (Bj s) (.lit (.int .i64 0)) with | .lit (.int _ z)=>z.toNat | _=>0
def IB(a:List TF)(j:Nat):Nat:=(a[j]?.map (fun t=>t.p8.length)).getD 0
def Ee(F:DataW Unit)(b:List TF)(t:PT)(a:Nat)(c:CS):CS:=
 if Maps.has F (Bj t.i6) then (if IB b (Ce F t.i6)=a then c else BK 7 t.i9 c) else BK 6 t.i9 c
theorem Pj(b d:Nat)(U:Nat→Prop)(s:Value)(f:List TF)(B:Int)(A:Value)(m n:Nat)(F:DataW Unit)(c:CS)(t:PT)(a:Nat)(w:World)(p:CN b s B (.map (some m)) A c w)(K:Bh m n F w)(x:DF d U w s f)(T:J2 F f.length)(X:t.i6.size≤4000)(hk:f.length≤4001):
 Calls Tryz.prog 122 #[.pointer (some ⟨b,0,none⟩),Jd t,.int .i64 a] w fun e N=>e=.returned (.tuple #[])∧CN b s B (.map (some m)) A (Ee F f t a c) N∧Ab (fun k=>k=b) w N:=by
 have M:=Ao p 0;have r2:=Ao p 2;simp only [aU,aS,aT] at M r2;have lr:=Ae p;obtain ⟨z,L,D,_⟩:=ER (w:=(w.alloc (.cells #[.string t.i6,.int .i64 t.i9] 92)).drew) (K.f8 (((Ab.refl (fun _=>False) w).alloc _).drew) (fun q=>q)) X;have C:=Aa p;clear p K;unfold Jd;cases h:Maps.has F (Bj t.i6) with
 | false=>
   rw [h] at L;have i:Ee F f t a c=BK 6 t.i9 c:=by simp [Ee,h]
   rw [i];clear i h x M;go_enter Tryz.func122,Tryz.ntmps122;go_wp2;go_region;go_wp2_with (go_at_call 49;refine (Cg b 6 t.i9 s B (.map (some m)) A c _ (C.o.f8 (((Ab.refl (fun _=>False) w).alloc _).drew) (fun q=>q))).mono ?_);rintro e w2 ⟨rfl,I,H⟩;go_wp2;refine bC (v:=.tuple #[]) (by simp [results,Tryz.results122,go_sem]) rfl ⟨rfl,I,(((Ab.refl _ w).alloc _).drew).trans H⟩
 | true=>
   rw [h] at L;obtain ⟨j,J,E⟩:=T _ h;have hz:z=(j:Int):=by rw [E] at D;simpa using D.symm
   have u:Ce F t.i6=j:=by simp [Ce,E]
   have y:IB f j=f[j].p8.length:=by simp [IB,J]
   subst hz;have W:=x;obtain ⟨a0,r,_⟩:=W;obtain ⟨va,vl,vc,rfl⟩:=Ad r;obtain ⟨g,rfl⟩:=As r (by omega);have Z:=Ah r;subst Z;have lg:=(r.lt g rfl).2;obtain ⟨av,sv,l,G,_,_⟩:=x.get J;obtain ⟨aa,al,ac,rfl⟩:=Ad G;have V:=Ah G;subst V;have Q:=l 2 (by omega);have O:=l 0 (by omega);have P:=l 1 (by omega);have R:=l 3 (by omega);have S:=l 4 (by omega);simp only [Lx,aU,aS,aT,bK] at O P Q R S;clear r G l x D E;by_cases o:f[j].p8.length=a
   ·have i:Ee F f t a c=c:=by simp [Ee,h,u,y,o]
    rw [i];have Y:((f[j].p8.length:Int) !=(a:Int))=false:=by simp [o]
    clear i h u y o;go_enter Tryz.func122,Tryz.ntmps122;go_wp2;go_region;go_wp2;go_end0;exact ⟨rfl,C.o.f8 (((Ab.refl (fun _=>False) w).alloc _).drew) (fun q=>q),((Ab.refl _ w).alloc _).drew⟩
   ·have i:Ee F f t a c=BK 7 t.i9 c:=by simp [Ee,h,u,y,o]
    rw [i];have Y:((f[j].p8.length:Int) !=(a:Int))=true:=by simp;omega
    clear i h u y o;go_enter Tryz.func122,Tryz.ntmps122;go_wp2;go_region;go_wp2_with (go_at_call 49;refine (Cg b 7 t.i9 _ B (.map (some m)) A c _ (C.o.f8 (((Ab.refl (fun _=>False) w).alloc _).drew) (fun q=>q))).mono ?_);rintro e w2 ⟨rfl,I,H⟩;go_wp2;go_end0;exact ⟨rfl,I,(((Ab.refl _ w).alloc _).drew).trans H⟩
structure RF where
 name:Tk
 Yn:List Tk
 Yd:List Nat
 br:Nat
 m9:List ByteArray
def JB(f:RF)(b a c:Value):Array Value:=#[.string f.name.i6,.int .i64 f.name.pos,.int .i64 f.name.sort,b,a,.int .i64 f.br,c]
def AB(B:Nat)(w:World)(v:Value)(l:List ByteArray):Prop:=w.ownsRow B 9 1 v l.length (l.map Value.string)
def Ni(B:Nat)(w:World)(c:List Value)(f:RF):Prop:=∃b a d,c=(JB f b a d).toList∧DO B w b f.Yn∧AD B w a f.Yd∧AB B w d f.m9
def OS(c:List Value):Value:=c[6]?.getD (.bool false)
def Cp(B:Nat)(w:World)(c:Value)(b:List RF):Prop:=
 ∃a:List (List Value),w.ownsRow B 67 7 c b.length a.flatten∧a.length=b.length∧(∀i (h:i<a.length) (d:i<b.length),Ni B w a[i] b[i])∧∀i j (e:i<a.length) (f:j<a.length),i≠j→∀k,(OS a[i]).ownBlock=some k→(OS a[j]).ownBlock≠some k
theorem Ni.f8{B w w' c f}{X:Nat→Prop}(h:Ni B w c f)(e:Ab X w w')(g:∀k a t b,X k→w.heap[k]? =some (.cells a t b)→t≠3∧t≠64∧t≠9):Ni B w' c f:=by obtain ⟨o,i,p,l,m,j,n⟩:=h;exact ⟨o,i,p,l,Am m e (fun k a b d q=>(g k a _ b d q).2.1 rfl),Am j e (fun k a b d q=>(g k a _ b d q).1 rfl),Am n e (fun k a b d q=>(g k a _ b d q).2.2 rfl)⟩
theorem Cp.f8{B w w' b c}{X:Nat→Prop}(h:Cp B w b c)(d:Ab X w w')(o:∀k,b.ownBlock=some k→¬X k)(p:∀k a t e,X k→w.heap[k]? =some (.cells a t e)→t≠3∧t≠64∧t≠9):Cp B w' b c:=by obtain ⟨a,n,l,m,j⟩:=h;exact ⟨a,Ac n d o,l,fun i f g=>(m i f g).f8 d p,j⟩
theorem Cp.p6{B w c b a}(h:Cp B w b a)(d:Ab (fun _=>False) w c):Cp B c b a:=h.f8 d (fun _ _ q=>q) (fun _ _ _ _ q=>q.elim)
theorem Cp.get{B w g l c a}(h:Cp B w (.slice (some ⟨g,0,none⟩) l c) a){i}(v:i<a.length):
 ∃d b f,(∀j,j<7→w.cell? ⟨g,i*7+j,none⟩=(JB a[i] d b f)[j]?)∧DO B w d a[i].Yn∧AD B w b a[i].Yd∧AB B w f a[i].m9:=by
 obtain ⟨m,p,C,o,A⟩:=h;have y:=Ah p;subst y;have n:i<m.length:=by omega
 have t:∀x,x∈m→x.length=7:=by intro x z;obtain ⟨j,k,rfl⟩:=bS.1 z;obtain ⟨_,_,_,e,_⟩:=o j k (by omega);rw [e];rfl
 obtain ⟨d,b,f,e,q,r,s⟩:=o i n v;refine ⟨d,b,f,fun j k=>?_,q,r,s⟩;have u:=p.cellAt (i*7+j) (by omega);rw [u,BN t n k,e];simp
def CB:List ByteArray→ByteArray→Nat→Int
 | [],_,_=> -1
 | a::l,s,k=>if a.toList=s.toList then (k:Int) else CB l s (k+1)
theorem Nt(l:List ByteArray)(s:ByteArray)(k:Nat)(h:k<l.length):CB (l.drop k) s k=if l[k].toList=s.toList then (k:Int) else CB (l.drop (k+1)) s (k+1):=by rw [bG h];rfl
theorem Ex{a b:ByteArray}(h:a.toList=b.toList):a=b:=by rw [dG,dG] at h;exact ByteArray.ext (Array.toList_inj.1 h)
theorem Dt(l s):∀k,(0≤CB l s k↔s∈l)∧ -1≤CB l s k∧CB l s k<k+l.length:=by
 induction l with
 | nil=>intro k;simp [CB];omega
 | cons a l d=>
   intro k;rw [CB];split
   ·rename_i h;have:=Ex h;subst this;exact ⟨⟨fun _=>cS ..,fun _=>by omega⟩,by omega,by simp;omega⟩
   ·rename_i h;obtain ⟨b,c,e⟩:=d (k+1);refine ⟨⟨fun q=>bN _ (b.1 q),fun q=>?_⟩,c,by simp only [aX];omega⟩;rcases cM.1 q with q | q
    ·subst q;exact dC rfl h
    ·exact b.2 q
theorem EO(B v l s w)(h:AB B w v l)(y:l.length≤4001):
 Calls Tryz.prog 37 #[v,.string s] w fun e u=>e=.returned (.int .i64 (CB l s 0))∧u=w:=by
 obtain ⟨A,D,C,rfl⟩:=Ad h;have t:=Ah h;subst t;generalize n:CB l s 0=V;have m:dJ (CB (l.drop 0) s 0=V):=n;have j:=Aa h;clear n h;go_enter Tryz.func37,Tryz.ntmps37;go_wp2;go_loopw [5] (fun i wr=>∃k:Nat,k≤l.length∧i=.int .i64 k∧wr=w∧dJ (CB (l.drop k) s k=V)) (fun i _=>l.length-(intOf i).toNat)
 case atStart=>exact ⟨0,by omega,rfl,rfl,m⟩
 case round=>
  obtain ⟨k,x,rfl,rfl,d⟩:=hrel;clear m;by_cases p:k<l.length
  ·obtain ⟨g,rfl⟩:=As j.o (by omega);have c:=j.o.cellAt k (by omega);rw [bY,aY p] at c;simp only [Option.map_some] at c;have z:=(j.o.lt g rfl).2;have b:=Nt l s k p;generalize l[k]=a at c b;cases o:(a.toList==s.toList) with
   | true=>
     have f:a.toList=s.toList:=by simpa using o
     rw [cU f,d.o] at b;subst b;clear d f;go_wp2;go_ret;exact ⟨rfl,rfl⟩
   | false=>
     have f:¬a.toList=s.toList:=by simpa using o
     rw [cT f,d.o] at b;have q:=Aa b;clear d f b;go_wp2;go_round
     case rel=>exact ⟨k+1,by omega,by go_num,by trivial,q.o.symm⟩
     case measure=>simp [intOf];omega
  ·have e:k=l.length:=by omega
   subst e;have r:V= -1:=by have:=d.o;rw [cZ] at this;exact this.symm
   subst r;clear d;go_wp2;go_ret;exact ⟨rfl,rfl⟩
theorem Dl(B y G A r H b s w)(o:Cr y r H G A w)(h:Cp B w r b)(L:b.length≤4001):
 Calls Tryz.prog 15 #[.pointer (some ⟨y,0,none⟩),.string s] w fun e I=>e=.returned (.int .i64 (CB (b.map fun f=>f.name.i6) s 0))∧I=w:=by
 have n:=h;obtain ⟨C,j,_⟩:=n;obtain ⟨P,R,Q,rfl⟩:=Ad j;have E:=Ah j;subst E;have F:=o.l9.cell 0;simp at F;have N:=Ae o;generalize t:CB (b.map fun f=>f.name.i6) s 0=V;have q:dJ (CB ((b.map fun f=>f.name.i6).drop 0) s 0=V):=t;have p:=Aa h;clear t h j o;go_enter Tryz.func15,Tryz.ntmps15;go_wp2;go_loopw [5] (fun i wr=>∃k:Nat,k≤b.length∧i=.int .i64 k∧wr=w∧dJ (CB ((b.map fun f=>f.name.i6).drop k) s k=V)) (fun i _=>b.length-(intOf i).toNat)
 case atStart=>exact ⟨0,by omega,rfl,rfl,q⟩
 case round=>
  obtain ⟨k,K,rfl,rfl,l⟩:=hrel;clear q;by_cases x:k<b.length
  ·have n:=p.o;obtain ⟨C,j,_⟩:=n;obtain ⟨g,rfl⟩:=As j (by omega);have M:=(j.lt g rfl).2;obtain ⟨O,J,S,u,_,_,_⟩:=p.o.get x;have c:=u 0 (by omega);simp only [JB,aU,aS,bK] at c;have d:=Nt (b.map fun f=>f.name.i6) s k (by simpa using x);rw [cH] at d;clear u j;generalize b[k].name.i6=a at c d;cases v:(a.toList==s.toList) with
   | true=>
     have m:a.toList=s.toList:=by simpa using v
     rw [cU m,l.o] at d;subst d;clear l m;go_wp2;go_ret;exact ⟨rfl,rfl⟩
   | false=>
     have m:¬a.toList=s.toList:=by simpa using v
     rw [cT m,l.o] at d;have z:=Aa d;clear l m d;go_wp2;go_round
     case rel=>exact ⟨k+1,by omega,by go_num,by trivial,z.o.symm⟩
     case measure=>simp [intOf];omega
  ·have e:k=b.length:=by omega
   subst e;have D:V= -1:=by have:=l.o;rw [List.drop_of_length_le (by simp)] at this;exact this.symm
   subst D;clear l;go_wp2;go_ret;exact ⟨rfl,rfl⟩
def Bg(e p:Nat)(c:CS):CS:=if c.Ym=0∨p<c.i9∨(p=c.i9∧e<c.Ym) then ⟨e,p⟩ else c
def Ia(b:Nat)(c:CS)(w:World):Prop:=Ar b #[.int .i64 c.i9,.int .i64 c.Ym] 58 w
theorem Cf(b e p:Nat)(c:CS)(w:World)(h:Ia b c w):
 Calls Tryz.prog 14 #[.pointer (some ⟨b,0,none⟩),.int .i64 e,.int .i64 p] w fun r s=>r=.returned (.tuple #[])∧Ia b (Bg e p c) s∧Ab (fun k=>k=b) w s:=by
 have o:=Ao h 0;have q:=Ao h 1;have y:=fun i=>Aw h i
 simp only [aU,aS,aT] at o q;have z:=Ae h;have j:=Aa h;clear h;obtain ⟨d,f⟩:=c;simp only at o q;by_cases g:d=0
 ·have a:Bg e p ⟨d,f⟩=⟨e,p⟩:=by simp [Bg,g]
  rw [a];have t:((d:Int)==0)=true:=by simp [g]
  clear a g;go_enter Tryz.func14,Tryz.ntmps14;go_wp2;go_end0;refine ⟨rfl,?_,((Ab.refl _ _).p7 1 _).p7 0 _⟩;have:=(Ar.set (w:=w) j.o 1 (.int .i64 e)).set 0 (.int .i64 p);simpa [Ia] using this
 ·have t:((d:Int)==0)=false:=by simp [g]
  by_cases m:p<f
  ·have a:Bg e p ⟨d,f⟩=⟨e,p⟩:=by simp [Bg,m]
   rw [a];have u:decide ((p:Int)<(f:Int))=true:=by simp [m]
   clear a g;go_enter Tryz.func14,Tryz.ntmps14;go_wp2;go_end0;refine ⟨rfl,?_,((Ab.refl _ _).p7 1 _).p7 0 _⟩;have:=(Ar.set (w:=w) j.o 1 (.int .i64 e)).set 0 (.int .i64 p);simpa [Ia] using this
  ·have u:decide ((p:Int)<(f:Int))=false:=by simp;omega
   by_cases l:p=f
   ·have v:((p:Int)==(f:Int))=true:=by simp [l]
    by_cases n:e<d
    ·have a:Bg e p ⟨d,f⟩=⟨e,p⟩:=by simp [Bg,l,n]
     rw [a];have x:decide ((e:Int)<(d:Int))=true:=by simp [n]
     clear a g l;go_enter Tryz.func14,Tryz.ntmps14;go_wp2;go_end0;refine ⟨rfl,?_,((Ab.refl _ _).p7 1 _).p7 0 _⟩;have:=(Ar.set (w:=w) j.o 1 (.int .i64 e)).set 0 (.int .i64 p);simpa [Ia] using this
    ·have a:Bg e p ⟨d,f⟩=⟨d,f⟩:=by unfold Bg;rw [cT (by simp only;omega)]
     rw [a];have x:decide ((e:Int)<(d:Int))=false:=by simp;omega
     clear a g l;go_enter Tryz.func14,Tryz.ntmps14;go_wp2;go_end0;exact ⟨rfl,j.o,Ab.refl _ _⟩
   ·have a:Bg e p ⟨d,f⟩=⟨d,f⟩:=by unfold Bg;rw [cT (by simp only;omega)]
    rw [a];have v:((p:Int)==(f:Int))=false:=by simp;omega
    clear a g;go_enter Tryz.func14,Tryz.ntmps14;go_wp2;go_end0;exact ⟨rfl,j.o,Ab.refl _ _⟩
def vx(l:List ByteArray)(s:ByteArray):Nat:=(CB l s 0).toNat
structure Cb where
 kind:Nat
 Yf:Nat
 t9:Nat
 field:Nat
 Yp:Nat
 args:List Nat
 i8:Nat
 taken:Nat
structure PFn where
 name:ByteArray
 m9:List ByteArray
 p8:Nat
 m8:List Cb
structure Bd where
 p9:List ByteArray
 m8:List Cb
 pl:Nat
 ca:Nat
def AE(a:List ByteArray)(s:VS)(b:Bd):Cb:=
 {kind:=s.kind,Yf:=if s.kind=0 then b.p9.length else vx b.p9 s.tg.i6,t9:=if s.kind=4∨s.kind=7 then vx a s.sr.i6 else vx b.p9 s.sr.i6,field:=s.field,
  Yp:=if s.kind=1 then b.pl+1 else if s.kind=8 then b.ca+1 else 0,args:=s.args.map fun t=>vx b.p9 t.i6,i8:=0,taken:=0}
def BQ(s:VS)(b:Bd):Bd:=
 {b with p9:=if s.kind=0 then b.p9++[s.tg.i6] else b.p9,pl:=if s.kind=1 then b.pl+1 else b.pl,ca:=if s.kind=8 then b.ca+1 else b.ca}
def Bd.tk(b:Bd)(i n:Nat):Bd:={b with m8:=b.m8.modify i (fun s=>{s with taken:=n})}
def Bd.nx(b:Bd)(i n:Nat):Bd:={b with m8:=b.m8.modify i (fun s=>{s with i8:=n})}
mutual
def EG:TS→Nat
 | .mk _ bl=>1+Lg bl
def Lg:List (Nat×List TS)→Nat
 | []=>0
 | (_,ts)::r=>CT ts+Lg r
def CT:List TS→Nat
 | []=>0
 | t::ts=>EG t+CT ts
end
mutual
def nK(k:Nat):TS→Nat
 | .mk s bl=>(if s.kind=k then 1 else 0)+nB k bl
def nB(k:Nat):List (Nat×List TS)→Nat
 | []=>0
 | (_,ts)::r=>nL k ts+nB k r
def nL(k:Nat):List TS→Nat
 | []=>0
 | t::ts=>nK k t+nL k ts
end
def AT(c:List TS)(a:Nat)(b:Bd):Nat:=if c.length=0 then a else b.m8.length
def Av(c:List ByteArray)(s:VS)(a:Nat)(b:Bd):Bd:={BQ s b with m8:=b.m8++[{AE c s b with i8:=a}]}
mutual
def Eb(fn:List ByteArray):TS→Nat→Bd→Bd
 | .mk s [],a,b=>Av fn s a b
 | .mk s [(_,ts)],a,b=>
   if s.kind=11 then (Bl fn ts a (Av fn s a b)).tk b.m8.length (AT ts a (Av fn s a b))
   else if s.kind=12 then (Bl fn ts b.m8.length (Av fn s a b)).tk b.m8.length (AT ts b.m8.length (Av fn s a b))
   else Av fn s a b
 | .mk s ((_,ts)::(_,ts2)::_),a,b=>
   if s.kind=11 then
    let b2:=(Bl fn ts a (Av fn s a b)).tk b.m8.length (AT ts a (Av fn s a b))
    (Bl fn ts2 a b2).nx b.m8.length (AT ts2 a b2)
   else Av fn s a b
def Bl(fn:List ByteArray):List TS→Nat→Bd→Bd
 | [],_,b=>b
 | [t],a,b=>Eb fn t a b
 | t::t2::ts,a,b=>Bl fn (t2::ts) a (Eb fn t (b.m8.length+EG t) b)
end
def S8(t:TF)(b a:Nat):Bd:=⟨t.p8.map (fun p=>p.i6),[],b,a⟩
def Ie(b:List ByteArray)(t:TF)(c a:Nat):Bd:=Bl b t.Yg (CT t.Yg) (S8 t c a)
def Dp(b:List ByteArray)(t:TF)(c a:Nat):PFn:=⟨t.name.i6,(Ie b t c a).p9,t.p8.length,(Ie b t c a).m8⟩
def Bs(a:List ByteArray):List TF→Nat→Nat→List PFn
 | [],_,_=>[]
 | t::l,c,b=>Dp a t c b::Bs a l (Ie a t c b).pl (Ie a t c b).ca
def Gz(c:List ByteArray):List TF→Nat→Nat→Nat×Nat
 | [],b,a=>(b,a)
 | t::l,b,a=>Gz c l (Ie c t b a).pl (Ie c t b a).ca
structure Tg where
 kind:Nat
 Yj:Nat
 Yk:Nat
structure Vl where
 kind:Nat
 y6:Nat
structure Cl where
 nm:Tg
 v:Vl
def DL:Vl:=⟨0,0⟩
def Ak(m:List Cl)(i:Nat):Cl:=m[i]?.getD ⟨⟨0,0,0⟩,DL⟩
structure Co where
 i7:List Cl
 ch:List UInt8
 Ys:List (Tg×Tg)
 Yr:List (Nat×Nat)
def Co.set(c:Co)(a:Nat)(v:Vl):Co:=
 {c with i7:=c.i7.set a ⟨(Ak c.i7 a).nm,v⟩,Ys:=if v.kind=1 then ((Ak c.i7 a).nm,⟨2,v.y6,0⟩)::c.Ys else if v.kind=2 then ((Ak c.i7 a).nm,(Ak c.i7 v.y6).nm)::c.Ys else c.Ys}
def Co.fields(c:Co)(a:Nat):Co:={c with i7:=c.i7++[⟨⟨1,a,0⟩,DL⟩,⟨⟨1,a,1⟩,DL⟩,⟨⟨1,a,2⟩,DL⟩,⟨⟨1,a,3⟩,DL⟩]}
def Co.m9(c:Co)(f n:Nat):Co:={c with i7:=c.i7++(List.range n).map fun i=>⟨⟨0,f,i⟩,DL⟩}
def CH:List Vl→Nat→Co→Co
 | [],_,c=>c
 | v::l,a,c=>CH l (a+1) (c.set a v)
def Co.enter(c:Co)(f n:Nat)(args:List Vl):Co:=CH args c.i7.length (c.m9 f n)
def D7:List UInt8→Bool×List UInt8
 | []=>(false,[])
 | b::l=>(b==49,l)
def FI(k p q a b g:Nat)(c:Co):Option Co:=
 if k=1 then some ((c.fields b).set p ⟨2,c.i7.length⟩)
 else if k=2 then some (c.set p ⟨2,q⟩)
 else if k=3 then
  if (Ak c.i7 q).v.kind=2∧(Ak c.i7 (Ak c.i7 q).v.y6).nm.kind=1∧(Ak c.i7 (Ak c.i7 q).v.y6).nm.Yk=0 then some (c.set p ⟨2,(Ak c.i7 q).v.y6+a⟩) else none
 else if k=4 then some (c.set p ⟨1,g⟩)
 else if k=5 then if (Ak c.i7 q).v.kind=2 then some (c.set p (Ak c.i7 (Ak c.i7 q).v.y6).v) else none
 else if k=6 then some (c.set p (Ak c.i7 q).v)
 else if k=9 then if (Ak c.i7 p).v.kind=2 then some (c.set (Ak c.i7 p).v.y6 (Ak c.i7 q).v) else none
 else some c
structure Hi where
 fn:Nat
 base:Nat
 i8:Nat
 answer:Nat
structure Mc where
 c:Co
 u8:List Hi
 Yi:Nat
def AF(P:List PFn)(i:Nat):PFn:=P[i]?.getD ⟨⟨#[]⟩,[],0,[]⟩
def Jk(l:List Cb)(i:Nat):Cb:=l[i]?.getD ⟨0,0,0,0,0,[],0,0⟩
def A6(m:Mc)(v:Vl):Mc:=
 match m.u8 with
 | []=>m
 | [_]=>⟨m.c,[],2⟩
 | f::g::r=>⟨m.c.set f.answer v,g::r,m.Yi⟩
def Bc(P:List PFn):Nat→Mc→Mc
 | 0,m=>m
 | n+1,m=>
   if m.Yi=1 then
    match m.u8 with
    | []=>m
    | f::_=>if f.i8<(AF P f.fn).m8.length then m else Bc P n (A6 m DL)
   else m
def Bu(P:List PFn)(m:Mc)(f:Nat)(b:List Vl)(a:Nat):Mc:=
 if 40≤m.u8.length then {m with Yi:=4}
 else ⟨m.c.enter f (AF P f).m9.length b,⟨f,m.c.i7.length,0,a⟩::m.u8,m.Yi⟩
def BZ(b:List Cl)(a:Nat)(l:List Nat):List Vl:=l.map fun i=>(Ak b (a+i)).v
def FE(P:List PFn)(m:Mc):Mc:=
 match m.u8 with
 | []=>m
 | f::r=>
   let s:=Jk (AF P f.fn).m8 f.i8;let a:Mc:={m with u8:={f with i8:=s.i8}::r};if s.kind=7 then Bu P a s.t9 (BZ m.c.i7 f.base s.args) (f.base+s.Yf)
   else if s.kind=8 then
    let h:=(Ak m.c.i7 (f.base+s.t9)).v
    if h.kind=1∧(AF P h.y6).p8=s.args.length then
     (if 40≤m.u8.length then {a with Yi:=4}
      else Bu P {a with c:={m.c with Yr:=(s.Yp,h.y6)::m.c.Yr}} h.y6 (BZ m.c.i7 f.base s.args) (f.base+s.Yf))
    else {a with Yi:=3}
   else if s.kind=10 then A6 a (Ak m.c.i7 (f.base+s.t9)).v
   else if s.kind=11∨s.kind=12 then
    {a with c:={m.c with ch:=(D7 m.c.ch).2},u8:={f with i8:=if (D7 m.c.ch).1 then s.taken else s.i8}::r}
   else
    match FI s.kind (f.base+s.Yf) (f.base+s.t9) s.field s.Yp s.t9 m.c with
    | some c=>{a with c:=c}
    | none=>{a with Yi:=3}
def Gr(P:List PFn):Nat→Mc→Mc×Nat
 | 0,m=>(Bc P 41 m,0)
 | n+1,m=>if (Bc P 41 m).Yi=1 then Gr P n (FE P (Bc P 41 m)) else (Bc P 41 m,n+1)
structure RS where
 c:Co
 left:Nat
 m8:Nat
 Yl:Nat
 Yi:Nat
 YA:Vl
structure XF where
 m9:List ByteArray
 p8:Nat
 Yg:List TS
 pl:Nat
 ca:Nat
def Aq(X:List XF)(i:Nat):XF:=X[i]?.getD ⟨[],0,[],0,0⟩
def RS.one(s:RS):RS:={s with left:=s.left-1,m8:=s.m8+1}
def DW(a:RS→Bool×RS):Nat→RS→Bool×RS
 | 0,s=>(true,s)
 | n+1,s=>
   let b:RS:={s with c:={s.c with ch:=(D7 s.c.ch).2}};if (D7 s.c.ch).1=false then (false,b)
   else
    let r:=a b
    if r.1 then (true,r.2)
    else if r.2.left=0 then (true,{r.2 with Yi:=1})
    else DW a n r.2.one
def Cu(X:List XF)(b:Nat→Nat→List TS→Nat→Nat→RS→Bool×RS)(f:Nat)(a:List Vl)(s:RS):Bool×RS:=
 if s.Yl=40 then (false,{s with Yi:=4})
 else
  let r:=b f s.c.i7.length (Aq X f).Yg (Aq X f).pl (Aq X f).ca {s with c:=s.c.enter f (Aq X f).m9.length a,Yl:=s.Yl+1,YA:=DL}
  (r.2.Yi==0,{r.2 with Yl:=r.2.Yl-1})
def E7(X:List XF)(b:Nat→Nat→List TS→Nat→Nat→RS→Bool×RS)(f:Nat)(a:List Vl)(p:Nat)(s:RS):Bool×RS:=
 let r:=Cu X b f a s
 if r.1=false then (true,r.2) else (false,{r.2 with c:=r.2.c.set p r.2.YA,YA:=DL})
def Bi(X:List XF)(k:List ByteArray)(b:Nat→Nat→List TS→Nat→Nat→RS→Bool×RS)(n:Nat)(f a:Nat)(t:TS)(g e:Nat)(s:RS):Bool×RS:=
 match t with
 | .mk v j=>
   let i:=(Aq X f).m9;let p:=a+vx i v.tg.i6;let q:=a+vx i v.sr.i6;let d:=(j[0]?.getD (0,[])).2;let l:=(j[1]?.getD (0,[])).2;if v.kind=0 then (false,s)
   else if v.kind=11 then
    if (D7 s.c.ch).1 then b f a d g e {s with c:={s.c with ch:=(D7 s.c.ch).2}}
    else b f a l (g+nL 1 d) (e+nL 8 d) {s with c:={s.c with ch:=(D7 s.c.ch).2}}
   else if v.kind=12 then DW (b f a d g e) n s
   else if v.kind=10 then (true,{s with YA:=(Ak s.c.i7 q).v})
   else if v.kind=7 then E7 X b (vx k v.sr.i6) (BZ s.c.i7 a (v.args.map fun t=>vx i t.i6)) p s
   else if v.kind=8 then
    let h:=(Ak s.c.i7 q).v
    if h.kind=1∧(Aq X h.y6).p8=v.args.length then
     E7 X b h.y6 (BZ s.c.i7 a (v.args.map fun t=>vx i t.i6)) p {s with c:={s.c with Yr:=if s.Yl<40 then (e+1,h.y6)::s.c.Yr else s.c.Yr}}
    else (true,{s with Yi:=3})
   else
    match FI v.kind p q v.field (g+1) (vx k v.sr.i6) s.c with
    | some c=>(false,{s with c:=c})
    | none=>(true,{s with Yi:=3})
def AA(X:List XF)(a:List ByteArray):Nat→Nat→Nat→List TS→Nat→Nat→RS→Bool×RS
 | 0,_,_,_,_,_,s=>(true,s)
 | _+1,_,_,[],_,_,s=>(false,s)
 | F+1,d,b,t::f,e,c,s=>
   if s.left=0 then (true,{s with Yi:=1})
   else
    let r:=Bi X a (AA X a F) F d b t e c s.one
    if r.1=true∨r.2.Yi≠0 then (true,r.2)
    else AA X a F d b f (e+nK 1 t) (c+nK 8 t) r.2
end Go.Proofs.YthppbgndiplgnaaGreatDoor
