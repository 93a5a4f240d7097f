/- One of the texts of the proof of runs_card_holds: QtB BuE BuF0 BuF. -/
import Derived.Test.YthppbgndiplgnaaGreatDoorG37
set_option maxRecDepth 100000
set_option maxHeartbeats 8000000
namespace Go.Proofs.YthppbgndiplgnaaGreatDoor
open Go.RowKit Go.Maps
section
variable {P : Program} {b : Array Oper} {C : World → Prop}
theorem CK{S}{Q:Exit→Act→World→Prop}{a a1 w o l v}(n)(J:P.follows .mixedOrders=true)(p:MW .any (o::l).toArray n=true)
 (B:∀c a w,Q (.panic c) (a.put o.dst v) w→Q (.panic c) a w)(R:Yields P (o::l).toArray o v a)(f:C {w with drawn:=w.drawn+1})(D:a.put o.dst v=a1)
 (h:wpQuiet P (o::l).toArray C (fun e=>∀d,C d→wpList P (o::l).toArray Q (l.drop (n-1)) e d) (l.take (n-1)) a1):(Code.region S (o::l).toArray true).wp P Q a w:=by
 subst D;simp only [MW,Bool.and_eq_true,cQ] at p;obtain ⟨⟨⟨⟨⟨⟨⟨y,K⟩,W⟩,M⟩,E⟩,F⟩,x⟩,I⟩:=p;have X:n<l.length+1:=by simpa using K
 have i:(l.take (n-1)).length=n-1:=by simp;omega
 have N:(o::l).toArray.size=l.length+1:=by simp
 have r:(l.drop (n-1)).length=(o::l).toArray.size-n:=by simp;omega
 have A:(o::l).toArray[0]? =some o:=by simp
 have T:HeadInv .any (o::l).toArray n (Array.replicate (o::l).toArray.size false):=
  ⟨by simp,fun j Y _ u=>(by rw [getD_replicate_false] at u;cases u),fun t _ O=>getD_in (by simpa using O) (getD_replicate_false _ _)⟩
 have L:0∈Region.ready .any (o::l).toArray (Array.replicate (o::l).toArray.size false):=by simpa using x
 have U:=T.set L (by omega);have H:=I7 (md:=.any) (m:=1) (g:=(o::l).toArray.size-n) y M E (l.take (n-1)) 1 _ (a.put o.dst v) (fun j s=>by
  have G:j<n-1:=by rw [i] at s;exact s
  simp [G,Nat.add_comm 1 j]) (aV _) (by omega) U (by rw [i];exact I) h
 refine wp_region_any J ?_;have z:=FJ (C:=C) (Q':=Q) (g:=(o::l).toArray.size-n) (fun V e d f q=>by
  have:=wpAny_of_seq (md:=.any) (Q':=Q) (l.drop (n-1)) n V e d (fun j=>by rw [List.getElem?_drop];obtain ⟨k,rfl⟩:∃k,n=k+1:=⟨n-1,by omega⟩;simp [Nat.add_right_comm k 1 j]) (by rw [r];exact q.1) (q.2 d f)
  rwa [r] at this) _ _ _ _ f H
 rw [i,show n-1+((o::l).toArray.size-n)=l.length by omega] at z;rw [N];exact wpAny_take A y F x B R z
theorem GJ{Q:Act→Prop}{o d a}(c v)(j:Region.wanted o (yielded b a.tmps)=true)(i:∀w,C w→(execOp a.eval o).run P w=.ok (.value v) w)(g:a.put o.dst v=c)(h:wpQuiet P b C Q d c):wpQuiet P b C Q (o::d) a:=
 wpQuiet_step fun K f=>by rw [cU j];exact ⟨v,fun w e=>by unfold Oper.quietAt;rw [i w e];exact ⟨rfl,rfl⟩,by rw [g];exact f _ h⟩
theorem Hg{Q:Act→Prop}{o i a}(c v){f d}(n:Region.wanted o (yielded b a.tmps)=true)(m:∀w,C w→(execOp a.eval o).run P w=.ok (.enter f d) w)(l:∀w,C w→Calls P f d w fun e p=>e=.returned v∧C p)(k:a.put o.dst v=c)(h:wpQuiet P b C Q i c):wpQuiet P b C Q (o::i) a:=
 wpQuiet_step fun K j=>by rw [cU n];exact ⟨v,fun w g=>by unfold Oper.quietAt;rw [m w g];exact ⟨rfl,l w g⟩,by rw [k];exact j _ h⟩
end
theorem WY{P:Program}{b:Array Oper}{C:World→Prop}{Q:Act→Prop}{o:Oper}{c:List Oper}{a:Act}{d g t H U x5 x6 x7 x8 x9 i j k l m n p q r s u x y z A B D E F G I J K L M N O R S T V W X Y Z a0 a1 a2 a3 a4 a5 a6 a7 a8 a9:Value}(v:Value){f:FuncId}{args:Array Value}(hw:Region.wanted o (yielded b a.tmps)=true)(hq:∀w,C w→(execOp a.eval o).run P w=.ok (.enter f args) w)(hc:∀w,C w→Calls P f args w fun e w'=>e=.returned v∧C w')(ha:a.put o.dst v={tmps:=#[d,g,t,H,U,x5,x6,x7,x8,x9,i,j,k,l,m,n,p,q,r,s,u,x,y,z,A,B,D,E,F,G,I,J,K,L,M,N,O,R,S,T,V,W,X,Y,Z,a0,a1,a2,a3,a4,a5,a6,a7,a8,a9],defers:=[]})(h:wpQuiet P b C Q c {tmps:=#[d,g,t,H,U,x5,x6,x7,x8,x9,i,j,k,l,m,n,p,q,r,s,u,x,y,z,A,B,D,E,F,G,I,J,K,L,M,N,O,R,S,T,V,W,X,Y,Z,a0,a1,a2,a3,a4,a5,a6,a7,a8,a9],defers:=[]}):wpQuiet P b C Q (o::c) a:=Hg _ v hw hq hc ha h
theorem GB{P:Program}{b:Array Oper}{C:World→Prop}{Q:Act→Prop}{o:Oper}{c:List Oper}{a:Act}{d e r F S x5 x6 x7 x8 x9 f g i j k l m n p q s t u x y z A B D E G H I J K L M N O R T U V W X Y Z a0 a1 a2 a3 a4 a5 a6 a7:Value}(v:Value)(hw:Region.wanted o (yielded b a.tmps)=true)(hq:∀w,C w→(execOp a.eval o).run P w=.ok (.value v) w)(ha:a.put o.dst v={tmps:=#[d,e,r,F,S,x5,x6,x7,x8,x9,f,g,i,j,k,l,m,n,p,q,s,t,u,x,y,z,A,B,D,E,G,H,I,J,K,L,M,N,O,R,T,U,V,W,X,Y,Z,a0,a1,a2,a3,a4,a5,a6,a7],defers:=[]})(h:wpQuiet P b C Q c {tmps:=#[d,e,r,F,S,x5,x6,x7,x8,x9,f,g,i,j,k,l,m,n,p,q,s,t,u,x,y,z,A,B,D,E,G,H,I,J,K,L,M,N,O,R,T,U,V,W,X,Y,Z,a0,a1,a2,a3,a4,a5,a6,a7],defers:=[]}):wpQuiet P b C Q (o::c) a:=GJ _ v hw hq ha h
theorem UG(R:Act→World→Prop)(d c g i:Nat)(sa:Option Addr)(sc:Nat)(j k l m n o p r:Value)(W:World){u H T Z x5 x6 x7 x8 x9 x y z A B D E F G I J K L M N O P Q S U V X Y d7 b6 b7 b8 b9 c8 c9 d0 d1 d2 d3 a0 a2 a3 a4 a5 a6 a7 a8 a9 b0:Value}(e9:g≤4000)(f0:i≤4001)
 (b3:∀a,Ab (fun _=>False) W a→a.cell? ⟨d,3,none⟩=some (.slice sa g sc)∧a.cell? ⟨c,0,none⟩=some j∧a.cell? ⟨c,1,none⟩=some k∧a.cell? ⟨c,2,none⟩=some l∧a.cell? ⟨c,3,none⟩=some m∧a.cell? ⟨c,4,none⟩=some n∧a.cell? ⟨c,5,none⟩=some o∧a.cell? ⟨c,6,none⟩=some p∧a.cell? ⟨c,7,none⟩=some r)
 (b5:∀a,Ab (fun _=>False) W a→Calls Tryz.prog 88 #[.agg #[j,k,l,m,n,o,p,r]] a fun e t=>e=.returned (.int .i64 (i:Int))∧Ab (fun _=>False) a t)
 (b4:∀a,Ab (fun _=>False) W a→Calls Tryz.prog 87 #[.pointer (some ⟨d,0,none⟩),.agg #[j,k,l,m,n,o,p,r],.int .i64 ((g+i:Nat):Int)] a fun e t=>e=.returned (.tuple #[])∧∀(d8 d9 e0 e1 e2 e3 e4 e5 e6 e7 e8:Value),R {tmps:=#[.pointer (some ⟨d,0,none⟩),u,H,T,Z,x5,x6,x7,x8,x9,.pointer (some ⟨c,0,none⟩),x,y,z,A,B,D,E,F,G,I,J,K,L,M,N,O,P,Q,S,U,V,X,Y,d8,d9,e0,e1,e2,e3,e4,e5,e6,e7,e8,a0,a2,a3,a4,a5,a6,a7,a8,a9,b0],defers:=[]} t):
 Code.wp Tryz.prog (.region 8 #[⟨some 34,.move (.tmp 0),169, "build.go:52",#[],none⟩,⟨some 35,.load 197 (.tmp 10),197, "build.go:52",#[],none⟩,⟨some 36,.move (.tmp 0),169, "build.go:52",#[],none⟩,⟨some 37,.nilCheck (.tmp 36),0, "build.go:52",#[⟨2,.data⟩],none⟩,⟨some 38,.fieldAddr 90 (.tmp 37) 3,0, "build.go:52",#[⟨3,.data⟩],none⟩,⟨some 39,.load 88 (.tmp 38),88, "build.go:52",#[⟨4,.data⟩],none⟩,⟨some 40,.call ⟨.builtin .len,#[.tmp 39],#[88]⟩,3, "build.go:52",#[⟨5,.data⟩],none⟩,⟨some 41,.load 197 (.tmp 10),197, "build.go:52",#[],none⟩,⟨some 42,.call ⟨.value (.func 88),#[.tmp 41],#[197]⟩,3, "build.go:52",#[⟨7,.data⟩],none⟩,⟨some 43,.binOp .add 3 (.tmp 40) (.tmp 42) 3,3, "build.go:52",#[⟨6,.data⟩,⟨8,.data⟩],none⟩,⟨some 44,.call ⟨.value (.func 87),#[.tmp 34,.tmp 35,.tmp 43],#[169,197,3]⟩,0, "build.go:52",#[⟨0,.data⟩,⟨1,.data⟩,⟨9,.data⟩,⟨8,.chain⟩],none⟩] true) (Gk R) {tmps:=#[.pointer (some ⟨d,0,none⟩),u,H,T,Z,x5,x6,x7,x8,x9,.pointer (some ⟨c,0,none⟩),x,y,z,A,B,D,E,F,G,I,J,K,L,M,N,O,P,Q,S,U,V,X,Y,d7,b6,b7,b8,b9,c8,c9,d0,d1,d2,d3,a0,a2,a3,a4,a5,a6,a7,a8,a9,b0],defers:=[]} W:=by
 have d6:IntKind.i64.wrap ((g:Int)+(i:Int))=(g:Int)+(i:Int):=by rw [IntKind.wrap_i64];omega
 have s:=Aa b3;have b2:=Aa b5;have b1:=Aa b4;clear b3 b5 b4;refine CK (C:=Ab (fun _=>False) W) (v:=.pointer (some ⟨d,0,none⟩)) (a1:={tmps:=#[.pointer (some ⟨d,0,none⟩),u,H,T,Z,x5,x6,x7,x8,x9,.pointer (some ⟨c,0,none⟩),x,y,z,A,B,D,E,F,G,I,J,K,L,M,N,O,P,Q,S,U,V,X,Y,.pointer (some ⟨d,0,none⟩),b6,b7,b8,b9,c8,c9,d0,d1,d2,d3,a0,a2,a3,a4,a5,a6,a7,a8,a9,b0],defers:=[]}) 10 (by kernel_rfl) (by kernel_rfl) (fun _ _ _ h=>h) (Or.inl ⟨by rfl,fun w=>by go_simp⟩) ((Ab.refl _ W).drew) (by kernel_rfl) ?_;simp only [cL,List.take_zero,dA,List.drop_zero,Nat.reduceSub];refine GB (.agg #[j,k,l,m,n,o,p,r]) (by rfl) (fun w b=>by obtain ⟨q0,q1,q2,q3,q4,q5,q6,q7,q8⟩:=s.o w b;go_simp) rfl ?_;refine GB (.pointer (some ⟨d,0,none⟩)) (by rfl) (fun w b=>by go_simp) rfl ?_;refine GB (.pointer (some ⟨d,0,none⟩)) (by rfl) (fun w b=>by go_simp) rfl ?_;refine GB (.pointer (some ⟨d,3,none⟩)) (by rfl) (fun w b=>by go_simp) rfl ?_;refine GB (.slice sa g sc) (by rfl) (fun w b=>by obtain ⟨q0,q1,q2,q3,q4,q5,q6,q7,q8⟩:=s.o w b;go_simp) rfl ?_;refine GB (.int .i64 (g:Int)) (by rfl) (fun w b=>by go_simp) rfl ?_;refine GB (.agg #[j,k,l,m,n,o,p,r]) (by rfl) (fun w b=>by obtain ⟨q0,q1,q2,q3,q4,q5,q6,q7,q8⟩:=s.o w b;go_simp) rfl ?_;refine WY (.int .i64 (i:Int)) (f:=88) (args:=#[.agg #[j,k,l,m,n,o,p,r]]) (by rfl) (fun w b=>by go_simp) (fun w b=>(b2.o w b).mono (fun e a q=>⟨q.1,b.trans q.2⟩)) rfl ?_;refine GB (.int .i64 ((g+i:Nat):Int)) (by rfl) (fun w b=>by go_simp) rfl ?_;refine wpQuiet_nil ?_;intro a d5;have d4:=Aa (b1.o a d5);clear b1 b2 s d6;go_wp2_with (go_at_call 87;refine d4.o.mono ?_;rintro e w2 ⟨rfl,h2⟩);exact h2 _ _ _ _ _ _ _ _ _ _ _
def Qy(d:Nat):Prop:=∀(c i g B:Nat) (U:Nat→Prop) (f:List ByteArray) (l:List Nat) (b:Bd) (t:TS) (a:Nat) (h:Array Value) (w:World),
 JZ c i g B f b w→B≤w.heap.size→(∀k,U k→k<B∧k≠c∧k≠g)→BU d U w t h.toList→Nb d t→Wu f l t b.p9→b.p9.length≤12→b.m8.length+EG t≤4001→b.pl+nK 1 t≤4000→b.ca+nK 8 t≤4000→a≤8002→
 Calls Tryz.prog 87 #[.pointer (some ⟨c,0,none⟩),.agg h,.int .i64 a] w fun e j=>e=.returned (.tuple #[])∧JZ c i g B f (Eb f t a b) j∧GZ c g B w j
theorem RC(c:List ByteArray)(l:List TS)(k:Nat)(h:k+1<l.length)(a:Nat)(b:Bd):Bl c (l.drop k) a b=Bl c (l.drop (k+1)) a (Eb c l[k] (b.m8.length+EG l[k]) b):=by rw [bG (by omega:k<l.length),bG h];rfl
theorem RA(c:List ByteArray)(l:List TS)(k:Nat)(h:l.length=k+1)(a:Nat)(b:Bd):Bl c (l.drop k) a b=Eb c (l[k]'(by omega)) a b:=by rw [bG (by omega:k<l.length),List.drop_eq_nil_of_le (by omega)];rfl
theorem JU(j:Nat)(l:List TS)(k:Nat)(h:k<l.length):nL j (l.drop k)=nK j l[k]+nL j (l.drop (k+1)):=by rw [bG h];rfl
theorem Ob{a:List ByteArray}{b:List Nat}{c:List ByteArray}(l:List TS)(k:Nat)(h:k<l.length)(d:IL a b (l.drop k) c):Wu a b l[k] c∧IL a b (l.drop (k+1)) (c++dS l[k]):=by rw [bG h] at d;exact d
structure Xi(fn:List ByteArray)(par:List Nat)(sts:List TS)(a:Nat)(V b:Bd)(k:Nat):Prop where
 ok:IL fn par (sts.drop k) b.p9
 nm:b.p9.length≤12
 st:b.m8.length+CT (sts.drop k)≤4001
 pl:b.pl+nL 1 (sts.drop k)≤4000
 ca:b.ca+nL 8 (sts.drop k)≤4000
 is:Bl fn (sts.drop k) a b=V
theorem Xi.i8{d f c a V b k}(h:Xi d f c a V b k)(g:k+1<c.length):Xi d f c a V (Eb d c[k] (b.m8.length+EG c[k]) b) (k+1):=by
 obtain ⟨e,j⟩:=Ob c k (by omega) h.ok;have L:=JS c[k] (b.m8.length+EG c[k]) b e;have z:=Lh c k (by omega);have o:=JU 1 c k (by omega);have p:=JU 8 c k (by omega);have l:=h.st;have m:=h.pl;have n:=h.ca;have i:=(Md c[k] b.p9 e).2 h.nm;refine ⟨by rw [L.p9];exact j,by rw [L.p9];exact i,?_,?_,?_,?_⟩
 ·rw [L.len];omega
 ·rw [L.pl];omega
 ·rw [L.ca];omega
 ·rw [←RC d c k g a b];exact h.is
theorem GZ.p6{a e B}{U:Nat→Prop}{d w f c b}(l:GZ a e B w f)(j:∀k,U k→k<B∧k≠a∧k≠e)(h:CU d U w c b):CU d U f c b:=
 CU.f8 h l (fun k m q=>by
  obtain ⟨n,g,i⟩:=j k m;rcases q with q | q | ⟨q,_⟩
  ·exact g q
  ·exact i q
  ·omega)
theorem D5(d:Nat)(hS:Qy d)(j E m B:Nat)(U:Nat→Prop)(l:List ByteArray)(I:List Nat)(b:Bd)(p a:Nat)(c:List TS)(sv:Value)(w:World)(h:JZ j E m B l b w)(hB:B≤w.heap.size)(hU:∀k,U k→k<B∧k≠j∧k≠m)(hR:CU d U w sv c)(hO:∀t,t∈c→Nb d t)
 (hk:IL l I c b.p9)(hn:b.p9.length≤12)(hl:b.m8.length+CT c≤4001)(hp:b.pl+nL 1 c≤4000)(hc:b.ca+nL 8 c≤4000)(ha:a≤8002):
 Calls Tryz.prog 63 #[.pointer (some ⟨j,0,none⟩),.agg #[.int .i64 p,sv],.int .i64 a] w fun e A=>e=.returned (.int .i64 (AT c a b:Nat))∧JZ j E m B l (Bl l c a b) A∧GZ j m B w A:=by
 have a5:=hR;obtain ⟨c7,z,_⟩:=a5;obtain ⟨va,vl,J,rfl⟩:=Ad z;have c3:=Ah z;subst c3;have R:=Aa z;have R0:=Aa hR;have HS:=Aa hS;have HO:=Aa hO;have HU:=Aa hU;have d1:=JW c;clear hS hO hU hR z;by_cases h0:c.length=0
 ·have y:=Aa ((Ab.refl (fun _=>False) w).alloc (.cells #[.int .i64 p,.slice va 0 J] 96));have e:c=[]:=List.eq_nil_of_length_eq_zero h0;subst e;have D:AT [] a b=a:=rfl;have e2:Bl l [] a b=b:=rfl;rw [D,e2];clear D e2 R R0;have H:=Aa h;clear h;go_enter Tryz.func63,Tryz.ntmps63;go_wp2_with fail;go_ret;exact ⟨rfl,H.o.p6 y.o,GZ.s8 y.o⟩
 ·obtain ⟨n,S⟩:∃n,c.length=n+1:=⟨c.length-1,by omega⟩;have D:AT c a b=b.m8.length:=by unfold AT;rw [cT h0]
  rw [D];generalize hV:Bl l c a b=V;have G0:dJ (Xi l I c a V b 0):=⟨hk,hn,hl,hp,hc,hV⟩;have HN:=Aa S;rw [S];rw [S] at R0 R;have y:=Aa ((Ab.refl (fun _=>False) w).alloc (.cells #[.int .i64 p,.slice va (n+1) J] 96));have S0:=Aa (Ar.new w #[.int .i64 p,.slice va (n+1) J] 96);obtain ⟨g,rfl⟩:=As R.o (by omega);have c9:=MO R.o;have d2:n≤4000:=by omega
  have a7:=Aa h;obtain ⟨nv,sv,Q⟩:=h;obtain ⟨sa,sc,rfl,_⟩:=Q.m8.form;have r3:=(Q.p6 y.o).l9.cell 3;have lb:=Ae Q.l9;simp only [Lw,aU,aS,aT] at r3;have a8:=Aa (a7.o.p6 y.o);have a9:=Aa (GZ.s8 (bb:=j) (vm:=m) (B:=B) y.o);clear Q D hV S h0 hk;go_enter Tryz.func63,Tryz.ntmps63;go_wp2_with fail;go_loopw [30] (fun i wr=>∃(k:Nat) (f:Bd),k≤n∧i=.int .i64 k∧dJ (Xi l I c a V f k)∧dJ (JZ j E m B l f wr)∧dJ (GZ j m B w wr)∧dJ (Ar w.heap.size #[.int .i64 p,.slice (some ⟨g,0,none⟩) (n+1) J] 96 wr)) (fun i _=>n-(intOf i).toNat)
  case atStart=>exact ⟨0,b,by omega,rfl,G0,a8,a9,S0⟩
  case round=>
   obtain ⟨k,f,d0,rfl,x,X,K,S1⟩:=hrel;clear G0 a8 a9 S0 y a7 r3;have a3:CU d U wr (.slice (some ⟨g,0,none⟩) (n+1) J) c:=K.o.p6 HU.o R0.o;have a5:=a3;obtain ⟨c8,z,_⟩:=a5;have lg:=(z.lt g rfl).2;have G:k<c.length:=by have:=HN.o;omega
   obtain ⟨s,L,T,N,M,W,O,u,b6⟩:=a3.get G;have f0:=u 0 (by omega);have f1:=u 1 (by omega);have f2:=u 2 (by omega);have f3:=u 3 (by omega);have f4:=u 4 (by omega);have f5:=u 5 (by omega);have f6:=u 6 (by omega);have f7:=u 7 (by omega);simp only [EH,aU,aS,aT,bK] at f0 f1 f2 f3 f4 f5 f6 f7;have a0:=Aa b6;have a6:=Aa (HO.o c[k] (bD _));have b5:=Aa (Ob c k G x.o.ok);have hz:=Lh c k G;have b7:=JU 1 c k G;have b8:=JU 8 c k G;have b0:=x.o.st;have b2:=x.o.pl;have b3:=x.o.ca;have b4:=x.o.nm;clear z u a3 b6;have z1:=K.o.size;by_cases c0:k<n
   ·have GN:=Aa (x.o.i8 (by have:=HN.o;omega));generalize c[k]=t at*;have o:dJ (f.m8.length≤4000∧EG t≤4001∧f.m8.length+EG t≤4001∧f.pl+nK 1 t≤4000∧f.ca+nK 8 t≤4000):=by have:=MU t;show _∧_;omega
    clear hz b7 b8 b0 b2 b3;have C:=Aa ((Ab.refl (fun _=>False) wr).alloc (.cells #[.int .i64 s.kind,.string s.tg.i6,.int .i64 s.tg.i9,.string s.sr.i6,.int .i64 s.sr.i9,.int .i64 s.field,.slice L T N,.slice M W O] 197));have N4:=Aa (Ar.new wr #[.int .i64 s.kind,.string s.tg.i6,.int .i64 s.tg.i9,.string s.sr.i6,.int .i64 s.sr.i9,.int .i64 s.field,.slice L T N,.slice M W O] 197);go_wp2_with fail;generalize wr.alloc _=W4 at*;obtain ⟨d3,d4,a4⟩:=X.o.p6 C.o;obtain ⟨c5,c6,rfl,_⟩:=a4.m8.form;have Z:=Aa a4;clear a4;refine Cj (UG _ j wr.heap.size f.m8.length (EG t) c5 c6 (.int .i64 s.kind) (.string s.tg.i6) (.int .i64 s.tg.i9) (.string s.sr.i6) (.int .i64 s.sr.i9) (.int .i64 s.field) (.slice L T N) (.slice M W O) W4 o.o.1 o.o.2.1 (fun A r=>?_) (fun A r=>?_) (fun A r=>?_))
    ·have q1:=(Z.o.p6 r).l9.cell 3;have v:=N4.o.f8 r (fun q=>q);exact ⟨q1,v.cell 0,v.cell 1,v.cell 2,v.cell 3,v.cell 4,v.cell 5,v.cell 6,v.cell 7⟩
    ·exact Jj d U t _ A (BU.f8 (BU.f8 a0.o C.o (fun _ _ q=>q)) r (fun _ _ q=>q)) a6.o o.o.2.1
    ·refine (HS.o j E m B U l I f t (f.m8.length+EG t) _ A ⟨_,_,Z.o.p6 r⟩ (by have:=C.o.size;have:=r.size;omega) HU.o (BU.f8 (BU.f8 a0.o C.o (fun _ _ q=>q)) r (fun _ _ q=>q)) a6.o b5.o.1 b4 o.o.2.2.1 o.o.2.2.2.1 o.o.2.2.2.2 (by have:=o.o;omega)).mono ?_;rintro e w5 ⟨rfl,F,P⟩;refine ⟨rfl,fun d5 d6 d7 d8 d9 e0 e3 e4 e5 e6 e7=>?_⟩;have Y:=Aa ((GZ.s8 (bb:=j) (vm:=m) (B:=B) (C.o.trans r)).trans P);have H5:=Aa F;have S5:=Aa (Y.o.l9 X.o S1.o (by decide) (by decide) (by decide));have F5:=Aa (K.o.trans Y.o);clear F P Y C N4 Z r;go_wp2_with fail;go_round
     case rel=>exact ⟨k+1,_,by omega,by go_num,GN,H5,F5,S5⟩
     case measure=>simp [intOf];omega
   ·have e:k=n:=by omega
    subst e;have b9:=Aa (RA l c k HN.o a f);have c4:=JW (c.drop (k+1));generalize c[k]=t at*;have o:dJ (f.m8.length+EG t≤4001∧f.pl+nK 1 t≤4000∧f.ca+nK 8 t≤4000):=by show _∧_;omega
    clear hz b7 b8 b0 b2 b3 c4 c0;have m1:=S1.o.cell 1;simp only [aU,aS,aT] at m1;go_wp2_with (go_at_call 87;refine (HS.o j E m B U l I f t a #[.int .i64 s.kind,.string s.tg.i6,.int .i64 s.tg.i9,.string s.sr.i6,.int .i64 s.sr.i9,.int .i64 s.field,.slice L T N,.slice M W O] _ X.o (by omega) HU.o a0.o a6.o b5.o.1 b4 o.o.1 o.o.2.1 o.o.2.2 ha).mono ?_;rintro e w5 ⟨rfl,F,P⟩);go_ret;rw [←b9.o,x.o.is] at F;exact ⟨rfl,F,K.o.trans P⟩
theorem Nw{n:Nat}(v:Value)(j:Nat)(f:j<n):∀(a:List (List Value)) (i:Nat),(∀x,x∈a→x.length=n)→(h:i<a.length)→a.flatten.set (i*n+j) v=(a.set i (a[i].set j v)).flatten
 | [],i,_,h=>by simp at h
 | c::a,0,b,_=>by have d:=b c (by simp);simp only [List.flatten_cons,Nat.zero_mul,cB,List.set_cons_zero,bQ];rw [List.set_append_left _ _ (by omega)]
 | c::a,i+1,b,h=>by
   have d:=b c (by simp);have k:=Nw v j f a i (fun x g=>b x (bN _ g)) (by simpa using h);have e:(i+1)*n=i*n+n:=by rw [Nat.add_mul,Nat.one_mul]
   simp only [List.flatten_cons,List.set_cons_succ,cK];rw [List.set_append_right _ _ (by omega),←k];congr 2;omega
theorem AW.stored{B:Nat}{w:World}{g n o:Nat}{l:List Cb}(h:AW B w (.slice (some ⟨g,0,none⟩) n o) l){i:Nat}(J:i<l.length)(j k:Nat)(f:Cb→Cb)(D:j<8)
 (C:∀s a,(LB s a).set j (.int .i64 k)=LB (f s) a)(z:∀s,(f s).args=s.args):AW B (w.setCell ⟨g,i*8+j,none⟩ (.int .i64 k)) (.slice (some ⟨g,0,none⟩) n o) (l.modify i f):=by
 obtain ⟨b,m,E,u⟩:=h;have F:=Ah m;subst F;have v:=(m.stored (i*8+j) (.int .i64 k)).1;obtain ⟨I,A⟩:=BO m;have G:Ab (fun k=>k=g) w (w.setCell ⟨g,i*8+j,none⟩ (.int .i64 k)):=(Ab.refl _ _).p7 _ _;have y:∀x,x∈b→x.length=8:=by intro x H;obtain ⟨q,c,rfl⟩:=bS.1 H;obtain ⟨_,e,_⟩:=u q c (by omega);rw [e];rfl
 rw [Nw _ j D b i y (by omega)] at v;refine ⟨b.set i (b[i].set j (.int .i64 k)),by rw [List.length_modify];exact v,by simp [E],fun q c p=>?_⟩;simp only [cY,List.length_modify] at c p;obtain ⟨a,e,r⟩:=u q c p;have t:AD B (w.setCell ⟨g,i*8+j,none⟩ (.int .i64 k)) a l[q].args:=Ac r G (Ap r A (by decide));rw [List.getElem_set,List.getElem_modify];by_cases d:i=q
 ·subst d;rw [cU rfl,cU rfl,e];exact ⟨a,C _ _,by rw [z];exact t⟩
 ·rw [cT d,cT d];exact ⟨a,e,t⟩
theorem Cm.stored{d p l B g n o:Nat}{r:List ByteArray}{b:Bd}{t:Value}{w:World}(h:Cm d p l B r b t (.slice (some ⟨g,0,none⟩) n o) w){i:Nat}(z:i<b.m8.length)(j k:Nat)(f:Cb→Cb)(A:j<8)
 (y:∀s m,(LB s m).set j (.int .i64 k)=LB (f s) m)(x:∀s,(f s).args=s.args):
 Cm d p l B r {b with m8:=b.m8.modify i f} t (.slice (some ⟨g,0,none⟩) n o) (w.setCell ⟨g,i*8+j,none⟩ (.int .i64 k))∧GZ d l B w (w.setCell ⟨g,i*8+j,none⟩ (.int .i64 k)):=by
 have C:=h.m8.stored z j k f A y x;obtain ⟨D,e,_⟩:=h.m8;obtain ⟨u,c⟩:=BO e;have v:=(e.lt g rfl).1;have a:Ab (fun k=>k=g) w (w.setCell ⟨g,i*8+j,none⟩ (.int .i64 k)):=(Ab.refl _ _).p7 _ _;exact ⟨⟨h.l9.f8 a (fun q=>Ap e h.l9 (by decide) g rfl q.symm),h.fns.f8 a (h.fns.ne c),h.m9.f8 a (h.m9.ne c),Ac h.p9 a (Ap h.p9 c (by decide)),C,h.ne⟩,
  a.mono (fun k _ q=>by subst q;exact .inr (.inr ⟨v,u,_,_,c,.inr rfl⟩))⟩
theorem Cm.ZL{c s p B:Nat}{v:List ByteArray}{b:Bd}{r o v' av:Value}{st:Cb}{d:List (List Value)}{w W a:World}(h:Cm c s p B v b r o w)(m:w.ownsRow B 157 8 o b.m8.length d.flatten)(x:d.length=b.m8.length)
 (Q:∀i (h:i<d.length) (R:i<b.m8.length),QC B w d[i] b.m8[i])(M:AD B w av st.args)(J:Ab (fun _=>False) w W)(K:W.grownBy a o.ownBlock)(D:a.ownsRow B 157 8 v' (b.m8.length+1) (d.flatten++LB st av)):
 Cm c s p B v {b with m8:=b.m8++[st]} r v' (a.setCell ⟨c,3,none⟩ v')∧GZ c p B w (a.setCell ⟨c,3,none⟩ v'):=by
 have f:Ab (fun k=>o.ownBlock=some k) w a:=Ab.grown (J.mono (fun _ _ q=>q.elim)) K (fun j P=>.inl P);have g:Ar c (Lw s p r o b) 90 a:=h.l9.f8 f (fun q=>Ap m h.l9 (by decide) c q rfl);have n:Ab (fun k=>k=c) a (a.setCell ⟨c,3,none⟩ v'):=(Ab.refl _ _).p7 3 _;have y:=h.fns.f8 f (IG m h.fns);have A:=h.m9.f8 f (IG m h.m9);have C:AB B a r b.p9:=Am h.p9 f (GS m (by decide));have E:∀{u:Value} {l:List Nat},AD B w u l→AD B (a.setCell ⟨c,3,none⟩ v') u l:=fun t=>by have F:AD B a _ _:=Am t f (GS m (by decide));exact Ac F n (Ap F g (by decide))
 refine ⟨⟨g.set 3 _,y.f8 n (y.ne g),A.f8 n (A.ne g),Ac C n (Ap C g (by decide)),⟨d++[LB st av],?_,by simp [x],fun i N O=>?_⟩,h.ne⟩,?_⟩
 ·rw [List.flatten_append,aZ];simp only [List.flatten_cons,List.flatten_nil,cC,bP];exact Ac D n (Ap D g (by decide))
 ·simp only [aZ,bP] at N O;by_cases z:i<b.m8.length
  ·obtain ⟨u,e,t⟩:=Q i (by omega) z;rw [bT (by omega),bT z];exact ⟨u,e,E t⟩
  ·have e:i=b.m8.length:=by omega
   subst e;rw [bR (by omega),bR (by omega)];simp only [x,Nat.sub_self,bQ];exact ⟨av,rfl,E M⟩
 ·have G:GZ c p B w a:=f.mono (fun k _ q=>by obtain ⟨I,d,H,L⟩:=Ec m q;exact .inr (.inr ⟨I,d,_,H,L,.inr rfl⟩))
  exact G.trans (n.mono (fun _ _ q=>.inl q))
abbrev X7:Array Value:=#[.int .i64 0,.int .i64 0,.int .i64 0,.int .i64 0,.int .i64 0,.slice none 0 0,.int .i64 0,.int .i64 0]
theorem Tryz.infoStep:(Tryz.prog.info? 157).map (fun i=>(i.zero,i.size,i.bytes))=some (some (.agg X7),8,80):=by kernel_rfl
theorem UC(R:Act→World→Prop)(c s o k B t b D l m a e g f W){G T Y x4 x5 x6 x8 x9 I J K L M N O P Q S U V X h4 h5 h6 h7 h8 h9 i1 i2 i3 i4 Z a0 a1 a2 a3 a4 a5 a6 a7 a8 a9 b0 b1 b2 b3 b4 b5 b6 b7 b8 b9 c0 c1 c2 c3 c4 c5 c6 c7 c8 c9 d0 d1 d2 d3 d4 d5 d6 d7 d8 d9 e8 e9 f0 f1 f2 f4 f5 f6 f7 f8 f9 g0 g1 g2 g3 g4}
 (h:Cm c s o B t b D (.slice l b.m8.length m) W)(hB:B≤W.heap.size)(d:Ar k #[.int .i64 a.kind,.int .i64 a.Yf,.int .i64 a.t9,.int .i64 a.field,.int .i64 a.Yp,.slice e g f,.int .i64 a.i8,.int .i64 a.taken] 157 W)(v:AD B W (.slice e g f) a.args)(hl:b.m8.length≤4001)
 (u:∀(q:World) (n:Value) (i5 i6 i7 i8 i9 j0 j1 j2 j3 j4:Value),Cm c s o B t {b with m8:=b.m8++[a]} D n q→GZ c o B W q→R {tmps:=#[.pointer (some ⟨c,0,none⟩),G,T,Y,x4,x5,x6,.pointer (some ⟨k,0,none⟩),x8,x9,I,J,K,L,M,N,O,P,Q,S,U,V,X,i5,i6,i7,i8,i9,j0,j1,j2,j3,j4,Z,a0,a1,a2,a3,a4,a5,a6,a7,a8,a9,b0,b1,b2,b3,b4,b5,b6,b7,b8,b9,c0,c1,c2,c3,c4,c5,c6,c7,c8,c9,d0,d1,d2,d3,d4,d5,d6,d7,d8,d9,e8,e9,f0,f1,f2,f4,f5,f6,f7,f8,f9,g0,g1,g2,g3,g4],defers:=[]} q):
 Code.wp Tryz.prog (.region 4 #[⟨some 23,.move (.tmp 0),169, "build.go:66",#[],none⟩,⟨some 24,.move (.tmp 0),169, "build.go:66",#[],none⟩,⟨some 25,.nilCheck (.tmp 24),0, "build.go:66",#[⟨1,.data⟩],none⟩,⟨some 26,.fieldAddr 90 (.tmp 25) 3,0, "build.go:66",#[⟨2,.data⟩],none⟩,⟨some 27,.load 88 (.tmp 26),88, "build.go:66",#[⟨3,.data⟩],none⟩,⟨some 28,.load 157 (.tmp 7),157, "build.go:66",#[],none⟩,⟨some 29,.buildSlice 88 1 #[(0,.tmp 28)],88, "build.go:66",#[⟨5,.data⟩],none⟩,⟨some 30,.call ⟨.builtin .append,#[.tmp 27,.tmp 29],#[88,88]⟩,88, "build.go:66",#[⟨4,.data⟩,⟨6,.data⟩],none⟩,⟨some 31,.nilCheck (.tmp 23),0, "build.go:66",#[⟨0,.data⟩,⟨0,.phase⟩,⟨1,.phase⟩,⟨2,.phase⟩,⟨3,.phase⟩,⟨4,.phase⟩,⟨5,.phase⟩,⟨6,.phase⟩,⟨7,.phase⟩],none⟩,⟨some 32,.fieldAddr 90 (.tmp 31) 3,0, "build.go:66",#[⟨8,.data⟩,⟨0,.phase⟩,⟨1,.phase⟩,⟨2,.phase⟩,⟨3,.phase⟩,⟨4,.phase⟩,⟨5,.phase⟩,⟨6,.phase⟩,⟨7,.phase⟩],none⟩,⟨none,.store 88 (.tmp 32) (.tmp 30),0, "build.go:66",#[⟨9,.data⟩,⟨7,.data⟩,⟨7,.chain⟩,⟨0,.phase⟩,⟨1,.phase⟩,⟨2,.phase⟩,⟨3,.phase⟩,⟨4,.phase⟩,⟨5,.phase⟩,⟨6,.phase⟩,⟨7,.phase⟩],none⟩] true) (Gk R) {tmps:=#[.pointer (some ⟨c,0,none⟩),G,T,Y,x4,x5,x6,.pointer (some ⟨k,0,none⟩),x8,x9,I,J,K,L,M,N,O,P,Q,S,U,V,X,h4,h5,h6,h7,h8,h9,i1,i2,i3,i4,Z,a0,a1,a2,a3,a4,a5,a6,a7,a8,a9,b0,b1,b2,b3,b4,b5,b6,b7,b8,b9,c0,c1,c2,c3,c4,c5,c6,c7,c8,c9,d0,d1,d2,d3,d4,d5,d6,d7,d8,d9,e8,e9,f0,f1,f2,f4,f5,f6,f7,f8,f9,g0,g1,g2,g3,g4],defers:=[]} W:=by
 obtain ⟨i0,g7,g8,g9,h0⟩:=info_parts Tryz.infoStep;have C:=Ae h.l9;have j6:=Ae d;have F:=h.l9.cell 3;have f3:=h.l9.frozen 3;have e0:=d.cell 0;have e1:=d.cell 1;have e2:=d.cell 2;have e3:=d.cell 3;have e4:=d.cell 4;have e5:=d.cell 5;have e6:=d.cell 6;have e7:=d.cell 7;simp only [Lw,aU,aS,aT] at F e0 e1 e2 e3 e4 e5 e6 e7;obtain ⟨cs,j,g6,z⟩:=h.m8;have w:=Aa (Ap j h.l9 (by decide));have H:=Aa h;have r:=Aa j;have HP:=Aa z;have HI:=Aa v;have HQ:=Aa u;clear h d j z v u;go_region_law (refine Ay rfl _ _ 88 rfl B 157 i0 (.agg X7) 8 80 Tryz.underlying88 g7 g8 g9 h0 rfl (by decide) _ _ _ rfl (r.o.alloc _) ⟨W.heap.size,0,none⟩ 1 1 [.int .i64 a.kind,.int .i64 a.Yf,.int .i64 a.t9,.int .i64 a.field,.int .i64 a.Yp,.slice e g f,.int .i64 a.i8,.int .i64 a.taken] rfl rfl (AN rfl _ _) (fun x A=>by simp only [cM,bU,or_false] at A;rcases A with rfl | rfl | rfl | rfl | rfl | rfl | rfl | rfl<;>rfl) (by decide) (by unfold maxLen;omega) (by omega) (by simp;omega) ?_;intro n p y i j5;have q1:p.cell? ⟨c,3,none⟩=some (.slice l b.m8.length m):=(aW (i.block c (by simp;omega) (fun h=>w.o c h.symm rfl))).trans (by rw [←F];exact aW (bF _ _ _ C));have q2:p.frozen? ⟨c,3,none⟩=false:=(bB (i.block c (by simp;omega) (fun h=>w.o c h.symm rfl))).trans (by rw [←f3];exact bB (bF _ _ _ C));obtain ⟨h1,h3,h2,rfl⟩:=Ad y);all_goals
  have g5:(W.alloc (.cells #[.int .i64 a.kind,.int .i64 a.Yf,.int .i64 a.t9,.int .i64 a.field,.int .i64 a.Yp,.slice e g f,.int .i64 a.i8,.int .i64 a.taken] 157)).drew.grownBy p (Value.ownBlock (.slice l b.m8.length m)):=i;have E:=H.o.ZL (st:=a) (av:=.slice e g f) (v':=.slice h1 h3 h2) r.o g6 HP.o HI.o (((Ab.refl _ W).alloc (.cells #[.int .i64 a.kind,.int .i64 a.Yf,.int .i64 a.t9,.int .i64 a.field,.int .i64 a.Yp,.slice e g f,.int .i64 a.i8,.int .i64 a.taken] 157)).drew) g5 y;exact HQ.o _ _ _ _ _ _ _ _ _ _ _ _ E.1 E.2
end Go.Proofs.YthppbgndiplgnaaGreatDoor
