/- One of the texts of the proof of texts_card_holds: EqD EqE EqF. -/
import Derived.Test.YtmaankfbhhbeoaaGreatDoorG11
namespace Go.Proofs.YtmaankfbhhbeoaaGreatDoor
theorem AY(l i):Ai (l.map Ak) i=Ak (Ah l i):=by unfold Ai Ah;rw [List.getElem?_map];cases l[i]? <;>rfl
theorem DT{l i}(h:i<l.length):Ah l i∈l:=by unfold Ah;rw [List.getElem?_eq_getElem h];exact List.getElem_mem h
theorem TksOk.end_{N l}(h:TksOk N l):(Ah l (l.length-1)).kind=0:=by obtain ⟨t,a,b,_⟩:=h.last;unfold Ah;rw [a];exact b
theorem Eb(k):BI k=1↔k=1:=by
 unfold BI;repeat' split
 all_goals omega
theorem IP(k):BI k=3↔k=2:=by
 unfold BI;repeat' split
 all_goals omega
theorem Jx(k):BI k=0↔k=0:=by
 unfold BI;repeat' split
 all_goals omega
theorem GB(k):(BI k=2∨BI k=4)↔3≤k:=by
 unfold BI;repeat' split
 all_goals omega
theorem J3:∀k,3≤k→k≤20→BF k≠[]:=by
 intro k a b;have:∀k:Fin 21,3≤k.val→BF k≠[]:=by decide+kernel
 exact this ⟨k,by omega⟩ a
theorem Iq{t}(h:Lv t){k}(b:3≤k)(a:k≤20):Ip (Ak t) (BF k)=true↔t.kind=k:=by
 unfold Ip Ak;simp only [Bool.and_eq_true,beq_iff_eq,Bool.or_eq_true];rw [GB];constructor
 ·rintro ⟨e,g⟩;exact Iv _ h.1 g _ a b ((h.2 g).symm.trans e)
 ·intro e;exact ⟨by rw [←e];exact h.2 (by omega),by omega⟩
theorem JC{t}(h:Lv t){k}(b:3≤k)(a:k≤20):AB (Ak t)=BF k↔t.kind=k:=by
 unfold AB Ak;simp only [GB];split
 ·rename_i g;exact ⟨fun e=>Iv _ h.1 g _ a b ((h.2 g).symm.trans e),fun e=>by rw [←e];exact h.2 g⟩
 ·rename_i g;exact ⟨fun e=>absurd e.symm (J3 k b a),fun e=>by omega⟩
def FI(n:Nat)(x:PS)(y:St):Prop:=x.l7=false∧y.l6=none∧y.i9=x.d8∧x.d8<n
def Hk(n:Nat)(x:PS)(p:Nat):Prop:=x.l7=true∧x.r8=p∧x.d8=n-1
def Al(n:Nat)(x:PS)(y:St):Prop:=FI n x y∨∃p,Hk n x p∧y.l6=some p
section
variable {N : Nat} {j : List PT} (H : TksOk N j)
include H
theorem CW{k:Nat}(f:k≠0){x:PS}{p:Nat}(h:Hk j.length x p):Hk j.length (Ae j j.length k x) p:=by obtain ⟨b,c,d⟩:=h;have a:=H.end_;unfold Ae;rw [d,a,if_neg (fun e=>f e.symm)];exact ⟨rfl,by simp [Ef,b,c],rfl⟩
theorem Gl{x:PS}{p:Nat}(h:Hk j.length x p)(f:Nat)(a:List PT):Cj j f x a=(a,x):=
 D6 (by rw [h.2.2,H.end_];decide)
theorem Gk{x:PS}{p:Nat}(h:Hk j.length x p):Hk j.length (A0 j j.length x).2 p:=by unfold A0;have a:=CW H (k:=10) (by decide) h;simp only [Gl H a];exact CW H (by decide) a
theorem K5{x:PS}{p:Nat}(h:Hk j.length x p):Hk j.length (Bm j j.length x).2 p:=by
 have T:=fun (k:Nat) (a:k≠0) {x:PS} (h:Hk j.length x p)=>CW H a h
 unfold Bm;split
 ·exact T 5 (by decide) h
 ·split
  ·unfold Df;simp only;split
   ·exact T 2 (by decide) (T 19 (by decide) (T 1 (by decide) (T 16 (by decide) h)))
   ·exact T 1 (by decide) (T 16 (by decide) h)
  ·split
   ·exact T 1 (by decide) (T 17 (by decide) h)
   ·split
    ·exact T 1 (by decide) (T 18 (by decide) h)
    ·split
     ·exact Gk H (T 11 (by decide) (T 1 (by decide) (T 17 (by decide) (T 10 (by decide) h))))
     ·split
      ·exact Gk H (T 1 (by decide) h)
      ·exact T 1 (by decide) h
omit H in
theorem BY(T L){y p}(h:y.l6=some p):(Ao T L y).l6=some p:=by unfold Ao C0;simp [AW,h,Dh]
omit H in
theorem ER(T k){y p}(h:y.l6=some p):(Bc T k y).2.l6=some p:=by unfold Bc BO;simp [h,Dh]
omit H in
theorem IL(T f b p a):Cs T f b (some p) a=(a,b,some p):=DC (by simp)
omit H in
theorem D8(T){y p}(h:y.l6=some p):(Bv T y).2.l6=some p:=by unfold Bv BE;simp only [h,IL];simp [C0,AW,Dh]
omit H in
theorem IM(T){y p}(s)(h:y.l6=some p):(CM T y s).2.l6=some p:=by
 have E:=fun (L:List UInt8) {y:St} (h:y.l6=some p)=>BY T L h
 have G:=fun (k:Nat) {y:St} (h:y.l6=some p)=>ER T k h
 have I:=fun {y:St} (h:y.l6=some p)=>D8 T h
 unfold CM;split
 ·exact E _ h
 ·split
  ·simp only;split
   ·exact G _ (E _ (G _ (E _ h)))
   ·exact G _ (E _ h)
  ·split
   ·exact G _ (E _ h)
   ·split
    ·exact G _ (E _ h)
    ·split
     ·exact I (y:=⟨_,_,_,_⟩) (E _ (E _ (G _ (E _ (E _ h)))))
     ·simp only;split
      ·exact I (E _ (G _ h))
      ·exact G _ h
theorem Ei{k:Nat}(l:3≤k)(i:k≤20){x:PS}{y:St}(h:Al j.length x y):Al j.length (Ae j j.length k x) (Ao (j.map Ak) (BF k) y):=by
 rcases h with ⟨d,b,m,n⟩ | ⟨p,o,r⟩
 ·have q:=H.lit _ (DT n);have f:=Iq q l i;have g:=H.end_;unfold Ae Ao C0;rw [m,AY];by_cases a:(Ah j x.d8).kind=k
  ·have c:AW y.l6 (Ak (Ah j x.d8)) (BF k)=true:=by simp [AW,b,f.2 a]
   rw [if_pos a,if_neg (by omega),if_pos c];have s:x.d8≠j.length-1:=fun e=>by rw [e,g] at a;omega
   exact .inl ⟨d,b,rfl,by simp only;omega⟩
  ·have c:¬AW y.l6 (Ak (Ah j x.d8)) (BF k)=true:=by simp only [AW,Bool.and_eq_true,not_and];intro _ e;exact a (f.1 e)
   rw [if_neg a,if_neg c]
   exact .inr ⟨(Ah j x.d8).f8,⟨rfl,by simp [Ef,d],rfl⟩,by simp [Dh,b,Ak]⟩
 ·exact .inr ⟨p,CW H (by omega) o,BY _ _ r⟩
theorem Hn{k so:Nat}(n:(k=1∧so=1)∨(k=2∧so=3)){x:PS}{y:St}(h:Al j.length x y):Al j.length (Ae j j.length k x) (Bc (j.map Ak) so y).2∧(Bc (j.map Ak) so y).1=Ak (Av j k x):=by
 rcases h with ⟨d,b,m,o⟩ | ⟨p,f,i⟩
 ·have g:BI (Ah j x.d8).kind=so↔(Ah j x.d8).kind=k:=by
   rcases n with ⟨rfl,rfl⟩ | ⟨rfl,rfl⟩
   ·exact Eb _
   ·exact IP _
  have l:=H.end_
  unfold Ae Bc BO Av
  rw [m,AY]
  by_cases a:(Ah j x.d8).kind=k
  ·have c:y.l6.isNone=true∧(Ak (Ah j x.d8)).sort=so:=⟨by simp [b],g.2 a⟩
   simp only [if_pos a,if_pos c];rw [if_neg (by omega)];have q:x.d8≠j.length-1:=fun e=>by rw [e,l] at a;omega
   exact ⟨.inl ⟨d,b,rfl,by simp only;omega⟩,trivial⟩
  ·have c:¬(y.l6.isNone=true∧(Ak (Ah j x.d8)).sort=so):=fun e=>a (g.1 e.2)
   simp only [if_neg a,if_neg c];exact ⟨.inr ⟨(Ah j x.d8).f8,⟨rfl,by simp [Ef,d],rfl⟩,by simp [Dh,b,Ak]⟩,rfl⟩
 ·refine ⟨.inr ⟨p,CW H (by omega) f,ER _ _ i⟩,?_⟩;unfold Bc BO Av;rw [if_neg (by simp [i]),if_neg (by rw [f.2.2,H.end_];omega)];rfl
theorem DZ{k:Nat}(c:3≤k)(b:k≤20){x:PS}{y:St}(h:Al j.length x y):AW y.l6 (Ai (j.map Ak) y.i9) (BF k)=true↔(Ah j x.d8).kind=k:=by
 rcases h with ⟨i,a,d,e⟩ | ⟨p,f,g⟩
 ·rw [d,AY,←Iq (H.lit _ (DT e)) c b];simp [AW,a]
 ·rw [f.2.2,H.end_];simp [AW,g];omega
theorem D5{k:Nat}(b:3≤k)(a:k≤20){x:PS}{y:St}(h:FI j.length x y):AB (Ai (j.map Ak) y.i9)=BF k↔(Ah j x.d8).kind=k:=by obtain ⟨e,f,c,d⟩:=h;rw [c,AY];exact JC (H.lit _ (DT d)) b a
theorem KN:∀(m f g:Nat) (x:PS) (a:List PT),j.length-1-x.d8≤m→j.length-1-x.d8≤f→j.length-1-x.d8≤g→x.d8<j.length→
 Cs (j.map Ak) g x.d8 none (a.map Ak)=((Cj j f x a).1.map Ak,(Cj j f x a).2.d8,none)∧(Cj j f x a).2.l7=x.l7∧(Cj j f x a).2.r8=x.r8∧(Cj j f x a).2.d8<j.length:=by
 intro m;induction m with
 | zero=>
   intro f g x a s h i b;have e:x.d8=j.length-1:=by omega
   have d:=H.end_;rw [←e] at d;rw [D6 (by rw [d];decide),DC (by rw [AY];simp [Ak,d,BI])];exact ⟨rfl,rfl,rfl,b⟩
 | succ m v=>
   intro f g x a s h i b;by_cases c:(Ah j x.d8).kind=1
   ·obtain ⟨k,q,l,n⟩:=JK (acc:=a) h b H.end_ c;have u:(Ai (j.map Ak) ((j.length)-1)).sort=0:=by rw [AY];simp [Ak,H.end_,BI]
    have t:(Ai (j.map Ak) x.d8).sort=1:=by rw [AY];exact (Eb _).2 c
    obtain ⟨_,r,o,p⟩:=JJ (acc:=a.map Ak) i b u ⟨rfl,t⟩;rw [n,p];have:=v q r ⟨x.d8+1,x.l7,x.r8⟩ (a++[Ah j x.d8]) (by simp only;omega) l o k;rw [List.map_append,List.map_singleton,←AY] at this;exact this
   ·rw [D6 c,DC (by rw [AY];intro e;exact c ((Eb _).1 e.2))];exact ⟨rfl,rfl,rfl,b⟩
theorem Ho{x:PS}{y:St}(h:Al j.length x y):Al j.length (Ae j j.length 11 (Cj j j.length x []).2) (Bv (j.map Ak) y).2∧(Bv (j.map Ak) y).1=(Cj j j.length x []).1.map Ak:=by
 rcases h with ⟨i,l,m,n⟩ | ⟨p,f,g⟩
 ·obtain ⟨a,b,c,d⟩:=KN H j.length j.length j.length x [] (by omega) (by omega) (by omega) n;have e:=Ei H (k:=11) (by decide) (by decide) (x:=(Cj j j.length x []).2) (y:=⟨(Cj j j.length x []).2.d8,none,y.pl,y.ca⟩) (.inl ⟨by rw [b,i],rfl,rfl,d⟩);unfold Bv BE;rw [m,l];simp only [List.length_map];rw [List.map_nil] at a;rw [a];exact ⟨e,rfl⟩
 ·refine ⟨.inr ⟨p,?_,D8 _ g⟩,?_⟩
  ·rw [Gl H f];exact CW H (by decide) f
  ·rw [Gl H f];unfold Bv BE;simp only [g,IL];rfl
end
def GW(k:Nat):Nat:=if k=4 then 6 else if k=5 then 5 else k+1
structure VC(v:VS)(u s:FS):Prop where
 kind:u.kind=GW v.kind
 q:u.q=Ak v.sr
 args:u.args=v.args.map Ak
 field:v.kind=3→u.field=v.field
 p:u.p=s.p
 p8:u.p8=s.p8
 other:u.other=s.other
 br:u.br=s.br
 y8:u.y8=s.y8
 r9:u.r9=s.r9
theorem JZ{t}(h:LX t)(f:t.kind=2)(a):Ih t.d9.toList a 4=F9 t:=by
 have e:∀c:UInt8,(⟨#[c]⟩:ByteArray).toList=[c]:=fun c=>by rw [ByteArray.toList_eq]
 rcases h f with q | q | q | q<;>(unfold F9;rw [q,e];simp [Ih])
section
variable {N : Nat} {b : List PT} (H : TksOk N b) (d : DigOk b)
include H d
omit H d in
theorem DF{k x}(h:(Ae b b.length k x).l7=false):(Ah b x.d8).kind=k∧x.l7=false∧Av b k x=Ah b x.d8:=by
 unfold Ae at h;split at h
 ·rename_i a;refine ⟨a,?_,by unfold Av;rw [if_pos a]⟩;split at h<;>exact h
 ·simp [Ef] at h
theorem L0{x:PS}{y:St}(s:FS)(j:s.args=[])(X:s.q=GE)(h:FI b.length x y):
 Al b.length (Bm b b.length x).2 (CM (b.map Ak) y s).2∧((Bm b b.length x).2.l7=false→VC (Bm b b.length x).1 (CM (b.map Ak) y s).1 s):=by
 have A:Al b.length x y:=.inl h;have W:=fun (k:Nat) (z:3≤k) (w:k≤20)=>D5 H z w h
 have K:=W 5 (by decide) (by decide);have F:=W 16 (by decide) (by decide);have I:=W 17 (by decide) (by decide);have J:=W 18 (by decide) (by decide);have D:=W 10 (by decide) (by decide);have E:=fun (k:Nat) (z:3≤k) (w:k≤20) {x:PS} {y:St} (h:Al b.length x y)=>Ei H z w h
 have G:=fun {x:PS} {y:St} (h:Al b.length x y)=>Hn H (k:=1) (so:=1) (by decide) h
 simp only [BF,Nat.reduceEqDiff,if_true,if_false] at K F I J D;unfold CM Bm;by_cases t:(Ah b x.d8).kind=5
 ·rw [if_pos (K.2 t),if_pos t];have c:=E 5 (by decide) (by decide) A;refine ⟨?_,fun _=>⟨rfl,X,j,fun e=>absurd e (by simp),rfl,rfl,rfl,rfl,rfl,rfl⟩⟩;rcases c with a | a
  ·exact .inl a
  ·exact .inr a
 rw [if_neg (fun e=>t (K.1 e)),if_neg t];by_cases n:(Ah b x.d8).kind=16
 ·rw [if_pos (F.2 n),if_pos n];have c:=E 16 (by decide) (by decide) A;obtain ⟨f,i⟩:=G c;have C:=DZ H (k:=19) (by decide) (by decide) f;simp only [BF,Nat.reduceEqDiff,if_true,if_false] at c f i C;unfold Df;by_cases r:(Ah b (Ae b b.length 1 (Ae b b.length 16 x)).d8).kind=19
  ·simp only [if_pos (C.2 r),if_pos r];have g:=E 19 (by decide) (by decide) f;obtain ⟨L,O⟩:=Hn H (k:=2) (so:=3) (by decide) g;simp only [BF,Nat.reduceEqDiff,if_true,if_false] at g L O;refine ⟨L,fun U=>⟨rfl,i,j,fun _=>?_,rfl,rfl,rfl,rfl,rfl,rfl⟩⟩;obtain ⟨T,g2,P⟩:=DF U;rw [O];simp only [Ak];have V:(Ae b b.length 19 (Ae b b.length 1 (Ae b b.length 16 x))).d8<b.length:=by
    rcases g with a | ⟨p,a,_⟩
    ·exact a.2.2.2
    ·have:=a.2.2;have:=H.pos;omega
   exact JZ (by rw [P];exact d _ (DT V)) (by rw [P];exact T) _
  ·simp only [if_neg (fun e=>r (C.1 e)),if_neg r];exact ⟨f,fun _=>⟨rfl,i,j,fun e=>absurd e (by simp),rfl,rfl,rfl,rfl,rfl,rfl⟩⟩
 rw [if_neg (fun e=>n (F.1 e)),if_neg n];by_cases o:(Ah b x.d8).kind=17
 ·rw [if_pos (I.2 o),if_pos o];have c:=E 17 (by decide) (by decide) A;obtain ⟨f,i⟩:=G c;exact ⟨f,fun _=>⟨rfl,i,j,fun e=>absurd e (by simp),rfl,rfl,rfl,rfl,rfl,rfl⟩⟩
 rw [if_neg (fun e=>o (I.1 e)),if_neg o];by_cases q:(Ah b x.d8).kind=18
 ·rw [if_pos (J.2 q),if_pos q];have c:=E 18 (by decide) (by decide) A;obtain ⟨f,i⟩:=G c;exact ⟨f,fun _=>⟨rfl,i,j,fun e=>absurd e (by simp),rfl,rfl,rfl,rfl,rfl,rfl⟩⟩
 rw [if_neg (fun e=>q (J.1 e)),if_neg q];by_cases m:(Ah b x.d8).kind=10
 ·rw [if_pos (D.2 m),if_pos m];have f:=E 17 (by decide) (by decide) (E 10 (by decide) (by decide) A);obtain ⟨g,v⟩:=G f;have M:=E 10 (by decide) (by decide) (E 11 (by decide) (by decide) g);unfold EE A0;generalize Y:Ao (b.map Ak) (BF 10) (Ao (b.map Ak) (BF 11) (Bc (b.map Ak) 1 (Ao (b.map Ak) (BF 17) (Ao (b.map Ak) (BF 10) y))).2)=l at M;have Z:Ao (b.map Ak) [40] (Ao (b.map Ak) [41] (Bc (b.map Ak) 1 (Ao (b.map Ak) [42] (Ao (b.map Ak) [40] y))).2)=l:=Y;simp only;rw [Z];have Q:Al b.length (Ae b b.length 10 (Ae b b.length 11 (Ae b b.length 1 (Ae b b.length 17 (Ae b b.length 10 x))))) ⟨l.i9,l.l6,l.pl,l.ca+1⟩:=M;obtain ⟨R,S⟩:=Ho H Q;exact ⟨R,fun _=>⟨rfl,v,S,fun e=>absurd e (by simp),rfl,rfl,rfl,rfl,rfl,rfl⟩⟩
 rw [if_neg (fun e=>m (D.1 e)),if_neg m];obtain ⟨c,N⟩:=G A;have B:=DZ H (k:=10) (by decide) (by decide) c;simp only [BF,Nat.reduceEqDiff,if_true,if_false] at B;by_cases u:(Ah b (Ae b b.length 1 x).d8).kind=10
 ·simp only [if_pos (B.2 u),if_pos u];have f:=E 10 (by decide) (by decide) c;obtain ⟨g,v⟩:=Ho H f;unfold A0;exact ⟨g,fun _=>⟨rfl,N,v,fun e=>absurd e (by simp),rfl,rfl,rfl,rfl,rfl,rfl⟩⟩
 ·simp only [if_neg (fun e=>u (B.1 e)),if_neg u];exact ⟨c,fun _=>⟨rfl,N,j,fun e=>absurd e (by simp),rfl,rfl,rfl,rfl,rfl,rfl⟩⟩
structure SC(v:VS)(u:FS)(inn:Nat):Prop where
 kind:u.kind=GW v.kind
 Mz:v.kind≤10
 p:u.p=Ak v.tg
 q:u.q=Ak v.sr
 args:u.args=v.args.map Ak
 field:v.kind=3→u.field=v.field
 r9:u.r9=inn
omit H d in
theorem IV(b n x):1≤(Bm b n x).1.kind∧(Bm b n x).1.kind≤8:=by
 unfold Bm;split
 ·simp
 ·split
  ·unfold Df;simp only;split<;>simp
  ·split
   ·simp
   ·split
    ·simp
    ·split
     ·simp [EE]
     ·split<;>simp
theorem Kz{x:PS}{y:St}(g:Nat)(h:FI b.length x y):
 Al b.length (AP b b.length x).2 (Bw (b.map Ak) g y).2∧((AP b b.length x).2.l7=false→SC (AP b b.length x).1 (Bw (b.map Ak) g y).1 g):=by
 have A:Al b.length x y:=.inl h;have W:=fun (k:Nat) (n:3≤k) (m:k≤20)=>D5 H n m h
 have q:=W 4 (by decide) (by decide);have r:=W 6 (by decide) (by decide);have o:=W 17 (by decide) (by decide);have E:=fun (k:Nat) (n:3≤k) (m:k≤20) {x:PS} {y:St} (h:Al b.length x y)=>Ei H n m h
 have G:=fun {x:PS} {y:St} (h:Al b.length x y)=>Hn H (k:=1) (so:=1) (by decide) h
 simp only [BF,Nat.reduceEqDiff,if_true,if_false] at q r o;unfold Bw AP;by_cases j:(Ah b x.d8).kind=4
 ·rw [if_pos (q.2 j),if_pos j];obtain ⟨a,c⟩:=G (E 4 (by decide) (by decide) A);exact ⟨a,fun _=>⟨rfl,by simp only;omega,c,rfl,rfl,fun e=>absurd e (by simp),rfl⟩⟩
 rw [if_neg (fun e=>j (q.1 e)),if_neg j];by_cases l:(Ah b x.d8).kind=6
 ·rw [if_pos (r.2 l),if_pos l];obtain ⟨a,c⟩:=G (E 6 (by decide) (by decide) A);exact ⟨a,fun _=>⟨rfl,by simp only;omega,rfl,c,rfl,fun e=>absurd e (by simp),rfl⟩⟩
 rw [if_neg (fun e=>l (r.1 e)),if_neg l];by_cases i:(Ah b x.d8).kind=17
 ·rw [if_pos (o.2 i),if_pos i];obtain ⟨a,c⟩:=G (E 17 (by decide) (by decide) A);obtain ⟨w,F⟩:=G (E 15 (by decide) (by decide) a);exact ⟨w,fun _=>⟨rfl,by simp only;omega,c,F,rfl,fun e=>absurd e (by simp),rfl⟩⟩
 rw [if_neg (fun e=>i (o.1 e)),if_neg i];obtain ⟨t,C⟩:=G A;have a:=E 15 (by decide) (by decide) t;have I:=IV b b.length (Ae b b.length 15 (Ae b b.length 1 x));simp only;rcases a with a | ⟨p,z,B⟩
 ·obtain ⟨u,D⟩:=L0 H d {BQ g (-1) with p:=(Bc (b.map Ak) 1 y).1} rfl rfl a;refine ⟨u,fun f=>?_⟩;have v:=D f;exact ⟨v.kind,by simp only;omega,v.p.trans C,v.q,v.args,v.field,v.r9⟩
 ·have s:=K5 H z;refine ⟨.inr ⟨p,s,IM _ _ B⟩,fun f=>?_⟩;rw [s.1] at f;cases f
end
inductive BS {A B:Type} (R:A→B→Prop):List A→List B→Prop
 | nil:BS R [] []
 | cons {a:A} {b:B} {l:List A} {m:List B} (h:R a b) (t:BS R l m):BS R (a::l) (b::m)
theorem BS.mono{A B}{R S:A→B→Prop}{l m}(h:BS R l m)(k:∀a b,R a b→S a b):BS S l m:=by
 induction h with
 | nil=>exact .nil
 | cons h _ c=>exact .cons (k _ _ h) c
theorem BS.append{A B:Type}{R:A→B→Prop}{l a:List A}{m b:List B}(h:BS R l m)(r:BS R a b):BS R (l++a) (m++b):=by
 induction h with
 | nil=>exact r
 | cons h _ c=>exact .cons h c
theorem BS.length{A B}{R:A→B→Prop}{l m}(h:BS R l m):l.length=m.length:=by
 induction h with
 | nil=>rfl
 | cons _ _ a=>simp [a]
theorem BS.get{A B}{R:A→B→Prop}{l m}(h:BS R l m):∀(i:Nat) (a:i<l.length) (b:i<m.length),R l[i] m[i]:=by
 induction h with
 | nil=>intro i a;simp at a
 | cons h _ c=>
   intro i a b;cases i with
   | zero=>exact h
   | succ i=>exact c i (by simpa using a) (by simpa using b)
def Cq(a:Nat):Nat→List FS→Nat→TS→Prop
 | 0,_,_,_=>False
 | d+1,c,i,.mk s e=>∃u,c[i]? =some u∧
    ((e=[]∧SC s u a)∨
     (∃p b,e=[(p,b)]∧s=Ec 12∧u.kind=13∧u.r9=a∧u.br=((p:Nat):Int)∧u.y8= -1∧u.other=[]∧BS (fun j t=>i<j∧Cq a d c j t) u.p8 b)∨
     (∃p b,e=[(p,b)]∧s=Ec 11∧u.kind=12∧u.r9=a∧u.br=((p:Nat):Int)∧u.y8= -1∧u.other=[]∧BS (fun j t=>i<j∧Cq a d c j t) u.p8 b)∨
     (∃p b f g,e=[(p,b),(f,g)]∧s=Ec 11∧u.kind=12∧u.r9=a∧u.br=((p:Nat):Int)∧u.y8=((f:Nat):Int)∧BS (fun j t=>i<j∧Cq a d c j t) u.p8 b∧BS (fun j t=>i<j∧Cq a d c j t) u.other g))
theorem Cq.up{z:Nat}:∀{d:Nat} {c:List FS} {i:Nat} {t:TS},Cq z d c i t→Cq z (d+1) c i t
 | 0,_,_,_,h=>h.elim
 | d+1,c,i,.mk s D,h=>by
   obtain ⟨u,A,h⟩:=h;refine ⟨u,A,?_⟩;have M:∀(l:List Nat) (m:List TS),BS (fun j t=>i<j∧Cq z d c j t) l m→BS (fun j t=>i<j∧Cq z (d+1) c j t) l m:=fun l m q=>q.mono (fun a b r=>⟨r.1,r.2.up⟩)
   rcases h with h | ⟨p,y,e,f,g,k,n,v,w,x⟩ | ⟨p,y,e,f,g,k,n,v,w,x⟩ | ⟨p,y,B,C,e,f,g,k,n,v,w,x⟩
   ·exact .inl h
   ·exact .inr (.inl ⟨p,y,e,f,g,k,n,v,w,M _ _ x⟩)
   ·exact .inr (.inr (.inl ⟨p,y,e,f,g,k,n,v,w,M _ _ x⟩))
   ·exact .inr (.inr (.inr ⟨p,y,B,C,e,f,g,k,n,v,M _ _ w,M _ _ x⟩))
def IY(a b:List FS):Prop:=a.length≤b.length∧∀i,i<a.length→b[i]? =a[i]?
theorem IY.refl(a):IY a a:=⟨Nat.le_refl _,fun _ _=>rfl⟩
theorem IY.trans{a b c:List FS}(h:IY a b)(k:IY b c):IY a c:=⟨Nat.le_trans h.1 k.1,fun i d=>(k.2 i (Nat.lt_of_lt_of_le d h.1)).trans (h.2 i d)⟩
theorem Cq.y9{B k:Nat}:∀{d:Nat} {c A:List FS} {i:Nat} {t:TS},Cq B d c i t→k≤i→(∀j,k≤j→j<c.length→A[j]? =c[j]?)→Cq B d A i t
 | 0,_,_,_,_,h,_,_=>h.elim
 | d+1,c,A,i,.mk s I,h,F,D=>by
   obtain ⟨u,C,h⟩:=h;have E:i<c.length:=by
    rcases Nat.lt_or_ge i c.length with q | q
    ·exact q
    ·rw [List.getElem?_eq_none q] at C;cases C
   refine ⟨u,by rw [D i F E];exact C,?_⟩;have M:∀(l:List Nat) (m:List TS),BS (fun j t=>i<j∧Cq B d c j t) l m→BS (fun j t=>i<j∧Cq B d A j t) l m:=fun l m q=>q.mono (fun a b r=>⟨r.1,r.2.y9 (by have:=r.1;omega) D⟩)
   rcases h with h | ⟨p,z,e,f,g,n,v,w,x,y⟩ | ⟨p,z,e,f,g,n,v,w,x,y⟩ | ⟨p,z,G,H,e,f,g,n,v,w,x,y⟩
   ·exact .inl h
   ·exact .inr (.inl ⟨p,z,e,f,g,n,v,w,x,M _ _ y⟩)
   ·exact .inr (.inr (.inl ⟨p,z,e,f,g,n,v,w,x,M _ _ y⟩))
   ·exact .inr (.inr (.inr ⟨p,z,G,H,e,f,g,n,v,w,M _ _ x,M _ _ y⟩))
theorem Cq.pre{c d:Nat}{a b:List FS}{i:Nat}{t:TS}(h:Cq c d a i t)(f:IY a b):Cq c d b i t:=h.y9 (k:=0) (Nat.zero_le _) (fun j _ e=>f.2 j e)
theorem FG(a b z u)(h:IY (a++[z]) b):IY a (b.set a.length u)∧(b.set a.length u)[a.length]? =some u∧a.length<(b.set a.length u).length∧(∀j,a.length+1≤j→j<b.length→(b.set a.length u)[j]? =b[j]?):=by
 have c:=h.1;simp only [List.length_append,List.length_singleton] at c;refine ⟨⟨by simp only [List.length_set];omega,fun i d=>?_⟩,?_,by simp only [List.length_set];omega,fun j e f=>?_⟩
 ·rw [List.getElem?_set_ne (by omega),h.2 i (by simp;omega),List.getElem?_append_left d]
 ·rw [List.getElem?_set_self (by omega)]
 ·rw [List.getElem?_set_ne (by omega)]
def Mt(toks:List PT)(x:PS)(y:St):Prop:=Al toks.length x y∨(x.l7=false∧x.d8<toks.length∧(Ah toks x.d8).kind≠13∧y.l6=some (Ah toks x.d8).f8)
section
variable {N : Nat} {toks : List PT} (H : TksOk N toks) (o : DigOk toks)
include H o
omit o in
theorem Kx{x:PS}{y:St}(h:Mt toks x y):Al toks.length (Ae toks toks.length 13 x) (Ao (toks.map Ak) [125] y):=by
 rcases h with h | ⟨a,d,b,c⟩
 ·exact Ei H (k:=13) (by decide) (by decide) h
 ·refine .inr ⟨_,?_,BY _ _ c⟩;unfold Ae;rw [if_neg b];exact ⟨rfl,by simp [Ef,a],rfl⟩
omit H o in
theorem BL{k}(d:k≠0){x}(h:(Ae toks toks.length k x).l7=false):x.l7=false∧(Ae toks toks.length k x).d8=x.d8+1∧(Av toks k x)=Ah toks x.d8∧(Ah toks x.d8).kind=k:=by obtain ⟨a,b,c⟩:=DF h;exact ⟨b,Bd a d,c,a⟩
omit H o in
theorem EX{n x y}(h:Al n x y)(a:y.l6=none):FI n x y:=by
 rcases h with h | ⟨p,_,h⟩
 ·exact h
 ·rw [a] at h;cases h
omit H o in
theorem Ky{n x y}(h:Al n x y)(a:x.l7=false):FI n x y:=by
 rcases h with h | ⟨p,h,_⟩
 ·exact h
 ·rw [h.1] at a;cases a
omit H o in
theorem BZ(T f c){y p}(a b)(h:y.l6=some p):As T f c y a b=(b,y,a):=by
 cases f with
 | zero=>rw [As]
 | succ f=>rw [As,if_pos (.inl (by simp [h]))]
def JD(toks:List PT)(e:Nat):Prop:=∀(b:Nat) (x:PS) (y:St) (c:Nat) (a:List FS) (f:List TS) (d:List Nat),Al toks.length x y→(x.l7=false→2*(toks.length-x.d8)+1≤e∧2*(toks.length-x.d8)+1≤b)→
 Mt toks (AD toks toks.length e x f).2 (As (toks.map Ak) b c y a d).2.1∧
 ((As (toks.map Ak) b c y a d).2.1.l6=none→∃h g,(AD toks toks.length e x f).1=f++h∧(As (toks.map Ak) b c y a d).1=d++g∧BS (fun j t=>a.length≤j∧Cq c e (As (toks.map Ak) b c y a d).2.2 j t) g h∧IY a (As (toks.map Ak) b c y a d).2.2)
omit o in
theorem EC{c f2:Nat}(B:JD toks c){x:PS}{y:St}(b:Nat)(a:List FS)(A:Al toks.length x y)(z:x.l7=false→2*(toks.length-x.d8)≤c+1∧2*(toks.length-x.d8)≤f2+1):
 Al toks.length (Ae toks toks.length 13 (AD toks toks.length c (Ae toks toks.length 12 x) []).2) (Ao (toks.map Ak) [125] (As (toks.map Ak) f2 b (Ao (toks.map Ak) [123] y) a []).2.1)∧
 ((Ao (toks.map Ak) [125] (As (toks.map Ak) f2 b (Ao (toks.map Ak) [123] y) a []).2.1).l6=none→
   BS (fun j t=>a.length≤j∧Cq b c (As (toks.map Ak) f2 b (Ao (toks.map Ak) [123] y) a []).2.2 j t) (As (toks.map Ak) f2 b (Ao (toks.map Ak) [123] y) a []).1 (AD toks toks.length c (Ae toks toks.length 12 x) []).1∧IY a (As (toks.map Ak) f2 b (Ao (toks.map Ak) [123] y) a []).2.2∧(Ai (toks.map Ak) y.i9).pos=(Av toks 12 x).f8∧y.l6=none):=by
 have d:=Ei H (k:=12) (by decide) (by decide) A;simp only [BF,Nat.reduceEqDiff,if_true,if_false] at d;obtain ⟨r,s⟩:=B f2 (Ae toks toks.length 12 x) (Ao (toks.map Ak) [123] y) b a [] [] d (fun e=>by have q:=BL (k:=12) (by decide) e;have:=z q.1;have:=(Ky d e).2.2.2;omega)
 refine ⟨Kx H r,fun e=>?_⟩;have f:=((AR (toks.map Ak) [125] _).2.2.2 e).1;have m:(Ao (toks.map Ak) [123] y).l6=none:=by
  cases l:(Ao (toks.map Ak) [123] y).l6 with
  | none=>rfl
  | some p=>rw [BZ _ _ _ _ _ l] at f;simp only [l] at f;cases f
 have n:=((AR (toks.map Ak) [123] y).2.2.2 m).1;obtain ⟨D,C,h,i,u,v⟩:=s f;simp only [List.nil_append] at h i;rw [h,i];refine ⟨u,v,?_,n⟩;have w:=EX d m;have g:=EX A n;rw [(BL (k:=12) (by decide) w.1).2.2.1,g.2.2.1,AY];rfl
theorem Ly:∀i:Nat,JD toks i∧
 (∀(j:Nat) (x:PS) (y:St) (d:Nat) (c:List FS),FI toks.length x y→BC (Ah toks x.d8).kind→2*(toks.length-x.d8)≤i→2*(toks.length-x.d8)≤j→
   Al toks.length (A8 toks toks.length i x).2 (AO (toks.map Ak) j d y c).2.1∧
   ((AO (toks.map Ak) j d y c).2.1.l6=none→(AO (toks.map Ak) j d y c).1=c.length∧Cq d i (AO (toks.map Ak) j d y c).2.2 c.length (A8 toks toks.length i x).1∧IY c (AO (toks.map Ak) j d y c).2.2∧c.length<(AO (toks.map Ak) j d y c).2.2.length)):=by
 have E:=fun (k:Nat) (V:3≤k) (U:k≤20) {x:PS} {y:St} (h:Al toks.length x y)=>Ei H V U h
 have TN:=fun (k:Nat) (hk:k≠0) {x:PS} (h:(Ae toks toks.length k x).l7=false)=>BL hk h
 intro i;induction i with
 | zero=>
   refine ⟨fun j x y d c a8 a9 h X=>?_,fun j x y d c h I X _=>?_⟩
   ·rcases h with h | ⟨p,I,w⟩
    ·have:=(X h.1).1;have:=h.2.2.2;omega
    ·rw [BZ _ _ _ _ _ w];refine ⟨.inl (.inr ⟨p,by rw [AD];exact I,w⟩),fun e=>?_⟩;rw [w] at e;cases e
   ·have:=h.2.2.2;omega
 | succ i ih=>
   refine ⟨fun j x y d c a8 a9 h X=>?_,fun j x y d c h I X b6=>?_⟩
   ·rcases h with h | ⟨p,I,w⟩
    ·obtain ⟨c5,b6⟩:=X h.1;have Z:=h.2.2.2;obtain ⟨f,a5⟩:∃f,j=f+1:=⟨j-1,by omega⟩;subst a5;have a0:=DZ H (k:=13) (by decide) (by decide) (.inl h:Al toks.length x y);simp only [BF,Nat.reduceEqDiff,if_true,if_false] at a0;by_cases J:BC (Ah toks x.d8).kind
     ·have T:¬(Ah toks x.d8).kind=13:=by unfold BC at J;omega
      have a7:¬(y.l6≠none∨AW y.l6 (Ai (toks.map Ak) y.i9) [125]=true):=by
       rintro (q | q)
       ·exact q h.2.1
       ·exact T (a0.1 q)
      rw [AD,if_pos J,As,if_neg a7];obtain ⟨a1,s⟩:=ih.2 f x y d c h J (by omega) (by omega);have b7:(A8 toks toks.length i x).2.l7=false→x.d8+1≤(A8 toks toks.length i x).2.d8:=by intro _;obtain ⟨Q,b4⟩:∃Q,i=Q+1:=⟨i-1,by omega⟩;subst b4;exact Ev H.end_ Q Z J
      obtain ⟨t,F⟩:=ih.1 f (A8 toks toks.length i x).2 (AO (toks.map Ak) f d y c).2.1 d (AO (toks.map Ak) f d y c).2.2 (a8++[(A8 toks toks.length i x).1]) (a9++[(AO (toks.map Ak) f d y c).1]) a1 (fun e=>by have:=b7 e;omega);refine ⟨t,fun e=>?_⟩;obtain ⟨ts,ls,u,l,v,P⟩:=F e;have c0:(AO (toks.map Ak) f d y c).2.1.l6=none:=by
       cases hq:(AO (toks.map Ak) f d y c).2.1.l6 with
       | none=>rfl
       | some p=>rw [BZ _ _ _ _ _ hq] at e;simp only [hq] at e;cases e
      obtain ⟨d1,d2,d3,d4⟩:=s c0;refine ⟨(A8 toks toks.length i x).1::ts,c.length::ls,by rw [u];simp,by rw [l,d1];simp,.cons ⟨Nat.le_refl _,(d2.pre P).up⟩ (v.mono (fun a b r=>⟨by have:=r.1;omega,r.2.up⟩)),d3.trans P⟩
     ·rw [AD,if_neg J];by_cases T:(Ah toks x.d8).kind=13
      ·rw [As,if_pos (.inr (a0.2 T))];exact ⟨.inl (.inl h),fun _=>⟨[],[],by simp,by simp,.nil,IY.refl _⟩⟩
      ·have a7:¬(y.l6≠none∨AW y.l6 (Ai (toks.map Ak) y.i9) [125]=true):=by
        rintro (q | q)
        ·exact q h.2.1
        ·exact T (a0.1 q)
       rw [As,if_neg a7]
       obtain ⟨G,b5⟩:∃G,f=G+1:=⟨f-1,by omega⟩
       subst b5
       have W:=fun (k:Nat) (V:3≤k) (U:k≤20)=>D5 H V U h
       have w4:=W 4 (by decide) (by decide)
       have w6:=W 6 (by decide) (by decide)
       have D:=W 7 (by decide) (by decide)
       have N:=W 9 (by decide) (by decide)
       have b0:=W 17 (by decide) (by decide)
       simp only [BF,Nat.reduceEqDiff,if_true,if_false] at w4 w6 D N b0
       unfold BC at J
       have a3:(AO (toks.map Ak) (G+1) d y c).2.1.l6=some (Ah toks x.d8).f8:=by
        rw [AO,if_neg (by rw [D,N];omega)];simp only;refine BY _ _ ?_;unfold Bw;rw [if_neg (by rw [w4];omega),if_neg (by rw [w6];omega),if_neg (by rw [b0];omega)];simp only;refine IM _ _ (BY _ _ ?_);unfold Bc BO;have hs:¬(y.l6.isNone=true∧(Ai (toks.map Ak) y.i9).sort=1):=by rintro ⟨_,e⟩;rw [h.2.2.1,AY] at e;have:=(Eb _).1 e;omega
        simp only [if_neg hs];rw [h.2.2.1,AY,h.2.1];rfl
       rw [BZ _ _ _ _ _ a3]
       refine ⟨.inr ⟨h.1,Z,T,a3⟩,fun e=>?_⟩
       simp only at e
       rw [a3] at e;cases e
    ·rw [BZ _ _ _ _ _ w,AD,if_neg (by rw [I.2.2,H.end_];decide)];refine ⟨.inl (.inr ⟨p,I,w⟩),fun e=>?_⟩;rw [w] at e;cases e
   ·have Z:=h.2.2.2;obtain ⟨f,a5⟩:∃f,j=f+1:=⟨j-1,by omega⟩;subst a5;have A:Al toks.length x y:=.inl h;have W:=fun (k:Nat) (V:3≤k) (U:k≤20)=>D5 H V U h
    have D:=W 7 (by decide) (by decide);have N:=W 9 (by decide) (by decide);simp only [BF,Nat.reduceEqDiff,if_true,if_false] at D N;have m:=fun (k:Nat) {x:PS} (hc:x.d8<toks.length)=>Ag (n:=toks.length) H.end_ k hc
    by_cases K:(Ah toks x.d8).kind=7
    ·have Y:=D.2 K;have a6:AB (Ai (toks.map Ak) y.i9)=LV∨AB (Ai (toks.map Ak) y.i9)=Ew:=.inl Y;rw [A8,if_pos K,AO,if_pos a6];simp only [Y,if_true];have s:=E 20 (by decide) (by decide) (E 7 (by decide) (by decide) A);simp only [BF,Nat.reduceEqDiff,if_true,if_false] at s;have R:=m 7 Z;have S:=R.trans (m 20 R.2);generalize Ae toks toks.length 20 (Ae toks toks.length 7 x)=x2 at*;generalize Ao (toks.map Ak) [63] (Ao (toks.map Ak) [105,102] y)=O at*;obtain ⟨t,F⟩:=EC H ih.1 (f2:=f) d (c++[BQ 0 0]) s (fun _=>by have:=S.1;omega);have g3:=S.trans (m 12 S.2);have g4:=g3.trans (A6 H.end_ i _ [] g3.2);have g5:=g4.trans (m 13 g4.2);generalize AD toks toks.length i (Ae toks toks.length 12 x2) []=r at*;generalize As (toks.map Ak) f d (Ao (toks.map Ak) [123] O) (c++[BQ 0 0]) []=q at*;have n8:=DZ H (k:=8) (by decide) (by decide) t;simp only [BF,Nat.reduceEqDiff,if_true,if_false] at n8;by_cases k8:(Ah toks (Ae toks toks.length 13 r.2).d8).kind=8
     ·rw [if_pos k8,if_pos (n8.2 k8)];have a4:=E 8 (by decide) (by decide) t;simp only [BF,Nat.reduceEqDiff,if_true,if_false] at a4;have g6:=g5.trans (m 8 g5.2);have b3:(Ao (toks.map Ak) [101,108,115,101] (Ao (toks.map Ak) [125] q.2.1)).l6=none→(Ao (toks.map Ak) [125] q.2.1).l6=none:=fun e=>((AR (toks.map Ak) [101,108,115,101] _).2.2.2 e).1
      generalize Ae toks toks.length 8 (Ae toks toks.length 13 r.2)=x4 at*;generalize Ao (toks.map Ak) [101,108,115,101] (Ao (toks.map Ak) [125] q.2.1)=y4 at*;obtain ⟨d1,d2⟩:=EC H ih.1 (f2:=f) d q.2.2 a4 (fun _=>by have:=g6.1;omega);generalize AD toks toks.length i (Ae toks toks.length 12 x4) []=r2 at*;generalize As (toks.map Ak) f d (Ao (toks.map Ak) [123] y4) q.2.2 []=q2 at*;refine ⟨d1,fun e=>?_⟩;obtain ⟨Q,G,e3,e4⟩:=d2 e;obtain ⟨u,l,v,P⟩:=F (b3 e4);obtain ⟨z,B,C,M⟩:=FG c q2.2.2 (BQ 0 0) {BQ d (-1) with kind:=12,br:=(Ai (toks.map Ak) O.i9).pos,p8:=q.1,y8:=(Ai (toks.map Ak) y4.i9).pos,other:=q2.1} (l.trans G);have b8:=l.1;simp only [List.length_append,List.length_singleton] at b8;refine ⟨by trivial,⟨_,B,.inr (.inr (.inr ⟨_,_,_,_,rfl,rfl,rfl,rfl,by simp only;rw [v],by simp only;rw [e3],?_,?_⟩))⟩,z,C⟩
      ·refine u.mono (fun a b r=>?_);have L:=r.1;simp only [List.length_append,List.length_singleton] at L;exact ⟨by omega,(r.2.pre G).y9 (k:=c.length+1) (by omega) M⟩
      ·refine Q.mono (fun a b r=>?_);have L:=r.1;exact ⟨by omega,r.2.y9 (k:=c.length+1) (by omega) M⟩
     ·rw [if_neg k8,if_neg (fun e=>k8 (n8.1 e))];refine ⟨t,fun e=>?_⟩;obtain ⟨u,l,v,P⟩:=F e;obtain ⟨z,B,C,M⟩:=FG c q.2.2 (BQ 0 0) {BQ d (-1) with kind:=12,br:=(Ai (toks.map Ak) O.i9).pos,p8:=q.1} l;refine ⟨by trivial,⟨_,B,.inr (.inr (.inl ⟨_,_,rfl,rfl,rfl,rfl,by simp only;rw [v],rfl,rfl,?_⟩))⟩,z,C⟩;refine u.mono (fun a b r=>?_);have L:=r.1;simp only [List.length_append,List.length_singleton] at L;exact ⟨by omega,r.2.y9 (k:=c.length+1) (by omega) M⟩
    by_cases k9:(Ah toks x.d8).kind=9
    ·have Y:=N.2 k9;have b9:¬AB (Ai (toks.map Ak) y.i9)=[105,102]:=fun e=>K (D.1 e)
     have a6:AB (Ai (toks.map Ak) y.i9)=LV∨AB (Ai (toks.map Ak) y.i9)=Ew:=.inr Y;rw [A8,if_neg K,if_pos k9,AO,if_pos a6,if_neg b9];simp only [Y];have s:=E 20 (by decide) (by decide) (E 9 (by decide) (by decide) A);simp only [BF,Nat.reduceEqDiff,if_true,if_false] at s;have R:=m 9 Z;have S:=R.trans (m 20 R.2);generalize Ae toks toks.length 20 (Ae toks toks.length 9 x)=x2 at*;generalize Ao (toks.map Ak) [63] (Ao (toks.map Ak) [119,104,105,108,101] y)=O at*;obtain ⟨t,F⟩:=EC H ih.1 (f2:=f) d (c++[BQ 0 0]) s (fun _=>by have:=S.1;omega);generalize AD toks toks.length i (Ae toks toks.length 12 x2) []=r at*;generalize As (toks.map Ak) f d (Ao (toks.map Ak) [123] O) (c++[BQ 0 0]) []=q at*;refine ⟨t,fun e=>?_⟩;obtain ⟨u,l,v,P⟩:=F e;obtain ⟨z,B,C,M⟩:=FG c q.2.2 (BQ 0 0) {BQ d (-1) with kind:=13,br:=(Ai (toks.map Ak) O.i9).pos,p8:=q.1} l;refine ⟨by trivial,⟨_,B,.inr (.inl ⟨_,_,rfl,rfl,rfl,rfl,by simp only;rw [v],rfl,rfl,?_⟩)⟩,z,C⟩;refine u.mono (fun a b r=>?_);have L:=r.1;simp only [List.length_append,List.length_singleton] at L;exact ⟨by omega,r.2.y9 (k:=c.length+1) (by omega) M⟩
    ·rw [A8,if_neg K,if_neg k9,AO,if_neg (fun e=>e.elim (fun e=>K (D.1 e)) (fun e=>k9 (N.1 e)))];simp only;obtain ⟨p1,p2⟩:=Kz H o d h;have p3:=E 14 (by decide) (by decide) p1;simp only [BF,Nat.reduceEqDiff,if_true,if_false] at p3;refine ⟨p3,fun e=>?_⟩;have g:=EX p3 e;have hg:=(TN 14 (by decide) g.1).1;obtain ⟨z,B,C,_⟩:=FG c (c++[BQ 0 0]) (BQ 0 0) (Bw (toks.map Ak) d y).1 (IY.refl _);exact ⟨by trivial,⟨_,B,.inl ⟨rfl,p2 hg⟩⟩,z,C⟩
end
end Go.Proofs.YtmaankfbhhbeoaaGreatDoor
