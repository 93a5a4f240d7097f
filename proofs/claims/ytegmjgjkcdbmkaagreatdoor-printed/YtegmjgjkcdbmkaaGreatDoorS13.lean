/- One of the texts of the proof: AnH AnI AnJ AnK AnL AnM AnN AnO. -/
import Derived.Test.YtegmjgjkcdbmkaaGreatDoorS07
import Derived.Deep.RegionHeld3
set_option maxRecDepth 100000
set_option maxHeartbeats 2000000
namespace Go.Proofs.YtegmjgjkcdbmkaaGreatDoor
open Go.RowKit Go.Maps
section
variable {P : List PFn} {a : Nat} {l : Value} {p s d : Nat} {o : So} {v : Sv} {w u : World}
theorem A9.isMap{b m w}(h:A9 b m w):∃e c,w.heap[b]? =some (.map e c):=by obtain ⟨g,f,_⟩:=h;exact f.isMap
theorem Bp.kind(h:Bp P a l p s d o v w){k}(e:o.own a k):(∃f c,w.heap[k]? =some (.map f c))∨(∃b,w.heap[k]? =some (.cells b 144 (0,0)))∨∃b,w.heap[k]? =some (.cells b 208 (0,0)):=by
 rcases e with rfl | ⟨t,n,rfl⟩ | ⟨t,i,e⟩ | ⟨c,t,m,rfl⟩
 ·exact .inr (.inl ⟨_,h.s9⟩)
 ·by_cases j:t=5
  ·subst j;exact .inl h.fm.isMap
  ·exact .inl (h.mp t (by omega)).isMap
 ·exact .inl (h.st t i k e).isMap
 ·obtain ⟨b,g,_⟩:=h.fr c t m;exact .inr (.inr (B8 g _ rfl))
theorem Bp.noCells(h:Bp P a l p s d o v w){k b t c}(i:o.own a k)(f:t≠144)(g:t≠208):w.heap[k]? ≠some (.cells b t c):=by
 intro q;rcases h.kind i with ⟨_,_,e⟩ | ⟨_,e⟩ | ⟨_,e⟩<;>rw [e] at q<;>cases q
 ·exact f rfl
 ·exact g rfl
theorem Bp.ownLt(h:Bp P a l p s d o v w){k}(b:o.own a k):k<w.heap.size:=by rcases h.kind b with ⟨_,_,e⟩ | ⟨_,e⟩ | ⟨_,e⟩<;>exact lt_of_block e
theorem Bp.bR(h:Bp P a l p s d o v w){k f c}(e:w.heap[k]? =some (.map f c)):k≠a∧∀c t,o.fw c=some t→k≠t.1:=by
 refine ⟨?_,fun c t i=>?_⟩
 ·rintro rfl;have:=h.s9;unfold Ak at this;rw [e] at this;cases this
 ·rintro rfl;obtain ⟨j,g,_⟩:=h.fr c t i;obtain ⟨m,b⟩:=B8 g _ rfl;rw [e] at b;cases b
theorem Bp.put(h:Bp P a l p s d o v w){t i k}{m:Nat→Prop}{v':Sv}(g:o.bk t i=some k)(N:A9 k m u)(A:Ab (fun j=>j=k) w u)(G:∀x,BF P v' t i x↔m x)(C:∀b f x,¬(b=t∧f=i)→(BF P v' b f x↔BF P v b f x))(M:v'.W=v.W)(L:t=2→∃x,m x):Bp P a l p s d o v' u:=by
 obtain ⟨S,c,J⟩:=(h.st t i k g).isMap;obtain ⟨O,Q⟩:=h.bR J;have U:=h.t4 t i k g;refine {h with s9:=h.s9.O A (fun q=>O q.symm),mp:=fun b D=>(h.mp b D).O A (fun q=>h.ne t i k b g (by omega) q.symm),st:=fun b f B z=>?_,ins:=fun b f x D q=>?_,d2:=fun y B z=>?_,fm:=h.fm.O A (fun q=>h.ne t i k 5 g (by omega) q.symm),fr:=fun y b H=>(h.fr y b H).O A (fun j I q=>Q y b H (by unfold DX at I;cases I;exact q.symm)) (fun j R T q r=>by rw [q,J] at r;cases r),fvr:=fun c r=>by rw [M];exact h.fvr c r}
 ·by_cases e:b=t∧f=i
  ·obtain ⟨rfl,rfl⟩:=e;rw [g] at z;cases z;exact N.iff fun n=>(G n).symm
  ·have:B≠k:=fun q=>e (h.dj b f t i k (q▸z) g)
   exact ((h.st b f B z).O A this).iff fun n=>(C b f n e).symm
 ·by_cases e:2=t∧y=i
  ·obtain ⟨F,K⟩:=e;obtain ⟨x,E⟩:=L F.symm;subst F;subst K;exact ⟨x,Kq.1 ((G x).2 E)⟩
  ·obtain ⟨x,E⟩:=h.d2 y B z;exact ⟨x,Kq.1 ((C 2 y x e).2 (Kq.2 E))⟩
 ·by_cases e:b=t∧f=i
  ·obtain ⟨rfl,rfl⟩:=e;exact ⟨k,g⟩
  ·exact h.ins b f x D ((C b f x e).1 q)
def So.news(o:So)(c f:Nat):So:={o with bk:=fun t i=>if t=2 then (if i=c then some f else o.bk 2 i) else o.bk t i}
theorem Bp.news(h:Bp P a l p s d o v w){c f}{m:Nat→Prop}{v':Sv}(L:¬o.own a f)(a1:∃R c,w.heap[f]? =some (.map R c))(V:A9 f m u)(S:Bv Hb Ha (o.om 2) (fun x=>if x=c then some f else o.bk 2 x) u)(E:Ab (fun j=>j=o.om 2) w u)(J:∀x,BF P v' 2 c x↔m x)(G:∀b y x,¬(b=2∧y=c)→(BF P v' b y x↔BF P v b y x))(U:v'.W=v.W)(T:∃x,m x):Bp P a l p s d (o.news c f) v' u:=by
 obtain ⟨a0,Z,N⟩:=(h.mp 2 (by omega)).isMap;obtain ⟨X,Y⟩:=h.bR N;have A:∀t i k,(o.news c f).bk t i=some k→(t=2∧i=c∧k=f)∨(¬(t=2∧i=c)∧o.bk t i=some k):=fun t i k g=>by
  unfold So.news at g;dsimp only at g;split at g
  ·next e=>
   subst e;split at g
   ·next e=>cases g;exact .inl ⟨rfl,e,rfl⟩
   ·next e=>exact .inr ⟨fun q=>e q.2,g⟩
  ·next e=>exact .inr ⟨fun q=>e q.1,g⟩
 have F:∀t i,t≠2→(o.news c f).bk t i=o.bk t i:=fun t i e=>by unfold So.news;dsimp only;rw [if_neg e]
 have O:∀t i k,o.bk t i=some k→k≠f:=fun t i k g q=>L (q▸.inr (.inr (.inl ⟨t,i,g⟩)))
 refine {h with s9:=h.s9.O E (fun q=>X q.symm),mp:=fun b C=>?_,st:=fun b y D B=>?_,dj:=fun t i b y k g B=>?_,ne:=fun t i k b g C=>?_,t4:=fun t i k g=>?_,d0:=fun z t W=>?_,d1:=fun n=>?_,d4:=fun n=>?_,d2:=fun z D B=>?_,ins:=fun b y x C q=>?_,fm:=h.fm.O E (fun q=>absurd (h.oj 5 2 (by omega) (by omega) q) (by omega)),fr:=fun z b K=>(h.fr z b K).O E (fun j M q=>Y z b K (by unfold DX at M;cases M;exact q.symm)) (fun j cs fz q r=>by rw [q,N] at r;cases r),fvr:=fun c r=>by rw [U];exact h.fvr c r}
 ·by_cases e:b=2
  ·subst e;exact S.ext fun x=>by unfold So.news;dsimp only;rw [if_pos rfl]
  ·have:(o.news c f).bk b=o.bk b:=funext fun i=>F b i e
   rw [this];exact (h.mp b C).O E (fun q=>e (h.oj b 2 (by omega) (by omega) q))
 ·rcases A b y D B with ⟨rfl,rfl,rfl⟩ | ⟨e,g⟩
  ·exact V.iff fun n=>(J n).symm
  ·exact ((h.st b y D g).O E (h.ne b y D 2 g (by omega))).iff fun n=>(G b y n e).symm
 ·rcases A t i k g with ⟨rfl,rfl,rfl⟩ | ⟨e,q⟩
  ·rcases A b y _ B with ⟨rfl,rfl,_⟩ | ⟨Q,I⟩
   ·exact ⟨rfl,rfl⟩
   ·exact absurd rfl (O _ _ _ I)
  ·rcases A b y k B with ⟨rfl,rfl,rfl⟩ | ⟨Q,I⟩
   ·exact absurd rfl (O _ _ _ q)
   ·exact h.dj t i b y k q I
 ·rcases A t i k g with ⟨rfl,rfl,rfl⟩ | ⟨e,q⟩
  ·exact fun q=>L (.inr (.inl ⟨b,C,q⟩))
  ·exact h.ne t i k b q C
 ·rcases A t i k g with ⟨rfl,rfl,rfl⟩ | ⟨e,q⟩
  ·omega
  ·exact h.t4 t i k q
 ·rw [←h.d0 z t W,F t z (by omega)]
 ·rw [←h.d1 n,F 1 n (by omega)]
 ·rw [←h.d4 n,F 4 n (by omega)]
 ·rcases A 2 z D B with ⟨_,rfl,_⟩ | ⟨e,q⟩
  ·obtain ⟨x,H⟩:=T;exact ⟨x,Kq.1 ((J x).2 H)⟩
  ·obtain ⟨x,H⟩:=h.d2 z D q;exact ⟨x,Kq.1 ((G 2 z x e).2 (Kq.2 H))⟩
 ·by_cases e:b=2∧y=c
  ·obtain ⟨rfl,rfl⟩:=e;exact ⟨f,by unfold So.news;simp⟩
  ·obtain ⟨k,g⟩:=h.ins b y x C ((G b y x e).1 q);refine ⟨k,?_⟩;unfold So.news;dsimp only;split
   ·next e2=>rw [if_neg (fun q=>e ⟨e2,q⟩),←e2];exact g
   ·exact g
end
structure Dp(P:List PFn)(sb:Nat)(fv:Value)(mn pn cn:Nat)(o o':So)(v:Sv)(w w':World):Prop where
 r:Bp P sb fv mn pn cn o' v w'
 ow:∀k,o'.own sb k→o.own sb k∨w.heap.size≤k
 rl:(o'.rl,o'.fw)=(o.rl,o.fw)
 on:Ab (o.own sb) w w'
theorem En(P:List PFn)(v:Sv)(c:Nat)(T:Nat→Prop)(t i x:Nat):BF P (v.give c T) t i x↔BF P v t i x∨(t=0∧i=c∧T x)∨(t=2∧i=c∧T x∧¬v.s.I c x):=by
 by_cases a:t=0
 ·subst a;simp [BF,Sv.give]
 by_cases b:t=2
 ·subst b;simp only [BF,Sv.give,Nat.reduceEqDiff,false_implies,true_and,and_true,forall_const,false_and,false_or];constructor
  ·rintro (q | ⟨rfl,q⟩)
   ·exact .inl q
   ·exact .inr ⟨rfl,q⟩
  ·rintro (q | ⟨rfl,q⟩)
   ·exact .inl q
   ·exact .inr ⟨rfl,q⟩
 ·simp [BF,Sv.give,a,b]
theorem E7(P b l s y g o v w)(c B L:Nat)(T:Nat→Prop)(h:Bp P b l s y g o v w)(m:o.bk 0 c=some B)(ht:A9 L T w)(S:c<20000)(a8:L≠B):
 Calls Tryz.prog 126 #[.pointer (some ⟨b,0,none⟩),.int .i64 c,.map (some L)] w fun e w'=>e=.returned (.tuple #[])∧∃o',Dp P b l s y g o o' (v.give c T) w w':=by
 have a2:=(h.st 0 c B m).iff (m':=v.s.I c) fun n=>by simp [BF]
 have p4:=h.s9.cell 4;have p6:=h.s9.cell 6;have b3:=Ae h.s9;simp only [Gf,dM,dJ,dK] at p4 p6;have l0:=((h.mp 0 (by omega)).look Dw Tryz.underlying91 (Ca w) S false).2 B m;have H:=Aa h;have HS:=Aa a2;have HT:=Aa ht;clear h a2 ht;unfold GG at l0;go_enter Tryz.func126,Tryz.ntmps126;go_wp2_with fail;refine (Gd B L (v.s.I c) T w HS.o HT.o (Ne.symm a8)).mono ?_;rintro e d ⟨f,rfl,hf,sf,s0,o1⟩;obtain ⟨G,K⟩:∃G:Sv,G=⟨⟨fun x t=>v.s.I x t∨(x=c∧T t),v.s.F,v.s.E⟩,v.N,v.W⟩:=⟨_,rfl⟩;have J:∀t i x,BF P G t i x↔BF P v t i x∨(t=0∧i=c∧T x):=fun t i x=>by
  rw [K];by_cases h0:t=0
  ·subst h0;simp [BF]
  ·simp [BF,h0]
 have E:Bp P b l s y g o G d:=H.o.put (v':=G) m s0 o1 (fun x=>by rw [J];simp [BF]) (fun t' Z x q=>by rw [J];exact ⟨fun r=>r.elim id fun r=>absurd ⟨r.1,r.2.1⟩ q,.inl⟩) (by rw [K]) (by nofun);have V:¬o.own b f:=fun q=>by have:=H.o.ownLt q;omega
 have lf:=sf.lt;obtain ⟨gf,mf,wf⟩:=sf;obtain ⟨n,hn,b1,U⟩:=mf.len Tryz.underlying93 3;rw [wf.empty] at U;have p6:=E.s9.cell 6;have b4:=Ae E.s9;simp only [Gf,dM,dJ,dK] at p6;have F:=(E.mp 2 (by omega)).look Dw Tryz.underlying91 (Ca d) S false;have A:=Aa E;have M:=Aa U;have Q:dN (A9 f (fun n=>T n∧¬v.s.I c n) d):=⟨gf,mf,wf⟩;have N:dN (Ab (o.own b) w d):=o1.mono fun j _ q=>by rw [q];exact .inr (.inr (.inl ⟨0,c,m⟩))
 have D:=Aa J;have R:=Aa K;clear E U mf wf o1 s0 J K;by_cases Y:n=0
 ·subst Y;have p:Bp P b l s y g o (v.give c T) d:=A.o.put (v':=v.give c T) m ((A.o.st 0 c B m).O (X:=fun _=>False) (Ab.refl _ _) (fun q=>q)) (Ab.refl _ _) (fun x=>by
   rw [En,D.o];simp [BF]) (fun t' Z x q=>by
   rw [En,D.o];have:=M.o.1 rfl x;constructor
   ·rintro (r | r | ⟨_,_,r⟩)
    ·exact .inl r
    ·exact .inr r
    ·exact absurd r this
   ·rintro (r | r)
    ·exact .inl r
    ·exact .inr (.inl r)) (by rw [R.o];rfl) (by nofun)
  have HR:=Aa p;clear p F;go_wp2_with fail;exact bodyPost_ret (v:=.tuple #[]) (by simp [results,Tryz.results126,go_sem]) rfl ⟨rfl,o,HR.o,fun _ q=>.inl q,rfl,N.o⟩
 ·have b2:((n:Int)==0)=false:=by simp;omega
  have a0:dN (∃x,T x∧¬v.s.I c x):=by apply Classical.byContradiction;intro q;exact Y (M.o.2 fun x W=>q ⟨x,W⟩)
  clear M Y;cases z:o.bk 2 c with
  | none=>
    have l3:=F.1 z;have a5:(binOp BinOp.eql 93 (.map none) (.map none)).run Tryz.prog d=.ok (.bool true) d:=by rfl
    clear F;obtain ⟨I,a9,m2,u⟩:=(A.o.mp 2 (by omega)).put Dw Tryz.underlying91 (k:=c) (a:=f) S trivial;unfold GG at a9;have a6:f≠o.om 2:=fun q=>V (.inr (.inl ⟨2,by omega,q⟩))
    have p:Bp P b l s y g (o.news c f) (v.give c T) I:=A.o.news (v':=v.give c T) V Q.o.isMap (Q.o.O u a6) m2 u (fun x=>by
     rw [En];simp only [Nat.reduceEqDiff,false_and,false_or,true_and];refine ⟨fun q=>q.elim (fun q=>?_) id,.inr⟩;obtain ⟨k,a1⟩:=H.o.ins 2 c x (by omega) q;rw [z] at a1;cases a1) (fun t' Z x q=>by
     rw [En,D.o];constructor
     ·rintro (r | r | ⟨r1,r2,_⟩)
      ·exact .inl r
      ·exact .inr r
      ·exact absurd ⟨r1,r2⟩ q
     ·rintro (r | r)
      ·exact .inl r
      ·exact .inr (.inl r)) (by rw [R.o];rfl) a0.o
    have O:dN (Dp P b l s y g o (o.news c f) (v.give c T) w I):=by
     refine ⟨p,fun k m=>?_,rfl,N.o.thn u (fun j _ q=>by rw [q];exact .inr (.inl ⟨2,by omega,rfl⟩))⟩;rcases m with q | q | ⟨t,i,q⟩ | q
     ·exact .inl (.inl q)
     ·exact .inl (.inr (.inl q))
     ·unfold So.news at q;dsimp only at q;split at q
      ·split at q
       ·cases q;exact .inr hf
       ·exact .inl (.inr (.inr (.inl ⟨2,i,q⟩)))
      ·exact .inl (.inr (.inr (.inl ⟨t,i,q⟩)))
     ·exact .inl (.inr (.inr (.inr q)))
    clear p m2 u;go_wp2_with fail;exact bodyPost_ret (v:=.tuple #[]) (by simp [results,Tryz.results126,go_sem]) rfl ⟨rfl,_,O.o⟩
  | some C=>
    have l3:=F.2 C z;unfold GG at l3;clear F;have a3:A9 C (v.N c) d:=(A.o.st 2 c C z).iff fun x=>by rw [D.o];simp [BF]
    have a7:C≠f:=fun q=>V (.inr (.inr (.inl ⟨2,c,q▸z⟩)))
    have O:=Aa a3;have a5:(binOp BinOp.eql 93 (.map (some C)) (.map none)).run Tryz.prog d=.ok (.bool false) d:=by rfl
    clear a3;go_wp2_with fail;refine (Gd C f (v.N c) _ d O.o Q.o a7).mono ?_;rintro e I ⟨f2,rfl,b0,_,s2,u⟩;have p:Bp P b l s y g o (v.give c T) I:=A.o.put (v':=v.give c T) z s2 u (fun x=>by
     rw [En];simp [BF]) (fun t' Z x q=>by
     rw [En,D.o];constructor
     ·rintro (r | r | ⟨r1,r2,_⟩)
      ·exact .inl r
      ·exact .inr r
      ·exact absurd ⟨r1,r2⟩ q
     ·rintro (r | r)
      ·exact .inl r
      ·exact .inr (.inl r)) (by rw [R.o];rfl) (fun _=>by
     obtain ⟨x,W⟩:=a0.o;exact ⟨x,.inr W⟩)
    have a4:dN (Dp P b l s y g o o (v.give c T) w I):=⟨p,fun _ q=>.inl q,rfl,N.o.thn u (fun j _ q=>by rw [q];exact .inr (.inr (.inl ⟨2,c,z⟩)))⟩;clear p s2 u;go_wp2_with fail;go_end0;exact ⟨rfl,_,a4.o⟩
theorem Bp.iff{P l f g j d o v b w}(h:Bp P l f g j d o v w)(e:∀t i x,BF P b t i x↔BF P v t i x)(m:b.W=v.W):Bp P l f g j d o b w:=
 {h with
  st:=fun t i k a=>(h.st t i k a).iff fun n=>(e t i n).symm
  ins:=fun t i x p q=>h.ins t i x p ((e t i x).1 q)
  d2:=fun c k a=>by obtain ⟨x,s⟩:=h.d2 c k a;exact ⟨x,Kq.1 ((e 2 c x).2 (Kq.2 s))⟩
  fvr:=fun c r=>by rw [m];exact h.fvr c r}
theorem SD(P b g j l d o v w)(c a:Nat)(h:Bp P b g j l d o v w)(m:o.bk 0 c=some a)(C:c<20000):
 Calls Tryz.prog 126 #[.pointer (some ⟨b,0,none⟩),.int .i64 c,.map (some a)] w fun e K=>e=.returned (.tuple #[])∧∃F,Dp P b g j l d o F (v.give c (v.s.I c)) w K:=by
 have s:=(h.st 0 c a m).iff (m':=v.s.I c) fun n=>by simp [BF]
 have G:=h.s9.cell 4;have R:=Ae h.s9;simp only [Gf,dM,dJ,dK] at G;have E:=((h.mp 0 (by omega)).look Dw Tryz.underlying91 (Ca w) C false).2 a m;have H:=Aa h;have B:=Aa s;clear h s;unfold GG at E;go_enter Tryz.func126,Tryz.ntmps126;go_wp2_with fail;refine (MS a (v.s.I c) w B.o).mono ?_;rintro e L ⟨f,rfl,N,J,I,k⟩;obtain ⟨M,u,y⟩:=J;obtain ⟨n,Q,O,p⟩:=u.len Tryz.underlying93 3;have D:n=0:=p.2 (y.empty.2 fun _ q=>q);subst D;have A:dN (Bp P b g j l d o (v.give c (v.s.I c)) L):=(H.o.i9 k).iff (fun t i x=>by
  rw [En];refine ⟨?_,.inl⟩;rintro (q | ⟨rfl,rfl,q⟩ | ⟨_,_,q,r⟩)
  ·exact q
  ·simpa [BF] using q
  ·exact absurd q r) rfl
 have z:=Aa k;clear u y p I k;go_wp2_with fail;exact bodyPost_ret (v:=.tuple #[]) (by simp [results,Tryz.results126,go_sem]) rfl ⟨rfl,o,A.o,fun _ q=>.inl q,rfl,z.o.mono fun _ _ q=>q.elim⟩
theorem A8.lt{P a c}(h:A8 P a c)(j:P.length≤12)(b:∀f,(Ap P f).l8.length≤12)(o:a≤4001):c<16400:=by
 rcases h with ⟨f,i,l,m,rfl⟩ | ⟨n,k,d,e,g,rfl⟩
 ·have:=b f;unfold vN;omega
 ·unfold pN;omega
theorem Dp.trans{P e b c d a o g i p l w m n}(h:Dp P e b c d a o g p w m)(k:Dp P e b c d a g i l m n):Dp P e b c d a o i l w n:=
 ⟨k.r,fun j f=>(k.ow j f).elim (h.ow j) fun q=>.inr (rO h.on.size q),k.rl.trans h.rl,h.on.thn k.on fun j f q=>(h.ow j q).elim id fun r=>absurd r (by omega)⟩
def Nx(P:List PFn)(g:Nat)(c:Value)(d f b:Nat)(o:So)(v:Sv)(w h:World)(Q:Sv→Prop):Prop:=
 ∃e a,Dp P g c d f b o e a w h∧v.up a∧(∀X,Bs P X v→Bs P X a)∧Q a
theorem Nx.then{P g c d f b o v w i m}{Q R:Sv→Prop}(h:Nx P g c d f b o v w i Q)(k:∀e a,Dp P g c d f b o e a w i→v.up a→Q a→Nx P g c d f b e a i m R):Nx P g c d f b o v w m R:=by obtain ⟨e,a,j,l,n,s⟩:=h;obtain ⟨r,y,u,x,p,t⟩:=k e a j l s;exact ⟨r,y,j.trans u,l.tr x,fun X q=>p X (n X q),t⟩
theorem Hx(P:List PFn)(v:Sv)(a b t i x:Nat):BF P (v.edge a b) t i x↔BF P v t i x∨(t=3∧i=a∧x=b):=by
 by_cases c:t=3
 ·subst c;simp [BF,Sv.edge]
 ·simp [BF,Sv.edge,c]
theorem FT(P c m s d l o v w)(a b:Nat)(h:Bp P c m s d l o v w)(J:A8 P d a)(Z:A8 P d b)(la:a<16400)(lb:b<16400)(hF:(least P).F a b):
 Calls Tryz.prog 130 #[.pointer (some ⟨c,0,none⟩),.int .i64 a,.int .i64 b] w fun e F=>e=.returned (.tuple #[])∧Nx P c m s d l o v w F (fun u=>u.s.F a b):=by
 obtain ⟨D,A⟩:=(h.d0 a 3 (.inr rfl)).2 J;obtain ⟨p,z⟩:=(h.d0 a 0 (.inl rfl)).2 J;obtain ⟨Q,L⟩:=(h.d0 b 0 (.inl rfl)).2 Z;have p7:=h.s9.cell 7;have a0:=Ae h.s9;simp only [Gf,dM,dJ,dK] at p7;have l3:=((h.mp 3 (by omega)).look Dw Tryz.underlying91 (Ca w) (k:=a) (by omega) false).2 D A;have O:=(h.st 3 a D A).iff (m':=v.s.F a) fun n=>by simp [BF]
 unfold GG at l3;have H:=Aa h;have G:=Aa O;have U:=Aa hF;clear h O hF;go_enter Tryz.func130,Tryz.ntmps130;go_wp2_with fail;refine (Fg D (v.s.F a) b w G.o (by omega)).mono ?_;rintro e f ⟨r,rfl,M,R,E⟩;have N:Bp P c m s d l o (v.edge a b) f:=H.o.put (v':=v.edge a b) A R E (fun x=>by rw [Hx];simp [BF]) (fun t' i' x q=>by rw [Hx];exact ⟨fun r=>r.elim id fun r=>absurd ⟨r.1,r.2.1⟩ q,.inl⟩) rfl (by nofun)
 have B:dN (Ab (o.own c) w f):=E.mono fun j _ q=>by rw [q];exact .inr (.inr (.inl ⟨3,a,A⟩))
 have g:=Aa N;have V:=Aa M;clear M N R E G;cases r with
 | false=>
   have K:v.s.F a b:=by apply Classical.byContradiction;intro q;have:=V.o.2 q;cases this
   have C:dN (Nx P c m s d l o v w f (fun u=>u.s.F a b)):=⟨o,v,⟨g.o.iff (fun t i x=>by
    rw [Hx];refine ⟨.inl,?_⟩;rintro (q | ⟨rfl,rfl,rfl⟩)
    ·exact q
    ·simpa [BF] using K) rfl,fun _ q=>.inl q,rfl,B.o⟩,.rf _,fun _ q=>q,K⟩
   go_wp2_with fail;go_end0;exact ⟨rfl,C.o⟩
 | true=>
   have p4:=g.o.s9.cell 4;have a1:=Ae g.o.s9;simp only [Gf,dM,dJ,dK] at p4;have l4:=((g.o.mp 0 (by omega)).look Dw Tryz.underlying91 (Ca f) (k:=a) (by omega) false).2 p z;unfold GG at l4;have S:A9 p (v.s.I a) f:=(g.o.st 0 a p z).iff fun x=>by rw [Hx];simp [BF]
   have W:=Aa S;clear S;have I:Calls Tryz.prog 126 #[.pointer (some ⟨c,0,none⟩),.int .i64 b,.map (some p)] f fun e F=>e=.returned (.tuple #[])∧∃o',Dp P c m s d l o o' (v.flow a b) f F:=by
    by_cases e:p=Q
    ·have Y:a=b:=(g.o.dj 0 a 0 b p z (e▸L)).2;subst Y;exact SD P c m s d l o (v.edge a a) f a p g.o z (by omega)
    ·exact E7 P c m s d l o (v.edge a b) f b Q p (v.s.I a) g.o L W.o (by omega) e
   have T:=Aa I;clear I;go_wp2_with fail;refine T.o.mono ?_;rintro e w2 ⟨rfl,o2,y⟩;have C:dN (Nx P c m s d l o v w w2 (fun u=>u.s.F a b)):=⟨o2,v.flow a b,⟨y.r,fun k hk=>(y.ow k hk).imp id fun q=>rO B.o.size q,y.rl,B.o.trans y.on⟩,Sv.flow_up v a b,fun X q=>q.flow U.o,Sv.flow_F v a b⟩;clear y;go_wp2_with fail;go_end0;exact ⟨rfl,C.o⟩
structure AnOk(P:List PFn)(pn cn:Nat):Prop where
 ok:Ms P
 bA:P.length≤12
 lp:pn≤4001
 lc:cn≤4001
 bG:∀i,i<P.length→∀s,s∈(Ap P i).b9→(s.kind=1→1≤s.m9∧s.m9≤pn)∧(s.kind=8→1≤s.m9∧s.m9≤cn)∧s.field≤3
structure Dn(P:List PFn)(sb:Nat)(fv:Value)(mn pn cn:Nat)(o:So)(v:Sv)(w:World):Prop where
 r:Bp P sb fv mn pn cn o v w
 pl:Bh 0 w fv P
 tb:JL w
 tl:0<w.heap.size
 tn:¬o.own sb 0
theorem Bp.noPlan{P a c e f b o v w}(h:Bp P a c e f b o v w):Mq (o.own a) w:=fun k g t i d q=>by refine ⟨?_,?_,?_,?_⟩<;>rintro rfl<;>exact h.noCells d (by decide) (by decide) q
theorem Dn.next{P e b c d a o f v g w i}(h:Dn P e b c d a o v w)(k:Dp P e b c d a o f g w i):Dn P e b c d a f g i:=
 ⟨k.r,h.pl.O k.on h.r.noPlan,h.tb.O k.on h.tn h.tl,rP h.tl k.on.size,fun q=>(k.ow _ q).elim h.tn fun q=>by have:=h.tl;omega⟩
theorem Dn.i9{P e b c d a o v w f}(h:Dn P e b c d a o v w)(k:Ab (fun _=>False) w f):Dn P e b c d a o v f:=
 ⟨h.r.i9 k,h.pl.i9 k,h.tb.O k (fun q=>q) h.tl,rP h.tl k.size,h.tn⟩
theorem Dp.i9{P f b c e a o d g w i j}(h:Dp P f b c e a o d g w i)(k:Ab (fun _=>False) i j):Dp P f b c e a o d g w j:=
 ⟨h.r.i9 k,h.ow,h.rl,h.on.bI k⟩
theorem Bp.ints{P b e i m d o v w c B a l}(h:Bp P b e i m d o v w)(k:AD B w a l)(g:Ab (o.own b) w c):AD B c a l:=
 Av k g fun j n p f=>h.noCells f (by decide) (by decide)
abbrev Hi(r:Rl)(a:Value):Array Value:=#[.int .i64 r.f,.int .i64 r.s.kind,.int .i64 r.s.aQ,.int .i64 r.s.r9,.int .i64 r.s.field,.int .i64 r.s.m9,a,.int .i64 r.s.next,.int .i64 r.s.taken]
structure WB(P:List PFn)(r:Rl):Prop where
 f:r.f<P.length
 tg:r.s.aQ<(Ap P r.f).l8.length
 ar:∀a,a∈r.s.args→a<(Ap P r.f).l8.length
 n:r.s.args.length≤4000
theorem AX{P c f i}(a:f<P.length)(b:i<(Ap P f).l8.length):A8 P c (vN f i):=.inl ⟨f,i,a,b,rfl⟩
theorem D2{P:List PFn}{b a f i}(A:AnOk P b a)(c:f<P.length)(d:i<(Ap P f).l8.length):vN f i<16400:=by have:=A.bA;have:=A.ok.l8 f;unfold vN;omega
theorem Eu(f i:Nat)(w:World)(b:f≤4001)(c:i≤4001):
 Calls Tryz.prog 125 #[.int .i64 f,.int .i64 i] w fun e a=>e=.returned (.int .i64 (vN f i))∧a=w:=by
 have e:((vN f i:Nat):Int)=(f:Int)*12+(i:Int):=by unfold vN;omega
 go_enter Tryz.func125,Tryz.ntmps125;go_wp2;go_ret;exact ⟨by rw [e];rfl,rfl⟩
theorem Cb(r:Rl)(c:Value)(w:World)(d:r.f≤4001)(f:r.s.aQ≤4001):
 Calls Tryz.prog 127 #[.agg (Hi r c)] w fun e b=>e=.returned (.int .i64 r.tg)∧Ab (fun _=>False) w b:=by
 go_enter Tryz.func127,Tryz.ntmps127;go_wp2_with (first | (go_at_call 125;refine (Eu r.f r.s.aQ _ d f).mono ?_;rintro e b ⟨rfl,a⟩;have a:=a.symm;subst a));go_ret;exact ⟨rfl,(by repeat (first | exact Ab.refl _ _ | refine Ab.drew ?_ | refine Ab.drewN ?_ _ | refine Ab.alloc ?_ _))⟩
theorem CV(r:Rl)(c:Value)(w:World)(d:r.f≤4001)(f:r.s.r9≤4001):
 Calls Tryz.prog 128 #[.agg (Hi r c)] w fun e b=>e=.returned (.int .i64 r.sr)∧Ab (fun _=>False) w b:=by
 go_enter Tryz.func128,Tryz.ntmps128;go_wp2_with (first | (go_at_call 125;refine (Eu r.f r.s.r9 _ d f).mono ?_;rintro e b ⟨rfl,a⟩;have a:=a.symm;subst a));go_ret;exact ⟨rfl,(by repeat (first | exact Ab.refl _ _ | refine Ab.drew ?_ | refine Ab.drewN ?_ _ | refine Ab.alloc ?_ _))⟩
theorem Np(P f z C b u o v w)(A:AnOk P b u)(h:Dn P f z C b u o v w)(r:Rl)(g:Nat)(av:Value)(Y:AD 0 w av r.s.args)(hr:WB P r)(K:g<P.length)(hn:r.s.args.length≤(Ap P g).l8.length)(hL:DY P r g (least P)):
 Calls Tryz.prog 131 #[.pointer (some ⟨f,0,none⟩),.agg (Hi r av),.int .i64 g] w fun e w'=>e=.returned (.tuple #[])∧Nx P f z C b u o v w w' (fun v'=>DY P r g v'.s):=by
 obtain ⟨R,al,S,rfl⟩:=Ad Y;have d6:=Aq Y;subst d6;have c:Ab (fun _=>False) w (w.alloc (.cells (Hi r (.slice R r.s.args.length S)) 208)):=(Ab.refl _ w).alloc _;have a9:=Ak.new w (Hi r (.slice R r.s.args.length S)) 208;have hE:=h.i9 c;have hI:=Ac Y c (fun _ _ q=>q);have c1:¬o.own f w.heap.size:=fun q=>by have:=h.r.ownLt q;omega
 have e6:(w.alloc (.cells (Hi r (.slice R r.s.args.length S)) 208)).heap.size=w.heap.size+1:=by simp
 have e3:=A.bA;have V:=hr.f;have e9:=hr.n;have F:=Aa A;have HL:=Aa hL;have HR:=Aa hr;clear h Y A hL hr;go_enter Tryz.func131,Tryz.ntmps131;go_wp2_with fail;generalize w.alloc (.cells (Hi r (.slice R r.s.args.length S)) 208)=W at*;have S0:dN (Dp P f z C b u o o v W W):=⟨hE.r,fun _ q=>.inl q,rfl,Ab.refl _ _⟩;have HE:=Aa hE;have HI:=Aa hI;have HB:=Aa a9;have O1:=Aa c;clear hE hI a9 c;generalize w.heap.size=rb at*;go_loopw [14] (fun i wr=>∃(k:Nat) (c:So) (m:Sv),k≤r.s.args.length∧i=.int .i64 k∧dN (Dp P f z C b u o c m W wr)∧dN (v.up m∧(∀X,Bs P X v→Bs P X m)∧∀j a,j<k→r.s.args[j]? =some a→m.s.F (vN r.f a) (vN g j))) (fun i _=>r.s.args.length-(intOf i).toNat)
 case atStart=>exact ⟨0,o,v,by omega,rfl,S0,⟨.rf _,fun _ q=>q,fun j a q=>by omega⟩⟩
 case round=>
  clear S0;obtain ⟨k,c,m,hk,rfl,D,G⟩:=hrel;have B:=HE.o.next D.o;have d9:¬c.own f rb:=fun q=>(D.o.ow _ q).elim c1 fun q=>by omega
  have O:=HB.o.O D.o.on c1;have b0:=O.cell 0;simp only [dM,dJ] at b0;have f0:=Ae O;by_cases H:k<r.s.args.length
  ·have T:=HE.o.r.ints HI.o D.o.on;obtain ⟨gl,rfl⟩:=AA T (by omega);have Q:=T.cellAt k (by omega);rw [List.getElem?_map,rU H] at Q;simp only [Option.map_some] at Q;have e0:=(T.lt gl rfl).2;have a8:=HR.o.ar r.s.args[k] (rQ _);have h1:A8 P b (vN r.f r.s.args[k]):=AX V a8;have h2:A8 P b (vN g k):=AX K (by omega);have h3:=D2 F.o V a8;have h4:vN g k<16400:=D2 F.o K (by omega);have N:=HL.o.1 k _ (rU H);have d5:=F.o.ok.l8 r.f;have a2:(k:Int)<(r.s.args.length:Int):=by omega
   have HG:=Aa (rU H);have c7:=Aa h1;have c8:=Aa h2;have a0:=Aa N;have M:=Aa B;clear T h1 h2 N B O;generalize r.s.args[k]=x at*;go_wp2_with (first | (go_at_call 125;first | (refine (Eu r.f x _ (by omega) (by omega)).mono ?_;rintro e w' ⟨rfl,I⟩;have I:=I.symm;subst I) | (refine (Eu g k _ (by omega) (by omega)).mono ?_;rintro e w' ⟨rfl,I⟩;have I:=I.symm;subst I)));refine (FT P f z C b u c m wr _ _ M.o.r c7.o c8.o h3 h4 a0.o).mono ?_;rintro e w2 ⟨rfl,d,n,s2,u2,i2,q2⟩;have E:=Aa (D.o.trans s2);have t:dN (v.up n∧(∀X,Bs P X v→Bs P X n)∧∀j a,j<k+1→r.s.args[j]? =some a→n.s.F (vN r.f a) (vN g j)):=⟨G.o.1.tr u2,fun X q=>i2 X (G.o.2.1 X q),fun j a L y=>by
    by_cases e:j=k
    ·subst e;rw [HG.o] at y;cases y;exact q2
    ·exact u2.le.s.f _ _ (G.o.2.2 j a (by omega) y)⟩
   clear s2 u2 i2 q2 G D;go_wp2_with fail;go_roundw
   case rel=>exact ⟨k+1,d,n,by omega,by go_num,E,t⟩
   case measure=>simp [intOf];omega
  ·have e:k=r.s.args.length:=by omega
   subst e;have a2:decide ((r.s.args.length:Int)<(r.s.args.length:Int))=false:=by simp
   have p9:=B.r.s9.cell 9;have f2:=Ae B.r.s9;simp only [Gf,dM,dJ,dK] at p9;obtain ⟨kr,b9⟩:=(B.r.d4 g).2 K;have l9:=((B.r.mp 4 (by omega)).look Dw Tryz.underlying91 (Ca wr) (k:=g) (by omega) false).2 kr b9;unfold GG at l9;have c2:A9 kr (Ey P g) wr:=(B.r.st 4 g kr b9).iff fun x=>by simp [BF]
   have a5:=Aa c2;have M:=Aa B;have c5:=Aa O;clear c2 B O;go_wp2_with fail;refine (Df kr (Ey P g) wr a5.o M.o.tb M.o.tl).mono ?_;rintro e w2 ⟨nv,l,rfl,Z,c0,a3,d⟩;obtain ⟨na,nl,nc,rfl⟩:=Ad Z;have d8:=Aq Z;subst d8;have a1:=Aa (M.o.i9 d);have c6:=Aa (c5.o.O d (fun q=>q));have d1:=Aa (Ao Z (rR _));have e5:l.length≤19200:=C8 19200 l c0 fun x J=>by obtain ⟨_,_,e2⟩:=a5.o;exact e2.lt ((a3 x).1 J)
   have HM:=Aa a3;have d2:=Aa d;have e8:=D.o.on.size;have e7:=d.size;have SW:dN (Dp P f z C b u c c m w2 w2):=⟨a1.o.r,fun _ q=>.inl q,rfl,Ab.refl _ _⟩;have c3:=HR.o.tg;have d5:=F.o.ok.l8 r.f;have c9:dN (A8 P b r.tg):=AX V c3;have e1:r.tg<16400:=D2 F.o V c3;clear Z c0 a3 d;go_wp2_with fail;go_loopw [37] (fun i wr=>∃(k:Nat) (d:So) (n:Sv),k≤l.length∧i=.int .i64 k∧dN (Dp P f z C b u c d n w2 wr)∧dN (m.up n∧(∀X,Bs P X m→Bs P X n)∧∀j x,j<k→l[j]? =some x→n.s.F x r.tg)) (fun i _=>l.length-(intOf i).toNat)
   case atStart=>exact ⟨0,c,m,by omega,rfl,SW,⟨.rf _,fun _ q=>q,fun j a q=>by omega⟩⟩
   case round=>
    clear SW;obtain ⟨k,d,n,hk,rfl,E,t⟩:=hrel;have a7:=a1.o.next E.o;have p:=c6.o.O E.o.on d9;by_cases H:k<l.length
    ·have U:=a1.o.r.ints d1.o E.o.on;obtain ⟨gl,rfl⟩:=AA U (by omega);have Q:=U.cellAt k (by omega);rw [List.getElem?_map,rU H] at Q;simp only [Option.map_some] at Q;have e0:=(U.lt gl rfl).2;have d7:k+1≤l.length:=H;have J:=(HM.o l[k]).1 (rQ _);have N:=HL.o.2 _ J;have c4:A8 P b l[k]∧l[k]<16400:=by obtain ⟨s,hs,e4,e⟩:=J;have:=(F.o.ok.ok g K s hs).sr (by omega);rw [e];exact ⟨AX K this,D2 F.o K this⟩
     have a2:(k:Int)<(l.length:Int):=by omega
     have HG:=Aa (rU H);have a6:=Aa c4;have a0:=Aa N;have d0:=Aa a7;have b0:=p.cell 0;have b1:=p.cell 1;have b2:=p.cell 2;have b3:=p.cell 3;have b4:=p.cell 4;have b5:=p.cell 5;have b6:=p.cell 6;have b7:=p.cell 7;have b8:=p.cell 8;have f1:=Ae p;simp only [dM,dJ,dK] at b0 b1 b2 b3 b4 b5 b6 b7 b8;clear U N a7 J c4 p;generalize l[k]=x at*;go_wp2_with fail;refine (Cb r _ wr (by omega) (by omega)).mono ?_;rintro e w3 ⟨rfl,o3⟩;have a4:=Aa o3;clear o3;go_wp2_with fail;refine (FT P f z C b u d n w3 x r.tg (d0.o.i9 a4.o).r a6.o.1 c9.o a6.o.2 e1 a0.o).mono ?_;rintro e w4 ⟨rfl,o4,v4,s4,u4,i4,q4⟩;have d4:=Aa ((E.o.i9 a4.o).trans s4);have d3:dN (m.up v4∧(∀X,Bs P X m→Bs P X v4)∧∀j x,j<k+1→l[j]? =some x→v4.s.F x r.tg):=⟨t.o.1.tr u4,fun X q=>i4 X (t.o.2.1 X q),fun j a L y=>by
      by_cases e:j=k
      ·subst e;rw [HG.o] at y;cases y;exact q4
      ·exact u4.le.s.f _ _ (t.o.2.2 j a (by omega) y)⟩
     clear s4 u4 i4 q4 t E;go_wp2_with fail;go_roundw
     case rel=>exact ⟨k+1,o4,v4,d7,by go_num,d4,d3⟩
     case measure=>simp [intOf];omega
    ·have e:k=l.length:=by omega
     subst e;have a2:decide ((l.length:Int)<(l.length:Int))=false:=by simp
     have HX:dN (Nx P f z C b u o v w wr (fun v'=>DY P r g v'.s)):=by have t1:=(D.o.i9 d2.o).trans E.o;refine ⟨d,n,⟨t1.r,fun j L=>(t1.ow j L).imp id fun q=>rO O1.o.size q,t1.rl,(O1.o.mono (fun _ _ q=>q.elim)).trans t1.on⟩,G.o.1.tr t.o.1,fun X q=>t.o.2.1 X (G.o.2.1 X q),fun j a y=>t.o.1.le.s.f _ _ (G.o.2.2 j a (List.getElem?_eq_some_iff.1 y).1 y),fun x J=>?_⟩;obtain ⟨j,L,e⟩:=List.mem_iff_getElem.1 ((HM.o x).2 J);exact t.o.2.2 j x L (by rw [rU L,e])
     go_wp2_with fail;go_end0;exact ⟨rfl,HX.o⟩
theorem Iw(n k:Nat)(w:World)(c:1≤n)(d:n≤4001)(b:k≤4):
 Calls Tryz.prog 65 #[.int .i64 n,.int .i64 k] w fun e a=>e=.returned (.int .i64 (pN n k))∧a=w:=by
 have e:((pN n k:Nat):Int)=156+((n:Int)-1)*4+(k:Int):=by unfold pN;omega
 go_enter Tryz.func65,Tryz.ntmps65;go_wp2;go_ret;exact ⟨by rw [e];rfl,rfl⟩
theorem U6(f:Nat)(w:World)(b:f≤4001):
 Calls Tryz.prog 129 #[.int .i64 f] w fun e a=>e=.returned (.int .i64 (fN f))∧a=w:=by
 have e:((fN f:Nat):Int)=144+(f:Int):=by unfold fN;omega
 go_enter Tryz.func129,Tryz.ntmps129;go_wp2;go_ret;exact ⟨by rw [e];rfl,rfl⟩
def CD(x:Nat):Nat×Nat×Nat:=if x<144 then (0,x / 12,x % 12) else if x<156 then (2,x-144,0) else (1,(x-156) / 4+1,(x-156) % 4)
theorem ID(x:Nat)(w:World)(i:x<19200):
 Calls Tryz.prog 106 #[.int .i64 x] w fun e h=>e=.returned (.agg #[.int .i64 (CD x).1,.int .i64 (CD x).2.1,.int .i64 (CD x).2.2])∧Ab (fun _=>False) w h:=by
 by_cases c:x<144
 ·have e:CD x=(0,x / 12,x % 12):=by unfold CD;rw [if_pos c]
  rw [e];have d:decide ((x:Int)<144)=true:=by simp;omega
  have a:(((x / 12:Nat):Nat):Int)=(x:Int) / 12:=by omega
  have b:(((x % 12:Nat):Nat):Int)=(x:Int) % 12:=by omega
  go_enter Tryz.func106,Tryz.ntmps106;go_wp2;refine bodyPost_ret (v:=.agg #[.int .i64 0,.int .i64 ((x:Int) / 12),.int .i64 ((x:Int) % 12)]) (by simp [results,Tryz.results106,go_sem]) rfl ?_;exact ⟨by rw [a,b];rfl,(by repeat (first | exact Ab.refl _ _ | refine Ab.drew ?_ | refine Ab.drewN ?_ _ | refine Ab.alloc ?_ _))⟩
 by_cases f:x<156
 ·have e:CD x=(2,x-144,0):=by unfold CD;rw [if_neg c,if_pos f]
  rw [e];have d:decide ((x:Int)<144)=false:=by simp;omega
  have g:decide ((x:Int)<156)=true:=by simp;omega
  have a:(((x-144:Nat):Nat):Int)=(x:Int)-144:=by omega
  go_enter Tryz.func106,Tryz.ntmps106;go_wp2;refine bodyPost_ret (v:=.agg #[.int .i64 2,.int .i64 ((x:Int)-144),.int .i64 0]) (by simp [results,Tryz.results106,go_sem]) rfl ?_;exact ⟨by rw [a];rfl,(by repeat (first | exact Ab.refl _ _ | refine Ab.drew ?_ | refine Ab.drewN ?_ _ | refine Ab.alloc ?_ _))⟩
 ·have e:CD x=(1,(x-156) / 4+1,(x-156) % 4):=by unfold CD;rw [if_neg c,if_neg f]
  rw [e];have d:decide ((x:Int)<144)=false:=by simp;omega
  have g:decide ((x:Int)<156)=false:=by simp;omega
  have a:((((x-156) / 4+1:Nat):Nat):Int)=((x:Int)-156) / 4+1:=by omega
  have b:((((x-156) % 4:Nat):Nat):Int)=((x:Int)-156) % 4:=by omega
  go_enter Tryz.func106,Tryz.ntmps106;go_wp2;refine bodyPost_ret (v:=.agg #[.int .i64 1,.int .i64 (((x:Int)-156) / 4+1),.int .i64 (((x:Int)-156) % 4)]) (by simp [results,Tryz.results106,go_sem]) rfl ?_;exact ⟨by rw [a,b];rfl,(by repeat (first | exact Ab.refl _ _ | refine Ab.drew ?_ | refine Ab.drewN ?_ _ | refine Ab.alloc ?_ _))⟩
theorem Rc(P:List PFn)(v:Sv)(n g t i x:Nat):BF P (v.bN n g) t i x↔BF P v t i x∨(t=1∧i=n∧x=g):=by
 by_cases a:t=1
 ·subst a;simp [BF,Sv.bN]
 ·simp [BF,Sv.bN,a]
theorem Qr(P d fv s l c o v w)(A:AnOk P l c)(h:Dn P d fv s l c o v w)(r:Rl)(g:Nat)(av:Value)(J:AD 0 w av r.s.args)(L:WB P r)(V:g<P.length)(h1:1≤r.s.m9)(h2:r.s.m9≤c)
 (hL:(Ap P g).i8=r.s.args.length→(least P).E r.s.m9 g∧DY P r g (least P)):
 Calls Tryz.prog 159 #[.pointer (some ⟨d,0,none⟩),.agg (Hi r av),.int .i64 g] w fun e w'=>e=.returned (.tuple #[])∧Nx P d fv s l c o v w w' (fun f=>(Ap P g).i8=r.s.args.length→f.s.E r.s.m9 g∧DY P r g f.s):=by
 obtain ⟨R,al,S,rfl⟩:=Ad J;have c4:=Aq J;subst c4;have z:Ab (fun _=>False) w (w.alloc (.cells (Hi r (.slice R r.s.args.length S)) 208)):=(Ab.refl _ w).alloc _;have I:=Ak.new w (Hi r (.slice R r.s.args.length S)) 208;have t:=h.i9 z;have hI:=Ac J z (fun _ _ q=>q);have c5:¬o.own d w.heap.size:=fun q=>by have:=h.r.ownLt q;omega
 have c9:=A.bA;have hf:=L.f;have d3:=L.n;have d5:=A.lc;have d1:=A.ok.bX g;have d2:=A.ok.l8 g;obtain ⟨gf,cf,rfl,c8⟩:=h.pl.form (by omega);obtain ⟨vv,sv,a7,_,_⟩:=(t.pl).get V;have T:=a7 2 (by omega);have Y:Ap P g=P[g]:=by unfold Ap;rw [rU V];rfl
 simp only [MR,dJ,dK] at T;rw [←Y] at T;have p0:=t.r.s9.cell 0;have C:=t.r.s9.cell 5;have a0:=Ae t.r.s9;simp only [Gf,dM,dJ,dK] at p0 C;have HA:=Aa A;have HL:=Aa hL;have HR:=Aa L;have HP:=Aa Y;clear h J A hL L a7 Y;go_enter Tryz.func159,Tryz.ntmps159;go_wp2_with fail;generalize w.alloc (.cells (Hi r (.slice R r.s.args.length S)) 208)=W at*;have G:=I.cell 6;have Z:=Ae I;simp only [dM,dJ,dK] at G;have d0:(g:Int)<(P.length:Int):=by omega
 have c7:=rP c8 z.size;have N:=Aa t;have HI:=Aa hI;have HB:=Aa I;have O:=Aa z;clear t hI I z;by_cases K:(Ap P g).i8=r.s.args.length
 ·have hz:(((Ap P g).i8:Int) !=(r.s.args.length:Int))=false:=by simp [K]
  go_region;go_wp2_with fail;have B:Ab (fun _=>False) W W.drew:=(Ab.refl _ W).drew;have p:=N.o.i9 B;have H:=HB.o.O B (fun q=>q);have a5:=Ac HI.o B (fun _ _ q=>q);have O2:=Aa (O.o.trans B);clear p0 C T G a0 Z c7 B N HB HI O;generalize W.drew=m at*;have C:=p.r.s9.cell 5;have a0:=Ae p.r.s9;have b5:=H.cell 5;have Z:=Ae H;simp only [Gf,dM,dJ,dK] at C b5;obtain ⟨i,y⟩:=(p.r.d1 r.s.m9).2 ⟨h1,h2⟩;have l5:∀b,Ab (fun _=>False) m b→(Instr.lookup 91 (.map (some (o.om 1))) (.int .i64 r.s.m9) false).run Tryz.prog b=.ok (.map (some i)) b:=fun b U=>(((p.r.mp 1 (by omega)).O U (fun q=>q)).look Dw Tryz.underlying91 (Ca b) (k:=r.s.m9) (by omega) false).2 i y
  have l6:=l5 _ ((Ab.refl _ m).drew);have D:=Aa p;have a1:=Aa H;have a2:=Aa a5;have a9:∀b,Ab (fun _=>False) m b→A9 i (v.s.E r.s.m9) b:=fun b U=>((p.r.st 1 r.s.m9 i y).O U (fun q=>q)).iff fun x=>by simp [BF]
  have a3:=Aa a9;clear p H a5 a9 l5;go_cut [] (fun wx=>dN (A9 i (fun n=>v.s.E r.s.m9 n∨n=g) wx)∧dN (Ab (fun k=>k=i) m wx))
  case first=>
   go_region_law (go_simp;go_at_call 101;refine (Fg i _ g _ (a3.o _ ((Ab.refl _ m).drew)) (by omega)).mono ?_;rintro e w5 ⟨rr,rfl,_,s5,o5⟩;dsimp only);all_goals
    go_wp2_with fail;go_meet
    case rel=>exact ⟨s5,(Ab.drew (Ab.refl _ m)).trans o5⟩
  case rest=>
  obtain ⟨S5,E⟩:=hcut;have a8:Bp P d _ s l c o (v.bN r.s.m9 g) wc:=D.o.r.put (v':=v.bN r.s.m9 g) y S5.o E.o (fun x=>by rw [Rc];simp [BF]) (fun t' i' x q=>by rw [Rc];exact ⟨fun r=>r.elim id fun r=>absurd ⟨r.1,r.2.1⟩ q,.inl⟩) rfl (by nofun)
  have F:Dp P d _ s l c o o (v.bN r.s.m9 g) m wc:=⟨a8,fun _ q=>.inl q,rfl,E.o.mono fun j _ q=>by rw [q];exact .inr (.inr (.inl ⟨1,_,y⟩))⟩;have a4:=D.o.next F;have c6:¬(w.heap.size=i):=fun q=>c5 (q▸.inr (.inr (.inl ⟨1,_,y⟩)))
  have a:=a1.o.O E.o c6;have a6:=D.o.r.ints a2.o F.on;have b0:=a.cell 0;have b1:=a.cell 1;have b2:=a.cell 2;have b3:=a.cell 3;have b4:=a.cell 4;have c3:=a.cell 5;have G:=a.cell 6;have b7:=a.cell 7;have b8:=a.cell 8;have d4:=Ae a;simp only [dM,dJ,dK] at b0 b1 b2 b3 b4 c3 G b7 b8;have b9:=Aa a4;have c0:=Aa a6;have c1:=Aa F;clear a8 F a4 a a6 S5 E D a1 a2 a3 C b5 l6 a0 Z;go_wp2_with fail;refine (Np P d _ s l c o _ wc HA.o b9.o r g _ c0.o HR.o V (by omega) (HL.o K).2).mono ?_;rintro e w6 ⟨rfl,o6,v6,s6,u6,i6,q6⟩;have u:dN (Nx P d (.slice (some ⟨gf,0,none⟩) P.length cf) s l c o v w w6 (fun f=>(Ap P g).i8=r.s.args.length→f.s.E r.s.m9 g∧DY P r g f.s)):=by have M:=c1.o.trans s6;exact ⟨o6,v6,⟨M.r,fun j hj=>(M.ow j hj).imp id fun q=>rO O2.o.size q,M.rl,(O2.o.mono (fun _ _ q=>q.elim)).trans M.on⟩,(Sv.ent_up v _ _).tr u6,fun X q=>i6 X (q.bN (HL.o K).1),fun _=>⟨u6.le.s.e _ _ (.inr ⟨rfl,rfl⟩),q6⟩⟩
  clear s6 u6 i6 q6;go_wp2_with fail;go_end0;exact ⟨rfl,u.o⟩
 ·have hz:(((Ap P g).i8:Int) !=(r.s.args.length:Int))=true:=by simp;omega
  have u:∀Q,Ab (fun _=>False) W Q→Nx P d (.slice (some ⟨gf,0,none⟩) P.length cf) s l c o v w Q (fun f=>(Ap P g).i8=r.s.args.length→f.s.E r.s.m9 g∧DY P r g f.s):=fun Q hW=>⟨o,v,⟨(N.o.i9 hW).r,fun _ q=>.inl q,rfl,(O.o.trans hW).mono fun _ _ q=>q.elim⟩,.rf _,fun _ q=>q,fun q=>absurd q K⟩
  have u:=Aa u;go_region;go_wp2_with fail;exact bodyPost_ret (v:=.tuple #[]) (by simp [results,Tryz.results159,go_sem]) rfl ⟨rfl,u.o _ (by repeat (first | exact Ab.refl _ _ | refine Ab.drew ?_ | refine Ab.drewN ?_ _ | refine Ab.alloc ?_ _))⟩
def EM(P:List PFn)(a t:Nat):Prop:=A8 P a t∨∃g,g<P.length∧t=fN g
theorem AnOk.rl{P g b r}(A:AnOk P g b)(a:Ly P r)(c:r.s.kind≠0)(d:r.s.kind≠10)(e:r.s.kind≠11)(f:r.s.kind≠12):WB P r:=
 have h:=A.ok.ok r.f a.1 r.s a.2
 ⟨a.1,h.tg c d e f,h.args,h.bA⟩
theorem A8.isC{P b c}(h:A8 P b c)(j:P.length≤12)(a:∀f,(Ap P f).l8.length≤12):Ug c:=by
 rcases h with ⟨f,i,l,m,rfl⟩ | ⟨n,k,d,e,g,rfl⟩
 ·have:=a f;exact .inl (by unfold vN;omega)
 ·exact .inr (by unfold pN;omega)
theorem EM.cell{P a t}(h:EM P a t)(c:P.length≤12)(b:Ug t):A8 P a t:=by
 rcases h with h | ⟨g,d,rfl⟩
 ·exact h
 ·unfold Ug fN at b;omega
theorem EM.code{P c t}(h:EM P c t)(a:P.length≤12)(b:∀f,(Ap P f).l8.length≤12)(e:YF t):t-144<P.length:=by
 rcases h with h | ⟨g,d,rfl⟩
 ·have:=h.isC a b;unfold Ug YF at*;omega
 ·unfold fN;omega
theorem EM.field{P b t}(h:EM P b t)(d:P.length≤12)(c:∀f,(Ap P f).l8.length≤12)(a:156≤t):∃n k,1≤n∧n≤b∧k<4∧t=pN n k:=by
 rcases h with (⟨f,i,e,l,rfl⟩ | h) | ⟨g,j,rfl⟩
 ·have:=c f;unfold vN at a;omega
 ·exact h
 ·unfold fN at a;omega
theorem EM.lt{P a b t}(A:AnOk P a b)(h:EM P a t):t<16400:=by
 rcases h with h | ⟨g,c,rfl⟩
 ·exact h.lt A.bA A.ok.l8 A.lp
 ·have:=A.bA;unfold fN;omega
theorem MQ{P e p}(A:AnOk P e p):XW P ⟨fun c t=>A8 P e c∧EM P e t,fun a b=>A8 P e a∧A8 P e b,fun n g=>(1≤n∧n≤p)∧g<P.length⟩:=by
 have v:∀r g,WB P r→g<P.length→(Ap P g).i8=r.s.args.length→DY P r g ⟨fun c t=>A8 P e c∧EM P e t,fun a b=>A8 P e a∧A8 P e b,fun n g=>(1≤n∧n≤p)∧g<P.length⟩:=fun r g d j F=>by
  refine ⟨fun i a z=>⟨AX d.f (d.ar a (List.mem_of_getElem? z)),AX j ?_⟩,fun x C=>?_⟩
  ·have w:=(List.getElem?_eq_some_iff.1 z).1;have y:=A.ok.bX g;omega
  ·obtain ⟨s,B,D,rfl⟩:=C;exact ⟨AX j ((A.ok.ok g j s B).sr (by omega)),AX d.f d.tg⟩
 refine ⟨fun a b t h k=>⟨h.2,k.2⟩,fun r d=>?_,fun r t d o h=>?_⟩
 ·have f:=A.ok.ok r.f d.1 r.s d.2;have l:=A.bG r.f d.1 r.s d.2;refine ⟨fun q=>?_,fun q=>?_,fun q=>?_,fun q=>?_,fun q=>?_⟩
  ·have R:=A.rl d (by omega) (by omega) (by omega) (by omega);exact ⟨AX R.f R.tg,.inl (.inr ⟨_,0,(l.1 q).1,(l.1 q).2,by omega,rfl⟩)⟩
  ·have R:=A.rl d (by omega) (by omega) (by omega) (by omega);exact ⟨AX R.f R.tg,.inl (AX R.f (f.sr (by omega)))⟩
  ·have R:=A.rl d (by omega) (by omega) (by omega) (by omega);exact ⟨AX R.f R.tg,.inr ⟨_,f.func (by omega),rfl⟩⟩
  ·have R:=A.rl d (by omega) (by omega) (by omega) (by omega);exact ⟨AX R.f (f.sr (by omega)),AX R.f R.tg⟩
  ·have R:=A.rl d (by omega) (by omega) (by omega) (by omega);exact v r _ R (f.func (by omega)) (f.many q)
 ·have f:=A.ok.ok r.f d.1 r.s d.2;have l:=A.bG r.f d.1 r.s d.2;have R:=A.rl d (by unfold A2 at o;omega) (by unfold A2 at o;omega) (by unfold A2 at o;omega) (by unfold A2 at o;omega);refine ⟨fun q u m=>?_,fun q u=>?_,fun q u=>?_,fun q u m=>?_⟩
  ·obtain ⟨n,k,w,y,E,rfl⟩:=h.2.field A.bA A.ok.l8 u;refine ⟨AX R.f R.tg,.inl (.inr ⟨n,r.s.field,w,y,by have:=l.2.2;omega,?_⟩)⟩;unfold pN at m⊢;omega
  ·exact ⟨h.2.cell A.bA u,AX R.f R.tg⟩
  ·exact ⟨AX R.f (f.sr (by omega)),h.2.cell A.bA u⟩
  ·have j:=h.2.code A.bA A.ok.l8 u;exact ⟨⟨l.2.1 q,j⟩,v r _ R j m⟩
theorem Im{P a b c t}(A:AnOk P a b)(h:(least P).I c t):A8 P a c∧EM P a t:=h _ (MQ A)
theorem Xg{P c d a b}(A:AnOk P c d)(h:(least P).F a b):A8 P c a∧A8 P c b:=h _ (MQ A)
theorem MN{P b a n g}(A:AnOk P b a)(h:(least P).E n g):(1≤n∧n≤a)∧g<P.length:=h _ (MQ A)
theorem PM(P m D F l C o v w)(A:AnOk P l C)(h:Dn P m D F l C o v w)(r:Rl)(x:Nat)(av:Value)(hi:AD 0 w av r.s.args)(hr:Ly P r)(S:A2 r)(hx:(least P).I r.at x):
 Calls Tryz.prog 132 #[.pointer (some ⟨m,0,none⟩),.agg (Hi r av),.int .i64 x] w fun e f=>e=.returned (.tuple #[])∧Nx P m D F l C o v w f (fun y=>EZ P r x y.s):=by
 obtain ⟨K,al,L,rfl⟩:=Ad hi;have d0:=Aq hi;subst d0;have o1:Ab (fun _=>False) w (w.alloc (.cells (Hi r (.slice K r.s.args.length L)) 208)):=(Ab.refl _ w).alloc _;have b9:=Ak.new w (Hi r (.slice K r.s.args.length L)) 208;have hE:=h.i9 o1;have hI:=Ac hi o1 (fun _ _ q=>q);have hR:=A.rl hr (by unfold A2 at S;omega) (by unfold A2 at S;omega) (by unfold A2 at S;omega) (by unfold A2 at S;omega);have hT:=(Im A hx).2;have lx:=hT.lt A;have c1:∀k,o.own m k→k<w.heap.size:=fun k q=>h.r.ownLt q
 have d3:¬o.own m w.heap.size:=fun q=>by have:=c1 _ q;omega
 have B:=Aa A;have HR:=Aa hR;have HF:=Aa ((CU P).fol r x hr S hx);have HT:=Aa hT;have HP:=Aa hr;clear h hi A hr hR hT;go_enter Tryz.func132,Tryz.ntmps132;go_upto_block 0 with (first | (go_at_call 106;refine (ID x _ (by omega)).mono ?_;rintro e V ⟨rfl,Z⟩;dsimp only;have p:=(b9.O Z (fun q=>q)).alloc (.cells #[.int .i64 (CD x).1,.int .i64 (CD x).2.1,.int .i64 (CD x).2.2] 179);have b1:=p.cell 1;have c5:=Ae p;simp only [dM,dJ,dK] at b1));have u:Ab (fun _=>False) V (V.alloc (.cells #[.int .i64 (CD x).1,.int .i64 (CD x).2.1,.int .i64 (CD x).2.2] 179)):=(Ab.refl _ V).alloc _;have Y:=Ak.new V #[.int .i64 (CD x).1,.int .i64 (CD x).2.1,.int .i64 (CD x).2.2] 179;have a8:=hE.i9 (Z.trans u);have a9:=Ac hI (Z.trans u) (fun _ _ q=>q);have O3:=Aa (o1.trans (Z.trans u));have d4:¬o.own m V.heap.size:=fun q=>by have:=c1 _ q;have q1:=o1.size;have q2:=Z.size;omega
 clear o1 Z u hE hI b9 b1 c5;generalize V.alloc (.cells #[.int .i64 (CD x).1,.int .i64 (CD x).2.1,.int .i64 (CD x).2.2] 179)=W at*;generalize V.heap.size=tb at*;have b0:=p.cell 0;have b1:=p.cell 1;have b2:=p.cell 2;have b3:=p.cell 3;have b4:=p.cell 4;have b5:=p.cell 5;have b6:=p.cell 6;have b7:=p.cell 7;have b8:=p.cell 8;have c5:=Ae p;have t0:=Y.cell 0;have t1:=Y.cell 1;have t2:=Y.cell 2;have e2:=Ae Y;simp only [dM,dJ,dK] at b0 b1 b2 b3 b4 b5 b6 b7 b8 t0 t1 t2;have a3:=B.o.bA;have T:=HR.o.f;have c4:=HR.o.tg;have e1:=B.o.ok.l8 r.f;have O:=Aa a8;have HI:=Aa a9;have HB:=Aa p;have c7:=Aa Y;clear a8 a9 p Y hx;have a6:dN (A8 P l r.tg):=AX T c4;have d8:r.tg<16400:=D2 B.o T c4;have a5:∀(Q:Sv→Prop) (R f:World),Ab (fun _=>False) W R→Nx P m D F l C o v R f Q→Nx P m D F l C o v w f Q:=fun Q R f hW hN=>by obtain ⟨J,U,i,H,E,G⟩:=hN;have ow:=O3.o.trans hW;exact ⟨J,U,⟨i.r,fun j hj=>(i.ow j hj).imp id fun q=>rO ow.size q,i.rl,(ow.mono (fun _ _ q=>q.elim)).trans i.on⟩,H,E,G⟩
 have c6:∀R,Ab (fun _=>False) W R→EZ P r x v.s→Nx P m D F l C o v w R (fun y=>EZ P r x y.s):=fun R hW hq=> a5 _ _ _ hW ⟨o,v,⟨(O.o.i9 hW).r,fun _ q=>.inl q,rfl,Ab.refl _ _⟩,.rf _,fun _ q=>q,hq⟩
 have a1:=Aa a5;have a2:=Aa c6;clear a5 c6;have k0:r.s.kind=3∨r.s.kind=5∨r.s.kind=8∨r.s.kind=9:=S;clear S;rcases k0 with d | d | d | d
 ·have k3:(((r.s.kind:Nat):Int)==3)=true:=by rw [d];rfl
  have b:=Aa d;clear d;by_cases c:156≤x∧(x-156) % 4=0
  ·have s:CD x=(1,(x-156) / 4+1,(x-156) % 4):=by unfold CD;rw [if_neg (by omega),if_neg (by omega)]
   have M:((((CD x).1:Nat):Int)==1)=true:=by rw [s];rfl
   have d5:((((CD x).2.2:Nat):Int)==0)=true:=by rw [s];simp;omega
   have e0:=(B.o.bG r.f T r.s HP.o.2).2.2;have c2:pN (CD x).2.1 r.s.field=x+r.s.field:=by rw [s];unfold pN;dsimp only;omega
   have d1:1≤(CD x).2.1:=by rw [s];dsimp only;omega
   have d2:(CD x).2.1≤4001:=by obtain ⟨n,k,h1,h2,h3,e⟩:=HT.o.field a3 B.o.ok.l8 c.1;have:=B.o.lp;rw [s];dsimp only;unfold pN at e;omega
   have c9:dN ((least P).I r.tg (x+r.s.field)):=HF.o.1 b.o c.1 c.2;have N:dN (∀z,Ab (o.own m) W z→z.cell? ⟨tb,1,none⟩=some (.int .i64 (CD x).2.1)∧z.cell? ⟨w.heap.size,0,none⟩=some (.int .i64 r.f)∧z.cell? ⟨w.heap.size,1,none⟩=some (.int .i64 r.s.kind)∧z.cell? ⟨w.heap.size,2,none⟩=some (.int .i64 r.s.aQ)∧z.cell? ⟨w.heap.size,3,none⟩=some (.int .i64 r.s.r9)∧z.cell? ⟨w.heap.size,4,none⟩=some (.int .i64 r.s.field)∧z.cell? ⟨w.heap.size,5,none⟩=some (.int .i64 r.s.m9)∧z.cell? ⟨w.heap.size,6,none⟩=some (.slice K r.s.args.length L)∧z.cell? ⟨w.heap.size,7,none⟩=some (.int .i64 r.s.next)∧z.cell? ⟨w.heap.size,8,none⟩=some (.int .i64 r.s.taken)):=fun z h3=>by have q1:=(c7.o.O h3 d4).cell 1;have I:=HB.o.O h3 d3;have r0:=I.cell 0;have r1:=I.cell 1;have r2:=I.cell 2;have r3:=I.cell 3;have r4:=I.cell 4;have r5:=I.cell 5;have r6:=I.cell 6;have r7:=I.cell 7;have r8:=I.cell 8;simp only [dM,dJ,dK] at q1 r0 r1 r2 r3 r4 r5 r6 r7 r8;exact ⟨q1,r0,r1,r2,r3,r4,r5,r6,r7,r8⟩
   have d6:pN (CD x).2.1 r.s.field<19200:=by omega
   have a7:=Aa c2;clear c s c2;obtain ⟨ka,c0⟩:=(O.o.r.d0 r.tg 0 (.inl rfl)).2 a6.o;go_wp2_with fail;go_region_held3 (fun f=>f.cell? ⟨tb,1,none⟩=some (.int .i64 (CD x).2.1)∧f.cell? ⟨w.heap.size,0,none⟩=some (.int .i64 r.f)∧f.cell? ⟨w.heap.size,1,none⟩=some (.int .i64 r.s.kind)∧f.cell? ⟨w.heap.size,2,none⟩=some (.int .i64 r.s.aQ)∧f.cell? ⟨w.heap.size,3,none⟩=some (.int .i64 r.s.r9)∧f.cell? ⟨w.heap.size,4,none⟩=some (.int .i64 r.s.field)∧f.cell? ⟨w.heap.size,5,none⟩=some (.int .i64 r.s.m9)∧f.cell? ⟨w.heap.size,6,none⟩=some (.slice K r.s.args.length L)∧f.cell? ⟨w.heap.size,7,none⟩=some (.int .i64 r.s.next)∧f.cell? ⟨w.heap.size,8,none⟩=some (.int .i64 r.s.taken)) (go_keep)
    (first
      | (go_at_call 127;refine (Cb r (.slice K r.s.args.length L) _ (by omega) (by omega)).mono ?_;rintro e w3 ⟨rfl,u⟩;have O4:=Aa (Ab.trans (X:=fun _=>False) (a:=W) (by repeat (first | exact Ab.refl _ _ | refine Ab.drew ?_ | refine Ab.drewN ?_ _ | refine Ab.alloc ?_ _)) u);clear u;obtain ⟨q1,r0,r1,r2,r3,r4,r5,r6,r7,r8⟩:=N.o w3 (O4.o.mono fun _ _ q=>q.elim))
      | (go_at_call 65;refine (Iw (CD x).2.1 r.s.field _ d1 d2 (by omega)).mono ?_;rintro e f ⟨rfl,hw⟩;have hw:=hw.symm;subst hw)
      | (go_at_call 126;refine (E7 P m D F l C o v w5 r.tg ka fb _ (O.o.i9 O5.o).r c0 SF.o (by omega) (fun q=>by have:=(O.o.i9 O4.o).r.ownLt (k:=ka) (.inr (.inr (.inl ⟨0,_,c0⟩)));omega)).mono ?_;rintro e w6 ⟨rfl,J,i⟩;have SS:=Aa i;clear i;obtain ⟨q1,r0,r1,r2,r3,r4,r5,r6,r7,r8⟩:=N.o w6 ((O5.o.mono (fun _ _ q=>q.elim)).trans SS.o.on))
      | (go_at_call 98;refine (Fh (pN (CD x).2.1 r.s.field) _ d6).mono ?_;rintro e w5 ⟨fb,rfl,d9,sf,o5⟩;have O5:=Aa (O4.o.trans o5);have SF:=Aa sf;clear o5 sf;obtain ⟨q1,r0,r1,r2,r3,r4,r5,r6,r7,r8⟩:=N.o w5 (O5.o.mono fun _ _ q=>q.elim)))
   all_goals
    have g:dN (Nx P m D F l C o v w w6 (fun y=>EZ P r x y.s)):=by refine a1.o (fun y=>EZ P r x y.s) _ _ O5.o ⟨J,_,SS.o,Sv.give_up v _ _,fun X q=>q.give (fun t ht=>by rw [ht,a7.o];exact c9.o),?_⟩;refine ⟨fun _ _ _=>?_,fun q=>absurd (b.o.symm.trans q) (by decide),fun q=>absurd (b.o.symm.trans q) (by decide),fun q=>absurd (b.o.symm.trans q) (by decide)⟩;rw [←a7.o];exact .inr ⟨rfl,rfl⟩
    go_wp2_with fail;go_end0;exact ⟨rfl,g.o⟩
  ·have g:=Aa (a2.o _ (Ab.refl _ W) ⟨fun _ h1 h2=>absurd ⟨h1,h2⟩ c,fun q=>absurd (b.o.symm.trans q) (by decide),fun q=>absurd (b.o.symm.trans q) (by decide),fun q=>absurd (b.o.symm.trans q) (by decide)⟩);by_cases h1:156≤x
   ·have s:CD x=(1,(x-156) / 4+1,(x-156) % 4):=by unfold CD;rw [if_neg (by omega),if_neg (by omega)]
    have M:((((CD x).1:Nat):Int)==1)=true:=by rw [s];rfl
    have d5:((((CD x).2.2:Nat):Int)==0)=false:=by rw [s];simp;omega
    clear c s h1;go_wp2_with fail;go_end0;exact ⟨rfl,g.o⟩
   ·have M:((((CD x).1:Nat):Int)==1)=false:=by
     unfold CD;split
     ·rfl
     ·rw [if_pos (by omega)];rfl
    clear c h1
    go_wp2_with fail
    go_end0
    exact ⟨rfl,g.o⟩
 ·have k3:(((r.s.kind:Nat):Int)==3)=false:=by rw [d];rfl
  have k5:(((r.s.kind:Nat):Int)==5)=true:=by rw [d];rfl
  have b:=Aa d;clear d;by_cases c:Ug x
  ·have M:((((CD x).1:Nat):Int) !=2)=true:=by
    unfold CD;unfold Ug at c;split
    ·rfl
    ·rw [if_neg (by omega)];rfl
   have N:dN (A8 P l x):=HT.o.cell a3 c
   have a4:dN ((least P).F x r.tg):=HF.o.2.1 b.o c
   clear c
   go_wp2_with fail
   refine (Cb r (.slice K r.s.args.length L) W (by omega) (by omega)).mono ?_
   rintro e w3 ⟨rfl,u⟩
   have a0:=Aa u
   clear u
   go_wp2_with fail
   refine (FT P m D F l C o v w3 x r.tg (O.o.i9 a0.o).r N.o a6.o lx d8 a4.o).mono ?_
   rintro e w4 ⟨rfl,nx⟩
   obtain ⟨J,U,i,H,E,G⟩:=nx
   have g:=Aa (a1.o (fun y=>EZ P r x y.s) _ _ a0.o ⟨J,U,i,H,E,fun q=>absurd (b.o.symm.trans q) (by decide),fun _ _=>G,fun q=>absurd (b.o.symm.trans q) (by decide),fun q=>absurd (b.o.symm.trans q) (by decide)⟩)
   clear i H E G
   go_wp2_with fail
   go_end0
   exact ⟨rfl,g.o⟩
  ·have M:((((CD x).1:Nat):Int) !=2)=false:=by unfold CD;unfold Ug at c;rw [if_neg (by omega),if_pos (by omega)];rfl
   have g:=Aa (a2.o _ (Ab.refl _ W) ⟨fun q=>absurd (b.o.symm.trans q) (by decide),fun _ q=>absurd q c,fun q=>absurd (b.o.symm.trans q) (by decide),fun q=>absurd (b.o.symm.trans q) (by decide)⟩)
   clear c
   go_wp2_with fail
   go_end0
   exact ⟨rfl,g.o⟩
 ·have k3:(((r.s.kind:Nat):Int)==3)=false:=by rw [d];rfl
  have k5:(((r.s.kind:Nat):Int)==5)=false:=by rw [d];rfl
  have k9:(((r.s.kind:Nat):Int)==9)=false:=by rw [d];rfl
  have k8:(((r.s.kind:Nat):Int)==8)=true:=by rw [d];rfl
  have b:=Aa d;clear d;by_cases c:YF x
  ·have s:CD x=(2,x-144,0):=by unfold CD;unfold YF at c;rw [if_neg (by omega),if_pos (by omega)]
   have M:((((CD x).1:Nat):Int) !=2)=false:=by rw [s];rfl
   have hg:=HT.o.code a3 B.o.ok.l8 c;have hn:=(B.o.bG r.f T r.s HP.o.2).2.1 b.o;have HL:=Aa (HF.o.2.2.2 b.o c);have ho:(CD x).2.1=x-144:=by rw [s]
   rw [ho] at t1;have HN:=Aa hn;clear c s ho hn;go_wp2_with fail;refine (Qr P m D F l C o v W B.o O.o r (x-144) (.slice K r.s.args.length L) HI.o HR.o hg HN.o.1 HN.o.2 HL.o).mono ?_;rintro e w4 ⟨rfl,nx⟩;obtain ⟨J,U,i,H,E,G⟩:=nx;have g:=Aa (a1.o (fun y=>EZ P r x y.s) _ _ (Ab.refl _ W) ⟨J,U,i,H,E,fun q=>absurd (b.o.symm.trans q) (by decide),fun q=>absurd (b.o.symm.trans q) (by decide),fun q=>absurd (b.o.symm.trans q) (by decide),fun _ _=>G⟩);clear i H E G;go_wp2_with fail;go_end0;exact ⟨rfl,g.o⟩
  ·have M:((((CD x).1:Nat):Int) !=2)=true:=by
    unfold CD;unfold YF at c;split
    ·rfl
    ·rw [if_neg (by omega)];rfl
   have g:=Aa (a2.o _ (Ab.refl _ W) ⟨fun q=>absurd (b.o.symm.trans q) (by decide),fun q=>absurd (b.o.symm.trans q) (by decide),fun q=>absurd (b.o.symm.trans q) (by decide),fun _ q=>absurd q c⟩)
   clear c
   go_wp2_with fail
   go_end0
   exact ⟨rfl,g.o⟩
 ·have k3:(((r.s.kind:Nat):Int)==3)=false:=by rw [d];rfl
  have k5:(((r.s.kind:Nat):Int)==5)=false:=by rw [d];rfl
  have k9:(((r.s.kind:Nat):Int)==9)=true:=by rw [d];rfl
  have b:=Aa d;clear d;by_cases c:Ug x
  ·have M:((((CD x).1:Nat):Int) !=2)=true:=by
    unfold CD;unfold Ug at c;split
    ·rfl
    ·rw [if_neg (by omega)];rfl
   have N:dN (A8 P l x):=HT.o.cell a3 c
   have a4:dN ((least P).F r.sr x):=HF.o.2.2.1 b.o c
   have c3:=(B.o.ok.ok r.f T r.s HP.o.2).sr (by have:=b.o;omega)
   have c8:dN (A8 P l r.sr):=AX T c3
   have d7:r.sr<16400:=D2 B.o T c3
   clear c
   go_wp2_with fail
   refine (CV r (.slice K r.s.args.length L) W (by omega) (by omega)).mono ?_
   rintro e w3 ⟨rfl,u⟩
   have a0:=Aa u
   clear u
   go_wp2_with fail
   refine (FT P m D F l C o v w3 r.sr x (O.o.i9 a0.o).r c8.o N.o d7 lx a4.o).mono ?_
   rintro e w4 ⟨rfl,nx⟩
   obtain ⟨J,U,i,H,E,G⟩:=nx
   have g:=Aa (a1.o (fun y=>EZ P r x y.s) _ _ a0.o ⟨J,U,i,H,E,fun q=>absurd (b.o.symm.trans q) (by decide),fun q=>absurd (b.o.symm.trans q) (by decide),fun _ _=>G,fun q=>absurd (b.o.symm.trans q) (by decide)⟩)
   clear i H E G
   go_wp2_with fail
   go_end0
   exact ⟨rfl,g.o⟩
  ·have M:((((CD x).1:Nat):Int) !=2)=false:=by unfold CD;unfold Ug at c;rw [if_neg (by omega),if_pos (by omega)];rfl
   have g:=Aa (a2.o _ (Ab.refl _ W) ⟨fun q=>absurd (b.o.symm.trans q) (by decide),fun q=>absurd (b.o.symm.trans q) (by decide),fun _ q=>absurd q c,fun q=>absurd (b.o.symm.trans q) (by decide)⟩)
   clear c
   go_wp2_with fail
   go_end0
   exact ⟨rfl,g.o⟩
section
variable {P : List PFn} {a : Nat} {d : Value} {f g b : Nat} {o : So} {v : Sv} {w l : World}
def So.tk(o:So)(c:Nat):So:={o with om:=fun t=>if t=2 then c else o.om t,bk:=fun t i=>if t=2 then none else o.bk t i}
theorem So.tk_bk{o:So}{c t i k:Nat}(h:(o.tk c).bk t i=some k):t≠2∧o.bk t i=some k:=by
 unfold So.tk at h;dsimp only at h;split at h
 ·cases h
 ·next e=>exact ⟨e,h⟩
theorem So.tk_old{o:So}{c t i:Nat}(h:t≠2):(o.tk c).bk t i=o.bk t i:=by unfold So.tk;dsimp only;rw [if_neg h]
theorem So.tk_om{o:So}{c t:Nat}(h:t≠2):(o.tk c).om t=o.om t:=by unfold So.tk;dsimp only;rw [if_neg h]
theorem So.tk_2{o:So}{c:Nat}:(o.tk c).om 2=c:=rfl
theorem OP(v:Sv)(t i x:Nat)(h:t≠2):BF P v.took t i x↔BF P v t i x:=by simp [BF,Sv.took,h]
theorem Bp.took(h:Bp P a d f g b o v w){y}(R:w.heap.size≤y)(M:Bv Hb Ha y (fun _=>none) l)(J:Ak a (Gf (o.tk y) d f g b) 144 l)(A:Ab (fun k=>k=a) w l):Bp P a d f g b (o.tk y) v.took l:=by
 have E:∀t,t≤5→o.om t<w.heap.size:=fun t p=>h.ownLt (.inr (.inl ⟨t,p,rfl⟩))
 have F:∀t,t≤5→o.om t≠a:=fun t p=>by
  by_cases I:t=5
  ·subst I;obtain ⟨_,_,e⟩:=h.fm.isMap;exact (h.bR e).1
  ·obtain ⟨_,_,e⟩:=(h.mp t (by omega)).isMap;exact (h.bR e).1
 have O:∀t i k,o.bk t i=some k→k≠a:=fun t i k m=>by obtain ⟨_,_,e⟩:=(h.st t i k m).isMap;exact (h.bR e).1
 refine {h with s9:=J,mp:=fun t p=>?_,st:=fun t i k m=>?_,dj:=fun t i s N k m L=>h.dj t i s N k (So.tk_bk m).2 (So.tk_bk L).2,oj:=fun t s p B e=>?_,ne:=fun t i k s m B=>?_,t4:=fun t i k m=>h.t4 t i k (So.tk_bk m).2,d0:=fun c t p=>?_,d1:=fun n=>?_,d4:=fun n=>?_,d2:=fun c k m=>absurd rfl (So.tk_bk m).1,ins:=fun t i x p q=>?_,fm:=?_,fr:=fun c t D=>(h.fr c t D).O A (fun j K q=>?_) (fun j G Q q r=>?_),fvr:=h.fvr}
 ·by_cases e:t=2
  ·subst e;exact M
  ·rw [So.tk_om e,show (o.tk y).bk t=o.bk t from funext fun i=>So.tk_old e];exact (h.mp t p).O A (F t (by omega))
 ·obtain ⟨e,m⟩:=So.tk_bk m;exact ((h.st t i k m).O A (O t i k m)).iff fun x=>(OP v t i x e).symm
 ·by_cases z:t=2
  ·by_cases u:s=2
   ·rw [z,u]
   ·rw [z,So.tk_2,So.tk_om u] at e;have:=E s B;omega
  ·by_cases u:s=2
   ·rw [u,So.tk_2,So.tk_om z] at e;have:=E t p;omega
   ·rw [So.tk_om z,So.tk_om u] at e;exact h.oj t s p B e
 ·obtain ⟨e,m⟩:=So.tk_bk m;by_cases u:s=2
  ·rw [u,So.tk_2];have:=h.ownLt (.inr (.inr (.inl ⟨t,i,m⟩)));omega
  ·rw [So.tk_om u];exact h.ne t i k s m B
 ·rw [←h.d0 c t p,So.tk_old (by omega)]
 ·rw [←h.d1 n,So.tk_old (by omega)]
 ·rw [←h.d4 n,So.tk_old (by omega)]
 ·by_cases e:t=2
  ·subst e;simp [BF,Sv.took] at q
  ·rw [So.tk_old e];exact h.ins t i x p ((OP v t i x e).1 q)
 ·rw [So.tk_om (by omega)];exact h.fm.O A (F 5 (by omega))
 ·obtain ⟨G,H,_⟩:=h.fr c t D;exact Aj H h.s9 (by decide) j K q
 ·rw [q] at r;have C:=h.s9;unfold Ak at C;rw [r] at C;cases C
theorem Bp.outk(h:Bp P a d f g b o v w){x}(C:w.heap.size≤x):(∀c k,o.bk 2 c=some k→¬(o.tk x).own a k)∧¬(o.tk x).own a (o.om 2):=by
 have B:=(h.mp 2 (by omega)).isMap;refine ⟨fun c k m q=>?_,fun q=>?_⟩
 ·obtain ⟨z,y,e⟩:=(h.st 2 c k m).isMap;obtain ⟨s,u⟩:=h.bR e;have A:=h.ownLt (.inr (.inr (.inl ⟨2,c,m⟩)));rcases q with q | ⟨t,p,q⟩ | ⟨t,i,q⟩ | ⟨n,t,q,r⟩
  ·exact s q
  ·by_cases j:t=2
   ·rw [j,So.tk_2] at q;omega
   ·rw [So.tk_om j] at q;exact h.ne 2 c k t m p q
  ·obtain ⟨j,q⟩:=So.tk_bk q;exact j (h.dj t i 2 c k q m).1
  ·exact u n t q r
 ·obtain ⟨z,y,e⟩:=B;obtain ⟨s,u⟩:=h.bR e;have A:=h.ownLt (k:=o.om 2) (.inr (.inl ⟨2,by omega,rfl⟩));rcases q with q | ⟨t,p,q⟩ | ⟨t,i,q⟩ | ⟨n,t,q,r⟩
  ·exact s q
  ·by_cases j:t=2
   ·rw [j,So.tk_2] at q;omega
   ·rw [So.tk_om j] at q;exact j (h.oj 2 t (by omega) p q).symm
  ·obtain ⟨j,q⟩:=So.tk_bk q;exact h.ne t i _ 2 q (by omega) rfl
  ·exact u n t q r
def So.wt(o:So)(c:Nat)(t:Nat×Nat×Nat)(r:Rl):So:={o with fw:=fun x=>if x=c then some t else o.fw x,rl:=fun x=>if x=c then o.rl c++[r] else o.rl x}
def DV(o:So)(c:Nat):Value:=match o.fw c with | none=>.slice none 0 0 | some t=>DX t
theorem Bp.fwAt(h:Bp P a d f g b o v w)(c:Nat):Hn 0 w (DV o c) (o.rl c):=by
 unfold DV;cases e:o.fw c with
 | none=> rw [h.f0 c e];exact ⟨[],⟨rfl,.inl ⟨rfl,rfl⟩⟩,rfl,fun i q=>by simp at q⟩
 | some t=>exact h.fr c t e
theorem Bp.wait(h:Bp P a d f g b o v w){c:Nat}{t:Nat×Nat×Nat}{r:Rl}{z:World}(B:Ab (fun k=>(DV o c).ownBlock=some k) w z)(H:(DV o c).ownBlock=some t.1∨w.heap.size≤t.1)(hr:Hn 0 z (DX t) (o.rl c++[r]))
 (hm:Bv TB TA (o.om 5) (fun x=>if x=c then some t else o.fw x) l)(C:Ab (fun k=>k=o.om 5) z l):Bp P a d f g b (o.wt c t r) (v.wait c r) l:=by
 have S:∀k,(DV o c).ownBlock=some k→∃u,o.fw c=some u∧k=u.1:=fun k n=>by
  unfold DV at n;cases hc:o.fw c with
  | none=>rw [hc] at n;cases n
  | some u=>rw [hc] at n;unfold DX at n;cases n;exact ⟨u,rfl,rfl⟩
 have G:∀k,(DV o c).ownBlock=some k→∃s,w.heap[k]? =some (.cells s 208 (0,0)):=fun k n=>by obtain ⟨u,e,rfl⟩:=S k n;obtain ⟨s,Q,_⟩:=h.fr c u e;exact B8 Q _ rfl
 obtain ⟨a6,c5,I⟩:=h.fm.isMap;have l5:=lt_of_block I;have a1:z.heap[o.om 5]? =some (.map a6 c5):=(B.block _ l5 fun q=>by obtain ⟨s,e⟩:=G _ q;rw [I] at e;cases e).trans I;obtain ⟨n1,n2⟩:=h.bR I;have a4:∀k F E,w.heap[k]? =some (.map F E)→¬((DV o c).ownBlock=some k):=fun k F E n q=>by obtain ⟨s,e⟩:=G k q;rw [n] at e;cases e
 have a7:Ak a (Gf o d f g b) 144 z:=h.s9.O B fun q=>by obtain ⟨s,e⟩:=G _ q;have:=h.s9;unfold Ak at this;rw [e] at this;cases this
 have J:∀i m,(o.wt c t r).fw i=some m→(i=c∧m=t)∨(i≠c∧o.fw i=some m):=fun i m p=>by
  unfold So.wt at p;dsimp only at p;split at p
  ·next e=>cases p;exact .inl ⟨e,rfl⟩
  ·next e=>exact .inr ⟨e,p⟩
 refine {h with s9:=a7.O C (fun q=>n1 q.symm),mp:=fun m a2=>?_,st:=fun m T U R=>?_,ins:=h.ins,fm:=hm,fr:=fun i m p=>?_,fj:=fun M D W L a8 a0 e=>?_,f0:=fun i p=>?_,fvr:=fun i K=>?_}
 ·obtain ⟨F,E,e⟩:=(h.mp m a2).isMap;exact ((h.mp m a2).O B (a4 _ _ _ e)).O C (fun q=>absurd (h.oj m 5 (by omega) (by omega) q) (by omega))
 ·obtain ⟨F,E,e⟩:=(h.st m T U R).isMap;exact ((h.st m T U R).O B (a4 _ _ _ e)).O C (h.ne m T U 5 R (by omega))
 ·have a3:∀k s O,k=o.om 5→z.heap[k]? ≠some (.cells s 3 O):=fun k s O q r=>by rw [q,a1] at r;cases r
  rcases J i m p with ⟨rfl,rfl⟩ | ⟨e,n⟩
  ·have e:(o.wt i m r).rl i=o.rl i++[r]:=by unfold So.wt;dsimp only;rw [if_pos rfl]
   rw [e];refine hr.O C (fun j y q=>?_) a3;obtain ⟨s,Q,_⟩:=hr;obtain ⟨a5,e⟩:=B8 Q j y;rw [q,a1] at e;cases e
  ·have er:(o.wt c t r).rl i=o.rl i:=by unfold So.wt;dsimp only;rw [if_neg e]
   rw [er];refine ((h.fr i m n).O B (fun j y q=>?_) (fun j s O q r=>?_)).O C (fun j y q=>n2 i m n (by unfold DX at y;cases y;exact q.symm)) a3
   ·obtain ⟨u,N,A⟩:=S j q;unfold DX at y;cases y;exact e (h.fj i c m u n N A)
   ·obtain ⟨a5,X⟩:=G j q;rw [r] at X;cases X
 ·have Z:∀i m,i≠c→o.fw i=some m→m.1≠t.1:=fun i m a9 n q=>by
   rcases H with H | H
   ·obtain ⟨u,N,A⟩:=S _ H;exact a9 (h.fj i c m u n N (q.trans A))
   ·have:=h.ownLt (k:=m.1) (.inr (.inr (.inr ⟨i,m,n,rfl⟩)));omega
  rcases J M W a8 with ⟨rfl,rfl⟩ | ⟨A,q1⟩
  ·rcases J D L a0 with ⟨rfl,rfl⟩ | ⟨Y,V⟩
   ·rfl
   ·exact absurd e.symm (Z D L Y V)
  ·rcases J D L a0 with ⟨rfl,rfl⟩ | ⟨Y,V⟩
   ·exact absurd e (Z M W A q1)
   ·exact h.fj M D W L q1 V e
 ·unfold So.wt at p⊢;dsimp only at p⊢;split at p
  ·cases p
  ·next e=>rw [if_neg e];exact h.f0 i p
 ·show (v.W i K∨(i=c∧K=r))↔_;unfold So.wt;dsimp only;by_cases e:i=c
  ·subst e;rw [if_pos rfl,h.fvr i K];simp
  ·rw [if_neg e,h.fvr i K];simp [e]
end
end Go.Proofs.YtegmjgjkcdbmkaaGreatDoor
