/- One of the texts of the proof of texts_card_holds: EqL EqS EqM. -/
import Derived.Test.YtmaankfbhhbeoaaGreatDoorG24
namespace Go.Proofs.YtmaankfbhhbeoaaGreatDoor
open Go.Maps
theorem Ep(s:ByteArray):∀(l:List TF) (k:Nat) (D:DataW Unit),IsMap D→(has (AN l k D) (AT s)=true↔has D (AT s)=true∨0≤Ch (l.map fun t=>t.name.d9) s k)
 | [],k,D,_=>by simp [AN,Ch]
 | t::l,k,D,c=>by
   rw [AN,List.map_cons,Ch];have d:t.name.d9.toList=s.toList↔s=t.name.d9:=⟨fun h=>(EY h).symm,fun h=>by rw [h]⟩;by_cases b:has D (AT t.name.d9)=true
   ·rw [if_pos b,Ep s l (k+1) D c];by_cases a:s=t.name.d9
    ·subst a;rw [if_pos rfl];simp [b]
    ·rw [if_neg (fun q=>a (d.1 q))]
   ·rw [if_neg b,Ep s l (k+1) _ (c.put _ _)];by_cases a:s=t.name.d9
    ·subst a;rw [if_pos rfl,has_put_same c (DA _)];simp
    ·rw [if_neg (fun q=>a (d.1 q)),has_put_other (fun q=>a (Gf q))]
theorem D4(s:ByteArray)(z:DataW Unit):∀(l:List TF) (k:Nat) (D:DataW Unit),IsMap D→(has D (AT s)=true→(AN l k D).atKey (AT s) z=D.atKey (AT s) z)∧(¬has D (AT s)=true→0≤Ch (l.map fun t=>t.name.d9) s k→(AN l k D).atKey (AT s) z=.lit (.int .i64 (Ch (l.map fun t=>t.name.d9) s k)))
 | [],k,D,_=>by simp [AN,Ch]
 | t::l,k,D,g=>by
   rw [AN,List.map_cons,Ch];have j:t.name.d9.toList=s.toList↔s=t.name.d9:=⟨fun h=>(EY h).symm,fun h=>by rw [h]⟩;by_cases f:has D (AT t.name.d9)=true
   ·rw [if_pos f];obtain ⟨a,b⟩:=D4 s z l (k+1) D g;refine ⟨a,fun c e=>?_⟩;by_cases d:s=t.name.d9
    ·subst d;exact absurd f c
    ·rw [if_neg (fun q=>d (j.1 q))] at e⊢;exact b c e
   ·rw [if_neg f];obtain ⟨a,b⟩:=D4 s z l (k+1) (D.put (AT t.name.d9) (.lit (.int .i64 k))) (g.put _ _);by_cases d:s=t.name.d9
    ·subst d;rw [if_pos rfl];refine ⟨fun c=>absurd c f,fun _ _=>?_⟩;rw [a (has_put_same g (DA _) _),atKey_put_same g (DA _)]
    ·have i:AT s≠AT t.name.d9:=fun q=>d (Gf q)
     rw [if_neg (fun q=>d (j.1 q))];refine ⟨fun c=>?_,fun c e=>b (by rw [has_put_other i];exact c) e⟩;rw [a (by rw [has_put_other i];exact c),atKey_put_other i]
theorem Mn{u a}(b:a.map (fun f=>f.name.d9)=u.map (fun t=>t.name.d9))(g:a.map (fun f=>f.p7.length)=u.map (fun t=>t.l8.length)):Lk (AN u 0 (.map [])) u a:=by
 have d:∀s,¬has (DataW.map []:DataW Unit) (AT s)=true:=fun s=>by simp [has_eq]
 refine ⟨fun s=>?_,fun s c=>?_⟩
 ·rw [b,Ep s u 0 _ isMap_empty];exact ⟨fun q=>q.elim (fun z=>absurd z (d s)) id,.inr⟩
 ·rw [b] at c⊢;rw [g];have e:Bf (AN u 0 (.map [])) s=(Ch (u.map fun t=>t.name.d9) s 0).toNat:=by unfold Bf;rw [(D4 s _ u 0 _ isMap_empty).2 (d s) c]
  rw [e];unfold EP;rw [List.getElem?_map]
def I1(b:Nat)(c a:CS):Prop:=c=a∧(c.p9=0∨c.f8<b)
theorem Ct.c{b D c d a}(h:Ct b D c d a):I1 b c a:=⟨h.1,h.2.imp (fun q=>q.1) (fun q=>q.2)⟩
theorem I1.start{d c b}(h:I1 d c b):Ct d (.map []) c [] b:=by
 refine ⟨h.1,?_⟩;by_cases a:c.p9=0
 ·exact .inl ⟨a,tidy_empty,fun s=>by simp [has_eq],rfl⟩
 ·exact .inr ⟨a,h.2.resolve_left a⟩
section
variable {N : Nat} {o : List PT} (H : TksOk N o)
include H
theorem Ct.MY:∀(a:List Nat) {i j:Nat} {x:DataW Unit×CS} {y:List ByteArray×CS},Ct (Ah o i).f8 x.1 x.2 y.1 y.2→GG i j a→j<o.length→Ct (Ah o j).f8 (JN (a.map (Ah o)) x).1 (JN (a.map (Ah o)) x).2 (CD (a.map (Ah o)) y).1 (CD (a.map (Ah o)) y).2
 | [],i,j,x,y,h,b,c=>h.mono (BW H b c)
 | p::a,i,j,x,y,h,b,c=>by have f:=b.2.le;have d:=h.to H (p:=p) (j:=p+1) (fun g q e=>q.decl (Ah o p) e) b.1 (Nat.le_refl _) (by omega);exact Ct.MY a (x:=(Ed x.1 (Ah o p),CZ x.1 (Ah o p) x.2)) (y:=(y.1++[(Ah o p).d9],Cm y.1 (Ak (Ah o p)) y.2)) d b.2 c
variable {F : DataW Unit} {u : List TF} {v : List RF} (L : Lk F u v)
include L
theorem Ct.stmts{d dep:Nat}:∀{a b:Nat} {c:List TS},Cg (Bz o d) a b c→b<o.length→∀(x:DataW Unit×CS) (y:List ByteArray×CS),Ct (Ah o a).f8 x.1 x.2 y.1 y.2→Ct (Ah o b).f8 (c.foldl (fun x t=>FQ F u d dep t x) x).1 (c.foldl (fun x t=>FQ F u d dep t x) x).2 (DM v d dep c y).1 (DM v d dep c y).2:=by
 intro a b c r;induction r with
 | nil h=>intro e x y f;exact f.mono (BW H h e)
 | cons h _ g=>intro e x y f;exact g e _ _ (Ct.stmt H L h dep x y f)
theorem LM{d i j idx:Nat}{t:TF}(g:GO o d i j t)(P:Bf F t.name.d9=idx↔Ch (v.map fun f=>f.name.d9) t.name.d9 0=(idx:Int)){c r:CS}(h:I1 (Ah o i).f8 c r):I1 (Ah o j).f8 (Jh F u d idx t c) (Gv v d idx t r).2:=by
 obtain ⟨l,S,X,m,K,M,N,C,T,D,U⟩:=g.w;have V:=C.le;have W:=D.le (fun _ _ _ q=>q.lt);have R:=g.top;have I:Ct (Ah o (l+1)).f8 (.map []) (if Bf F t.name.d9=idx then (if 12≤idx then Bb 4 t.name.f8 c else c) else Bb 5 t.name.f8 (if 12≤idx then Bb 4 t.name.f8 c else c)) [] (Gw v idx t r):=by
  unfold Gw;have O:(Bf F t.name.d9=idx)=(Ch (v.map fun f=>f.name.d9) t.name.d9 0=(idx:Int)):=propext P;simp only [O];refine h.start.to H (p:=l) (fun Y q k=>?_) K (Nat.le_refl _) (by omega);rw [M];by_cases b:12≤idx
  ·rw [if_pos b,if_pos b];have E:=q.y6 (e:=4) k (by decide) (.map []) [];split
   ·exact E
   ·by_cases a:c.p9=0
    ·have G:Bb 4 (Ah o l).f8 c=⟨4,(Ah o l).f8⟩:=by simp [Bb,a]
     rw [←E.1,G];exact ⟨by simp [Bb,AU],.inr (by simp [Bb])⟩
    ·have s:=q.l6 k a 4;have n:=q.l6 k a 5;have Q:=q.1;rw [s.1,s.2,n.1];rw [←Q] at n;rw [n.2];exact ⟨rfl,q.2.imp (fun z=>absurd z.1 a) (fun z=>⟨z.1,by omega⟩)⟩
  ·rw [if_neg b,if_neg b];split
   ·exact q.mono (by omega)
   ·exact q.y6 k (by decide) _ _
 have B:=Ct.MY H S (x:=(.map [],_)) (y:=([],_)) I C (by omega);rw [←N] at B;have J:=Ct.stmts H L (dep:=1) D (by omega) _ _ (B.mono (BW H (by omega) (by omega)));unfold Jh Gv H8;simp only [show¬(6<1) by decide,if_false];exact (J.mono (BW H (by omega) R)).c
theorem LL{d:Nat}:∀{i j:Nat} {l:List TF},Cg (GO o d) i j l→j<o.length→∀(k:Nat) (c:CS) (x:List RF×CS),(∀m (s:m<l.length),Bf F l[m].name.d9=k+m↔Ch (v.map fun f=>f.name.d9) l[m].name.d9 0=((k+m:Nat):Int))→I1 (Ah o i).f8 c x.2→I1 (Ah o j).f8 (DP F u d l k c) (DD v d l k x).2:=by
 intro i j l r;induction r with
 | nil h=>intro b k c x _ a;exact ⟨a.1,a.2.imp id (fun q=>Nat.lt_of_lt_of_le q (BW H h b))⟩
 | @cons i m j t l h _ n=> intro b k c x e a;have p:=LM H L h (idx:=k) (by have:=e 0 (by simp);simpa using this) a;rw [DP,DD];refine n b (k+1) _ _ (fun q g=>?_) p;have:=e (q+1) (by simpa using g);simp only [List.getElem_cons_succ] at this;rw [show k+1+q=k+(q+1) by omega];exact this
end
section
variable {N : Nat} {o : List PT} (H : TksOk N o) (w : N ≤ 4000) (A : o.length ≤ 4001)
include H w A
theorem Io:∀(m:Nat) (x:PS) (d:List TF),x.d8<o.length→(Ae o o.length 0 (Db o o.length m x d).2).l7=false→x.l7=false∧∃f,(Db o o.length m x d).1=d++f∧Cg (GO o (2*o.length+1)) x.d8 (Db o o.length m x d).2.d8 f∧(Ah o (Db o o.length m x d).2.d8).kind=0∧(Db o o.length m x d).2.d8<o.length
 | 0,x,d,e,h=>by rw [Db] at h⊢;obtain ⟨a,b,c⟩:=DF h;exact ⟨b,[],by simp,.nil (Nat.le_refl _),a,e⟩
 | m+1,x,d,e,h=>by
   rw [Db] at h⊢;split at h
   ·rename_i g;rw [if_pos g];have s:=Dy (n:=o.length) H.end_ e;obtain ⟨i,f,j,k,l,p⟩:=Io m _ _ s.2 h;obtain ⟨q,r⟩:=JH H w A e i;exact ⟨q,(FA o o.length x).1::f,by rw [j];simp,.cons r k,l,p⟩
   ·rename_i g;rw [if_neg g];obtain ⟨a,b,c⟩:=DF h;exact ⟨b,[],by simp,.nil (Nat.le_refl _),a,e⟩
theorem Kd(h:(Bx o o.length ⟨0,false,0⟩).2.2.l7=false):Cg (GO o (2*o.length+1)) 0 (o.length-1) (Bx o o.length ⟨0,false,0⟩).1∧(Bx o o.length ⟨0,false,0⟩).2.1=N∧(Ah o (o.length-1)).f8=N:=by
 have d:=H.pos;obtain ⟨B,k,s,t,l⟩:=H.last;have e:(Ah o (o.length-1)).f8=N:=by unfold Ah;rw [k];exact l
 unfold Bx at h⊢;simp only at h⊢;have j:=Dy (n:=o.length) H.end_ (x:=⟨0,false,0⟩) d;obtain ⟨f,C,g,b,a,p⟩:=Io H w A o.length _ _ j.2 h;obtain ⟨r,i⟩:=JH H w A (x:=⟨0,false,0⟩) d f;have c:(Db o o.length o.length (FA o o.length ⟨0,false,0⟩).2 [(FA o o.length ⟨0,false,0⟩).1]).2.d8=o.length-1:=by
  rcases Nat.lt_or_ge (Db o o.length o.length (FA o o.length ⟨0,false,0⟩).2 [(FA o o.length ⟨0,false,0⟩).1]).2.d8 (o.length-1) with q | q
  ·have:=H.d7 _ _ q (List.getElem?_eq_getElem (by omega));exfalso;apply this;unfold Ah at a;rw [List.getElem?_eq_getElem (by omega)] at a;exact a
  ·omega
 obtain ⟨y,z,m⟩:=DF h;rw [m,c,g];rw [c] at b;exact ⟨.cons i b,e,e⟩
end
theorem JE{N:Nat}:∀(l:List PT) (k:Nat),l.Pairwise (fun a b=>a.f8<b.f8)→(∀t,t∈l→k≤t.f8∧t.f8≤N)→l.length≤N+1-k
 | [],_,_,_=>Nat.zero_le _
 | t::l,k,h,d=>by
   rw [List.pairwise_cons] at h;have f:=d t List.mem_cons_self;have:=JE l (k+1) h.2 fun u e=>⟨by have:=h.1 u e;omega,(d u (List.mem_cons_of_mem _ e)).2⟩
   simp only [List.length_cons];omega
theorem TksOk.Mz{N:Nat}{l:List PT}(h:TksOk N l):l.length≤N+1:=JE l 0 h.My fun t a=>⟨Nat.zero_le _,(h.len t a).2⟩
section
variable {N : Nat} {c : List PT} (H : TksOk N c) (n : N ≤ 4000) (o : c.length ≤ 4001)
include H n o
theorem Ke(h:List TF)(a6:Nat)(x:PS)(X:Bx c c.length ⟨0,false,0⟩=(h,a6,x))(hx:x.l7=false):
 JT 4000 h∧(∀d U w v,Cy d U w v h→Cy 4000 U w v h)∧(∀t,t∈h→∀s,s∈t.t7→∃a b,Bz c 4000 a b s)∧(∀t,t∈h→t.l8.length+(t.t7.map (Bl 4000)).sum≤4000∧t.t7.length≤4000)∧h.length≤4001∧
 ∀k:List RF,k.map (fun f=>f.name.d9)=h.map (fun t=>t.name.d9)→k.map (fun f=>f.p7.length)=h.map (fun t=>t.l8.length)→Ek h 4000 a6=Jf k N (DD k 4000 h 0 (k,⟨0,0⟩)).2:=by
 have hp:=H.pos;have Z:=Kd H n o (by rw [X];exact hx);rw [X] at Z;obtain ⟨Y,a5,b2⟩:=Z;simp only at Y a5;have D:Cg (GO c 4000) 0 (c.length-1) h:=Y.mono (fun i j t g=>⟨by obtain ⟨K,M,J,m,E,B,u,C,F,r,G⟩:=g.w;refine ⟨K,M,J,m,E,B,u,C,F,?_,G⟩;have b6:=g.top;exact r.low (i0:=0) (j0:=4000) (fun _ _ _ q=>q.lt) (fun a b z _ I q=>Bz.lower 4000 q (by omega)) (Nat.zero_le _) (by omega),g.lt,g.top⟩)
 have b7:=D.le (fun _ _ _ q=>q.lt);have R:∀t,t∈h→∀s,s∈t.t7→∃a b,Bz c 4000 a b s:=by intro t l s A;obtain ⟨i,j,g⟩:=D.each t l;obtain ⟨K,M,J,m,E,B,u,C,F,r,G⟩:=g.w;exact r.each s A
 have Q:∀t,t∈h→t.l8.length+(t.t7.map (Bl 4000)).sum≤4000∧t.t7.length≤4000:=by intro t l;obtain ⟨i,j,g⟩:=D.each t l;obtain ⟨K,M,J,m,E,B,u,C,F,r,G⟩:=g.w;have b6:=g.top;have l1:=C.le;have l2:=JF (f:=Bl 4000) (fun _ _ _ q=>q.M3) r;have l3:=r.le (fun _ _ _ q=>q.lt);rw [u];simp only [List.length_map];exact ⟨by omega,by omega⟩
 have hT:JT 4000 h:=by
  refine ⟨by omega,by decide,fun t l=>?_⟩;obtain ⟨i,j,g⟩:=D.each t l;obtain ⟨K,M,J,m,E,B,u,C,F,r,G⟩:=g.w;refine ⟨by rw [B];exact Nat.le_trans (Gm H _).1 n,fun s A=>?_,fun p a3=>?_,(Q t l).1,(Q t l).2⟩
  ·obtain ⟨a,b,S⟩:=R t l s A;exact S.tok o
  ·rw [u] at a3;obtain ⟨q,_,rfl⟩:=List.mem_map.1 a3;exact ⟨Nat.le_trans (Gm H _).1 n,Nat.le_trans (Gm H _).2 n⟩
 refine ⟨hT,fun d U w v b3=>?_,R,Q,by omega,fun k a2 b5=>?_⟩
 ·obtain ⟨a7,h1,h2,h3,h4⟩:=b3;refine ⟨a7,h1,h2,h3,fun j g g'=>?_⟩;obtain ⟨av,sv,O,P,e3,a8,e4,e5,e6,e7⟩:=h4 j g g';refine ⟨av,sv,O,P,e3,a8,e4,e5,e6,fun m T a9=>?_⟩;obtain ⟨p,q,S⟩:=R h[j] (List.getElem_mem _) _ (List.getElem_mem T);exact S.MZ (e7 m T a9)
 ·have L:=Mn a2 b5;have b0:∀m (hm:m<h.length),Bf (AN h 0 (.map [])) h[m].name.d9=0+m↔Ch (k.map fun f=>f.name.d9) h[m].name.d9 0=((0+m:Nat):Int):=by
   intro m hm;have b1:0≤Ch (h.map fun t=>t.name.d9) h[m].name.d9 0:=(EI _ _ 0).1.2 (List.mem_map.2 ⟨h[m],List.getElem_mem _,rfl⟩);have e:Bf (AN h 0 (.map [])) h[m].name.d9=(Ch (h.map fun t=>t.name.d9) h[m].name.d9 0).toNat:=by unfold Bf;rw [(D4 _ _ h 0 _ isMap_empty).2 (by simp [has_eq]) b1]
   rw [e,a2];omega
  have A:=LL H L D (by omega) 0 ⟨0,0⟩ (k,⟨0,0⟩) b0 ⟨rfl,.inl rfl⟩;rw [b2] at A;unfold Ek Jf;rw [a5];have a0:=L.nm ⟨#[109,97,105,110]⟩;have a1:=L.ar ⟨#[109,97,105,110]⟩;obtain ⟨a4,b4⟩:=A;by_cases y:0≤Ch (k.map fun f=>f.name.d9) ⟨#[109,97,105,110]⟩ 0∧((k.map fun f=>f.p7.length)[(Ch (k.map fun f=>f.name.d9) ⟨#[109,97,105,110]⟩ 0).toNat]?).getD 0=0
  ·have I:(has (AN h 0 (.map [])) (AT ⟨#[109,97,105,110]⟩) && EP h (Bf (AN h 0 (.map [])) ⟨#[109,97,105,110]⟩)==0)=true:=by rw [Bool.and_eq_true,beq_iff_eq];exact ⟨a0.2 y.1,by rw [a1 y.1];exact y.2⟩
   rw [if_pos I,if_pos y]
   exact a4
  ·have I:¬(has (AN h 0 (.map [])) (AT ⟨#[109,97,105,110]⟩) && EP h (Bf (AN h 0 (.map [])) ⟨#[109,97,105,110]⟩)==0)=true:=by rw [Bool.and_eq_true,beq_iff_eq];rintro ⟨q1,q2⟩;have q3:=a0.1 q1;exact y ⟨q3,by rw [←a1 q3];exact q2⟩
   rw [if_neg I,if_neg y,←a4]
   rcases b4 with V | V
   ·simp [Bb,AU,V]
   ·by_cases W:(DP (AN h 0 (.map [])) h 4000 h 0 ⟨0,0⟩).p9=0
    ·simp [Bb,AU,W]
    ·have O:Bb 6 N (DP (AN h 0 (.map [])) h 4000 h 0 ⟨0,0⟩)=DP (AN h 0 (.map [])) h 4000 h 0 ⟨0,0⟩:=by simp [Bb,W]
     have P:AU 6 N (DP (AN h 0 (.map [])) h 4000 h 0 ⟨0,0⟩)=DP (AN h 0 (.map [])) h 4000 h 0 ⟨0,0⟩:=by unfold AU;rw [if_neg (by omega)]
     rw [O,P]
end
theorem BS.Na{A B}{R S:A→B→Prop}{l m}(h:BS R l m)(k:∀a b,b∈m→R a b→S a b):BS S l m:=by
 induction h with
 | nil=>exact .nil
 | cons h _ f=>exact .cons (k _ _ (List.mem_cons_self ..) h) (f (fun a b d=>k a b (List.mem_cons_of_mem _ d)))
section
variable {N : Nat} {c : List PT} (H : TksOk N c) (e : DigOk c) (g : N ≤ 4000) (j : c.length ≤ 4001)
include H
theorem Im:∀(m:Nat) (y:St) (a:List FS) (b:List RF),Fq c.length y a.length→UL c.length a→Fq c.length (BU (c.map Ak) (2*c.length) m y a b).2.1 (BU (c.map Ak) (2*c.length) m y a b).2.2.length∧UL c.length (BU (c.map Ak) (2*c.length) m y a b).2.2
 | 0,y,a,b,d,k=>by rw [BU];exact ⟨d,k⟩
 | m+1,y,a,b,d,k=>by
   have f:(Ai (c.map Ak) (c.length-1)).sort=0:=by rw [AY];simp [Ak,H.end_,BI]
   rw [BU];split
   ·have s:=(Il f (2*c.length) b.length y a d).1;refine Im m _ _ _ s ?_;unfold FC;simp only;have E:=AR (c.map Ak);have C:∀(L:List UInt8) (x:St),x.i9<c.length→(Ao (c.map Ak) L x).i9<c.length:=fun L x h=>Bo rfl f h
    have p:=(E [102,110] y).trans (Dz (c.map Ak) 1 (Ao (c.map Ak) [102,110] y));have n:(Bc (c.map Ak) 1 (Ao (c.map Ak) [102,110] y)).2.i9<c.length:=C5 (q:=(Bc (c.map Ak) 1 (Ao (c.map Ak) [102,110] y)).1) rfl (by decide) f (C _ _ d.1);generalize (Bc (c.map Ak) 1 (Ao (c.map Ak) [102,110] y)).2=i at*;have r:=p.trans ((E [40] i).trans (DI (c.map Ak) (Ao (c.map Ak) [40] i)));have o:(Bv (c.map Ak) (Ao (c.map Ak) [40] i)).2.i9<c.length:=DB (q:=(Bv (c.map Ak) (Ao (c.map Ak) [40] i)).1) rfl f (C _ _ n);generalize (Bv (c.map Ak) (Ao (c.map Ak) [40] i)).2=l at*;have t:=d.t6 (r.trans (E [123] l)) (C [123] l o);exact ((KB (by simp) f (2*c.length)).1 b.length _ a [] t k).1
   ·exact ⟨d,k⟩
include e g j
theorem Ha(h:List TF)(C:Nat)(x:PS)(E:Bx c c.length ⟨0,false,0⟩=(h,C,x))(k:List RF)(y:St)(D:List FS)(F:BU (c.map Ak) (2*c.length) c.length ⟨0,none,0,0⟩ [] []=(k,y,D)):
 (x.l7=true→y.l6=some x.r8)∧
 (x.l7=false→y.l6=none∧Mf 4000 k D h∧JT 4000 h∧(∀d U w v,Cy d U w v h→Cy 4000 U w v h)∧Ek h 4000 C=Jf k N (DD k 4000 h 0 (k,⟨0,0⟩)).2):=by
 have Q:=H.pos;obtain ⟨o,z⟩:=Lz H e;rw [E,F] at o z;simp only at o z;refine ⟨fun n=>?_,fun n=>?_⟩
 ·rcases o with a | ⟨p,a,b⟩
  ·rw [a.1] at n;cases n
  ·rw [b,a.2.1]
 have I:y.l6=none:=(Ky o n).2.1;have hrel:=z I;obtain ⟨J,R,M,G,T,L⟩:=Ke H g j h C x E n
 have P:k.map (fun f=>f.name.d9)=h.map (fun t=>t.name.d9):=by
  apply List.ext_getElem
  ·simp [hrel.len]
  ·intro i l m;simp only [List.getElem_map,(hrel.each i (by simpa using l) (by simpa using m)).name];rfl
 have S:k.map (fun f=>f.p7.length)=h.map (fun t=>t.l8.length):=by
  apply List.ext_getElem
  ·simp [hrel.len]
  ·intro i l m;simp only [List.getElem_map,(hrel.each i (by simpa using l) (by simpa using m)).p7,List.length_map]
 have s:=Im H c.length ⟨0,none,0,0⟩ [] [] ⟨Q,Nat.zero_le _,Nat.zero_le _,Nat.zero_le _,fun _=>⟨Nat.le_refl _,Nat.le_refl _,Nat.le_refl _⟩⟩ (fun u B=>by cases B);rw [F] at s;simp only at s;refine ⟨I,⟨hrel.len,by rw [hrel.len];omega,by have:=s.1.2.2.2.1;omega,fun u B=>?_,fun i l m=>?_,by decide⟩,J,R,L k P S⟩
 ·have:=s.2 u B;omega
 ·have r:=hrel.each i l m;have A:h[i]∈h:=List.getElem_mem _;refine ⟨r.name,r.p7,r.p8.Na (fun a b K q=>?_),r.r6,?_,?_⟩
  ·obtain ⟨p,V,O⟩:=M _ A b K;exact O.flat q
  ·rw [r.p8.length];have:=(G _ A).2;omega
  ·have:=(G _ A).1;omega
end
end Go.Proofs.YtmaankfbhhbeoaaGreatDoor
