/- One of the texts of the proof: AnQ AnR AnS AnT. -/
import Derived.Test.YtegmjgjkcdbmkaaGreatDoorG28
import Derived.WideKeyEntry
set_option maxRecDepth 100000
set_option maxHeartbeats 4000000
namespace Go.Proofs.YtegmjgjkcdbmkaaGreatDoor
open Go.RowKit Go.Maps
theorem Hn.get{w g n m}{l:List Rl}(h:Hn 0 w (.slice (some ⟨g,0,none⟩) n m) l){i:Nat}(r:i<l.length):
 ∃a,(∀j,j<9→w.cell? ⟨g,i*9+j,none⟩=(Nd l[i] a)[j]?)∧AD 0 w a l[i].s.args:=by
 obtain ⟨c,k,u,f⟩:=h;have s:=Aq k;subst s;have d:i<c.length:=by omega
 have p:∀x,x∈c→x.length=9:=by intro x t;obtain ⟨j,b,rfl⟩:=List.mem_iff_getElem.1 t;obtain ⟨_,e,_⟩:=f j b (by omega);rw [e];rfl
 obtain ⟨a,e,o⟩:=f i d r;refine ⟨a,fun j b=>?_,o⟩;have q:=k.cellAt (i*9+j) (by omega);rw [q,Cz p d b,e]
theorem Qe(P u E J z C o v w)(A:AnOk P z C)(h:Dn P u E J z C o v w)(c Y:Nat)(m:Nat→Prop)(hs:A9 Y m w)(hn:¬o.own u Y)(g1:v.s.le (least P))(hm:∀t,m t→v.s.I c t)(hW:∀r,v.W c r→Ly P r∧A2 r∧r.at=c)(hl:(o.rl c).length≤100000)(hc:A8 P z c):
 Calls Tryz.prog 97 #[.pointer (some ⟨u,0,none⟩),.int .i64 c,.map (some Y)] w fun e w'=>e=.returned (.tuple #[])∧Nx P u E J z C o v w w' (fun v'=>(∀b t,v.s.F c b→m t→v'.s.I b t)∧∀r t,v.W c r→m t→EZ P r t v'.s):=by
 obtain ⟨kf,g0⟩:=(h.r.d0 c 3 (.inr rfl)).2 hc;have lc:c<16400:=hc.lt A.bA A.ok.l8 A.lp;have p7:=h.r.s9.cell 7;have e4:=Ae h.r.s9;simp only [Gf,dM,dJ,dK] at p7;have l3:=((h.r.mp 3 (by omega)).look Dw Tryz.underlying91 (Ca w) (k:=c) (by omega) false).2 kf g0;have g5:=(h.r.st 3 c kf g0).iff (m':=v.s.F c) fun n=>by simp [BF]
 unfold GG at l3;have k0:=hs.lt;have HA:=Aa A;have H:=Aa h;have B:=Aa g5;have h8:=Aa hs;have c9:=Aa g1;have HM:=Aa hm;have HW:=Aa hW;have e9:=Aa hn;clear h g5 hs g1 hm hW hn A;go_enter Tryz.func97,Tryz.ntmps97;go_wp2_with fail;refine (Df kf (v.s.F c) w B.o H.o.tb H.o.tl).mono ?_;rintro e w1 ⟨nv,l,rfl,R,a3,W,d⟩;obtain ⟨na,nl,nc,rfl⟩:=Ad R;have e2:=Aq R;subst e2;have a9:=Aa (H.o.i9 d);have h5:=Aa (Ao R (Nat.zero_le _));have h9:=Aa (h8.o.O d (fun q=>q));have j2:l.length≤19200:=C8 19200 l a3 fun x hx=>by obtain ⟨_,_,e5⟩:=B.o;exact e5.lt ((W x).1 hx)
 have e7:=Aa W;have j6:=d.size;have f0:=Aa d;have SW:dN (Dp P u E J z C o o v w1 w1):=⟨a9.o.r,fun _ q=>.inl q,rfl,Ab.refl _ _⟩;clear R a3 W d B p7 l3 e4;go_wp2_with fail;go_loopw [21] (fun i wr=>∃(k:Nat) (d:So) (y:Sv),k≤l.length∧i=.int .i64 k∧dN (Dp P u E J z C o d y w1 wr)∧dN (v.up y∧(∀X,Bs P X v→Bs P X y)∧∀j b t,j<k→l[j]? =some b→m t→y.s.I b t)) (fun i _=>l.length-(intOf i).toNat)
 case atStart=>exact ⟨0,o,v,by omega,rfl,SW,⟨.rf _,fun _ q=>q,fun j a _ q=>by omega⟩⟩
 case round=>
  clear SW;obtain ⟨k,d,y,hk,rfl,S,U⟩:=hrel;have a1:=a9.o.next S.o;have i9:¬d.own u Y:=fun q=>(S.o.ow _ q).elim e9.o fun q=>by omega
  have a8:=h9.o.O S.o.on e9.o;by_cases V:k<l.length
  ·have a6:=a9.o.r.ints h5.o S.o.on;obtain ⟨gl,rfl⟩:=AA a6 (by omega);have a2:=a6.cellAt k (by omega);rw [List.getElem?_map,List.getElem?_eq_getElem V] at a2;simp only [Option.map_some] at a2;have j0:=(a6.lt gl rfl).2;have hF:=(e7.o l[k]).1 (List.getElem_mem _);have d5:=c9.o.f _ _ hF;have d6:=(Xg HA.o d5).2;have j9:=d6.lt HA.o.bA HA.o.ok.l8 HA.o.lp;obtain ⟨kb,d9⟩:=(a1.r.d0 l[k] 0 (.inl rfl)).2 d6;have i6:Y≠kb:=fun q=>i9 (q▸.inr (.inr (.inl ⟨0,_,d9⟩)))
   have e0:(k:Int)<(l.length:Int):=by omega
   have d8:k+1≤l.length:=V;have HG:=Aa (List.getElem?_eq_getElem V);have g8:=Aa d5;have h4:=Aa d9;have a0:=Aa a1;have a5:=Aa a8;clear a6 hF d5 d6 d9 a1 a8;generalize l[k]=x at*;go_wp2_with fail;refine (E7 P u E J z C d y wr x kb Y m a0.o.r h4.o a5.o (by omega) i6).mono ?_;rintro e Z ⟨rfl,f,s2⟩;have Q:=Aa (S.o.trans s2);have K:dN (v.up (y.give x m)∧(∀X,Bs P X v→Bs P X (y.give x m))∧∀j b t,j<k+1→l[j]? =some b→m t→(y.give x m).s.I b t):=⟨U.o.1.tr (Sv.give_up _ _ _),fun X q=>(U.o.2.1 X q).give fun t I=>(CU P).flow c x t g8.o (c9.o.i c t (HM.o t I)),fun j b t M G I=>by
    by_cases e:j=k
    ·subst e;rw [HG.o] at G;cases G;exact .inr ⟨rfl,I⟩
    ·exact .inl (U.o.2.2 j b t (by omega) G I)⟩
   clear s2 U S;go_wp2_with fail;go_roundw
   case rel=>exact ⟨k+1,f,_,d8,by go_num,Q,K⟩
   case measure=>simp [intOf];omega
  ·have e:k=l.length:=by omega
   subst e;have e0:decide ((l.length:Int)<(l.length:Int))=false:=by simp
   have a0:=Aa a1;have a5:=Aa a8;clear a1 a8;go_wp2_with fail;refine (Df Y m wr a5.o a0.o.tb a0.o.tl).mono ?_;rintro e Z ⟨nv,s,rfl,R,a3,W,f⟩;obtain ⟨k1,k4,k2,rfl⟩:=Ad R;have e2:=Aq R;subst e2;have j3:s.length≤19200:=C8 19200 s a3 fun x hx=>by obtain ⟨_,_,e5⟩:=a5.o;exact e5.lt ((W x).1 hx)
   have T:=Aa (a0.o.i9 f);have h6:=Aa (Ao R (Nat.zero_le _));have e8:=Aa W;have j7:=f.size;have i0:=Aa f;have e3:d.rl=o.rl:=congrArg Prod.fst S.o.rl;have j4:(d.rl c).length≤100000:=by rw [e3];exact hl
   have f9:=T.o.r.fwAt c;obtain ⟨fa,fl,fc,d7,i3⟩:∃a l cc,DV d c=.slice a l cc∧l=(d.rl c).length:=by obtain ⟨cs,q,_⟩:=f9;obtain ⟨a,l,cc,e⟩:=Ad q;rw [e] at q;exact ⟨a,l,cc,e,Aq q⟩
   subst i3;have lk:(Instr.lookup 142 (.map (some (d.om 5))) (.int .i64 c) false).run Tryz.prog Z=.ok (.slice fa (d.rl c).length fc) Z:=by
    rw [←d7];have q:=T.o.r.fm.look IB Tryz.underlying142 (Ge Z) (k:=c) (by omega) false;unfold DV;cases hq:d.fw c with
    | none=>exact q.1 hq
    | some t=>exact q.2 t hq
   have p8:=T.o.r.s9.cell 8;have e4:=Ae T.o.r.s9;simp only [Gf,dM,dJ,dK] at p8;have SW:dN (Dp P u E J z C d d y Z Z):=⟨T.o.r,fun _ q=>.inl q,rfl,Ab.refl _ _⟩;have f1:=Aa e3;have g9:=Aa d7;clear R a3 W f e3 d7 f9;go_wp2_with fail;go_loopw [39] (fun i wr=>∃(k:Nat) (f:So) (D:Sv),k≤(d.rl c).length∧i=.int .i64 k∧dN (Dp P u E J z C d f D Z wr)∧dN (y.up D∧(∀X,Bs P X y→Bs P X D)∧∀j r t,j<k→(d.rl c)[j]? =some r→m t→EZ P r t D.s)) (fun i _=>(d.rl c).length-(intOf i).toNat)
   case atStart=>exact ⟨0,d,y,by omega,rfl,SW,⟨.rf _,fun _ q=>q,fun j a _ q=>by omega⟩⟩
   case round=>
    clear SW p8 lk e4;obtain ⟨k,f,D,hk,rfl,Q,K⟩:=hrel;have d3:=T.o.next Q.o;by_cases V:k<(d.rl c).length
    ·have a4:=d3.r.fwAt c;have q1:f.rl=d.rl:=congrArg Prod.fst Q.o.rl;have q2:f.fw=d.fw:=congrArg Prod.snd Q.o.rl;have q3:DV f c=DV d c:=by unfold DV;rw [q2]
     rw [q1,q3,g9.o] at a4;obtain ⟨g,rfl⟩:∃g,fa=some ⟨g,0,none⟩:=by obtain ⟨cs,q,_⟩:=a4;exact AA q (by omega)
     have lg:g<wr.heap.size:=by obtain ⟨cs,q,_⟩:=a4;exact (q.lt g rfl).2
     obtain ⟨av,L,hI⟩:=a4.get V;have c0:=L 0 (by omega);have c1:=L 1 (by omega);have c2:=L 2 (by omega);have c3:=L 3 (by omega);have c4:=L 4 (by omega);have c5:=L 5 (by omega);have c6:=L 6 (by omega);have c7:=L 7 (by omega);have c8:=L 8 (by omega);simp only [Nd,Hk,dJ,dK,Nat.add_zero] at c0 c1 c2 c3 c4 c5 c6 c7 c8;have hv:v.W c (d.rl c)[k]:=(H.o.r.fvr c _).2 (by rw [←f1.o];exact List.getElem_mem _);have g4:=HW.o _ hv;have HG:=Aa (List.getElem?_eq_getElem V);have e0:(k:Int)<((d.rl c).length:Int):=by omega
     have d8:k+1≤(d.rl c).length:=V;obtain ⟨aa,al,ac,rfl⟩:=Ad hI;have i2:=Aq hI;subst i2;have HI:=Aa hI;have d1:=Aa g4;have e6:=Aa d3;clear a4 L hI hv g4 d3 q1 q2 q3;generalize (d.rl c)[k]=r at*;have o5:Ab (fun _=>False) wr (wr.alloc (.cells (Hi r (.slice aa r.s.args.length ac)) 208)):=(Ab.refl _ wr).alloc _;have f8:=Ak.new wr (Hi r (.slice aa r.s.args.length ac)) 208;have d4:=e6.o.i9 o5;have f4:=Ac HI.o o5 (fun _ _ q=>q);have f7:=Ac (T.o.r.ints h6.o Q.o.on) o5 (fun _ _ q=>q);have i8:¬f.own u wr.heap.size:=fun q=>by have:=e6.o.r.ownLt q;omega
     have j5:(wr.alloc (.cells (Hi r (.slice aa r.s.args.length ac)) 208)).heap.size=wr.heap.size+1:=by simp
     go_upto_block 4 with fail;generalize wr.alloc (.cells (Hi r (.slice aa r.s.args.length ac)) 208)=W5 at*;have f2:dN (Dp P u E J z C f f D W5 W5):=⟨d4.r,fun _ q=>.inl q,rfl,Ab.refl _ _⟩;have b9:=Aa d4;have h1:=Aa f4;have h7:=Aa f7;have g6:=Aa f8;have i1:=Aa o5;clear c0 c1 c2 c3 c4 c5 c6 c7 c8 d4 f4 f7 f8 o5 lg;generalize wr.heap.size=rb at*;go_wp2_with fail;go_loopw [45] (fun i wi=>∃(p:Nat) (o3:So) (N:Sv),p≤s.length∧i=.int .i64 p∧dN (Dp P u E J z C f o3 N W5 wi)∧dN (D.up N∧(∀X,Bs P X D→Bs P X N)∧∀j t,j<p→s[j]? =some t→EZ P r t N.s)) (fun i _=>s.length-(intOf i).toNat)
     case atStart=>exact ⟨0,f,D,by omega,rfl,f2,⟨.rf _,fun _ q=>q,fun j a q=>by omega⟩⟩
     case round=>
      clear f2;obtain ⟨p,o3,N,j1,rfl,B,O⟩:=hrel;have f3:=b9.o.next B.o;by_cases e1:p<s.length
      ·have a7:=b9.o.r.ints h7.o B.o.on;have f5:=b9.o.r.ints h1.o B.o.on;have F:=g6.o.O B.o.on i8;obtain ⟨gl,rfl⟩:=AA a7 (by omega);have a2:=a7.cellAt p (by omega);rw [List.getElem?_map,List.getElem?_eq_getElem e1] at a2;simp only [Option.map_some] at a2;have j0:=(a7.lt gl rfl).2;have g2:=(e8.o s[p]).1 (List.getElem_mem _);have f6:(least P).I r.at s[p]:=by rw [d1.o.2.2];exact c9.o.i _ _ (HM.o _ g2)
       have h0:=Aa (List.getElem?_eq_getElem e1);have i5:(p:Int)<(s.length:Int):=by omega
       have i4:p+1≤s.length:=e1;have b0:=F.cell 0;have b1:=F.cell 1;have b2:=F.cell 2;have b3:=F.cell 3;have b4:=F.cell 4;have b5:=F.cell 5;have b6:=F.cell 6;have b7:=F.cell 7;have b8:=F.cell 8;have j8:=Ae F;simp only [dM,dJ,dK] at b0 b1 b2 b3 b4 b5 b6 b7 b8;have g7:=Aa f3;have h2:=Aa f5;have h3:=Aa f6;clear a7 f5 F f3 g2 f6;generalize s[p]=x at*;go_wp2_with fail;refine (PM P u E J z C o3 N wr HA.o g7.o r x (.slice aa r.s.args.length ac) h2.o d1.o.1 d1.o.2.1 h3.o).mono ?_;rintro e w7 ⟨rfl,o7,v7,s7,u7,i7,q7⟩;have d2:=Aa (B.o.trans s7);have d0:dN (D.up v7∧(∀X,Bs P X D→Bs P X v7)∧∀j t,j<p+1→s[j]? =some t→EZ P r t v7.s):=⟨O.o.1.tr u7,fun X q=>i7 X (O.o.2.1 X q),fun j t M G=>by
        by_cases e:j=p
        ·subst e;rw [h0.o] at G;cases G;exact q7
        ·exact (O.o.2.2 j t (by omega) G).up u7.le.s⟩
       clear s7 u7 i7 q7 O B;go_wp2_with fail;go_roundw
       case rel=>exact ⟨p+1,o7,v7,i4,by go_num,d2,d0⟩
       case measure=>simp [intOf];omega
      ·have e:p=s.length:=by omega
       subst e;have i5:decide ((s.length:Int)<(s.length:Int))=false:=by simp
       have d2:=Aa ((Q.o.i9 i1.o).trans B.o);have d0:dN (y.up N∧(∀X,Bs P X y→Bs P X N)∧∀j r t,j<k+1→(d.rl c)[j]? =some r→m t→EZ P r t N.s):=⟨K.o.1.tr O.o.1,fun X q=>O.o.2.1 X (K.o.2.1 X q),fun j r' t M G I=>by
        by_cases e:j=k
        ·subst e;rw [HG.o] at G;cases G;obtain ⟨i,hi,e⟩:=List.mem_iff_getElem.1 ((e8.o t).2 I);exact O.o.2.2 i t hi (by rw [List.getElem?_eq_getElem hi,e])
        ·exact (K.o.2.2 j r' t (by omega) G I).up O.o.1.le.s⟩
       clear K Q O B;go_wp2_with fail;go_roundw
       case rel=>exact ⟨k+1,o3,N,d8,by go_num,d2,d0⟩
       case measure=>simp [intOf];omega
    ·have e:k=(d.rl c).length:=by omega
     subst e;have e0:decide (((d.rl c).length:Int)<((d.rl c).length:Int))=false:=by simp
     have HX:dN (Nx P u E J z C o v w wr (fun v'=>(∀b t,v.s.F c b→m t→v'.s.I b t)∧∀r t,v.W c r→m t→EZ P r t v'.s)):=by
      have t1:=(S.o.i9 i0.o).trans Q.o;refine ⟨f,D,⟨t1.r,fun j M=>(t1.ow j M).imp id fun q=>Nat.le_trans f0.o.size q,t1.rl,(f0.o.mono (fun _ _ q=>q.elim)).trans t1.on⟩,U.o.1.tr K.o.1,fun X q=>K.o.2.1 X (U.o.2.1 X q),fun b t hF I=>?_,fun r t hr I=>?_⟩
      ·obtain ⟨j,M,e⟩:=List.mem_iff_getElem.1 ((e7.o b).2 hF);exact K.o.1.le.s.i _ _ (U.o.2.2 j b t M (by rw [List.getElem?_eq_getElem M,e]) I)
      ·have g3:=(H.o.r.fvr c r).1 hr;rw [←f1.o] at g3;obtain ⟨j,M,e⟩:=List.mem_iff_getElem.1 g3;exact K.o.2.2 j r t M (by rw [List.getElem?_eq_getElem M,e]) I
     go_wp2_with fail;go_end0;exact ⟨rfl,HX.o⟩
structure Fm(P:List PFn)(g:Nat)(m:Value)(n p l:Nat)(o o':So)(v':Sv)(w w':World):Prop where
 e:Dn P g m n p l o' v' w'
 ow:∀k,o'.own g k→o.own g k∨w.heap.size≤k
 on:Ab (o.own g) w w'
section
variable {P : List PFn} {g : Nat} {m : Value} {n p l : Nat} {o x A : So} {v B C : Sv} {w s y : World}
theorem Fm.rf(h:Dn P g m n p l o v w):Fm P g m n p l o o v w w:=⟨h,fun _ q=>.inl q,Ab.refl _ _⟩
theorem Fm.more(h:Fm P g m n p l o x B w s)(r:Bp P g m n p l A C y)(b:∀k,A.own g k→x.own g k∨s.heap.size≤k)(a:Ab (x.own g) s y):Fm P g m n p l o A C w y:=
 ⟨h.e.nxt r b a,fun k c=>(b k c).elim (h.ow k) fun q=>.inr (Nat.le_trans h.on.size q),h.on.thn a fun j d q=>(h.ow j q).elim id fun r=>absurd r (by omega)⟩
theorem Fm.i9(h:Fm P g m n p l o x B w s)(k:Ab (fun _=>False) s y):Fm P g m n p l o x B w y:=⟨h.e.i9 k,h.ow,h.on.bI k⟩
structure Ph(P:List PFn)(o:So)(v:Sv)(D:Rl→Prop)(cnt:Nat):Prop where
 raw:v.raw
 ok:Bs P (fun _ _=>False) v
 w:∀a q,v.W a q→Ly P q∧A2 q∧q.at=a
 d:∀r,D r→Mz P r v.s∧(A2 r→v.W r.at r)
 len:∀c,(o.rl c).length≤cnt
theorem Ph.next{o e v i D d r}(h:Ph P o v D d)(k:aC P g m n p l o e v i w s r)(t:Ly P r){E:Rl→Prop}(j:∀q,E q→D q∨q=r):Ph P e i E (d+1):=by
 refine ⟨k.raw h.raw,k.ok _ h.raw h.ok,fun a q b=>?_,fun q b=>?_,fun c=>Nat.le_trans (k.len c) (Nat.succ_le_succ (h.len c))⟩
 ·rcases k.w2 a q b with z | ⟨u,F,G⟩
  ·exact h.w a q z
  ·rw [G];exact ⟨t,u,F.symm⟩
 ·rcases j q b with z | rfl
  ·exact ⟨(h.d q z).1.up k.le,fun f=>k.w1 _ _ ((h.d q z).2 f)⟩
  ·exact ⟨k.beg,k.fol⟩
structure Yo(P:List PFn)(o:So)(v:Sv):Prop where
 ok:Bs P (fun _ _=>False) v
 w:∀a q,v.W a q→Ly P q∧A2 q∧q.at=a
 b:∀r,Ly P r→Mz P r v.s∧(A2 r→v.W r.at r)
 len:∀c,(o.rl c).length≤100000
theorem Yo.later{o i v d}(h:Yo P o v)(u:v.took.up d)(k:Bs P (fun _ _=>False) d)(b:i.rl=o.rl):Yo P i d:=
 ⟨k,fun a q e=>h.w a q (by have:=u.le.w;rw [this] at e;exact e),fun r b=>⟨(h.b r b).1.up u.le.s,fun f=>by rw [u.le.w];exact (h.b r b).2 f⟩,fun c=>by rw [b];exact h.len c⟩
theorem Dn.O(h:Dn P g m n p l o v w){X:Nat→Prop}(c:Ab X w s)(f:∀k,X k→¬o.own g k)(d:∀k a t b,X k→w.heap[k]? ≠some (.cells a t b))(e:¬X 0):Dn P g m n p l o v s:=
 ⟨h.r.O c f (fun k a b q=>d k a _ b q),h.pl.O c (fun k a t b q r=>absurd r (d k a t b q)),h.tb.O c e h.tl,Nat.lt_of_lt_of_le h.tl c.size,h.tn⟩
theorem Dn.took(h:Dn P g m n p l o v w){a}(r:w.heap.size≤a)(j:Bv Hb Ha a (fun _=>none) s)(f:Ak g (Gf (o.tk a) m n p l) 144 s)(c:Ab (fun k=>k=g) w s):Dn P g m n p l (o.tk a) v.took s∧∀k,(o.tk a).own g k→o.own g k∨k=a:=by
 have d:∀k,(o.tk a).own g k→o.own g k∨k=a:=fun k b=>by
  rcases b with q | ⟨t,u,q⟩ | ⟨t,i,q⟩ | q
  ·exact .inl (.inl q)
  ·by_cases e:t=2
   ·rw [e,So.tk_2] at q;exact .inr q
   ·rw [So.tk_om e] at q;exact .inl (.inr (.inl ⟨t,u,q⟩))
  ·exact .inl (.inr (.inr (.inl ⟨t,i,(So.tk_bk q).2⟩)))
  ·exact .inl (.inr (.inr (.inr q)))
 exact ⟨h.nxt (h.r.took r j f c) (fun k b=>(d k b).imp id fun q=>by omega) (c.mono fun k _ q=>.inl q),d⟩
end
theorem Yo.done{P:List PFn}{g:Nat}{m:Value}{n p l:Nat}{o:So}{v:Sv}{w:World}(h:Yo P o v)(k:Bp P g m n p l o v w)(b:∀c,o.bk 2 c=none):v.s.le (least P)∧(least P).le v.s:=by refine h.ok.done (fun c t q=>?_) (fun r a=>(h.b r a).1) (fun r a=>(h.b r a).2);obtain ⟨d,e⟩:=k.ins 2 c t (by omega) (Kq.2 q);rw [b c] at e;cases e
theorem TE(P d fv E D C o v w)(A:AnOk P D C)(h:Dn P d fv E D C o v w)(h0:Ph P o v (fun _=>False) 0):
 Calls Tryz.prog 59 #[.pointer (some ⟨d,0,none⟩)] w fun e w'=>e=.returned (.tuple #[])∧∃o' v',Fm P d fv E D C o o' v' w w'∧v'.s.le (least P)∧(least P).le v'.s:=by
 obtain ⟨L,fl,H,j8,j7⟩:∃a l c,fv=.slice a l c∧l=P.length:=by obtain ⟨cs,q,_⟩:=h.pl;obtain ⟨a,l,c,e⟩:=Ad q;rw [e] at q;exact ⟨a,l,c,e,Aq q⟩
 subst j7;subst j8;have l2:=A.bA;have p0:=h.r.s9.cell 0;have b0:=Ae h.r.s9;simp only [Gf,dM,dJ] at p0;have Q:=Aa A;have B0:dN (Fm P d (.slice L P.length H) E D C o o v w w):=Fm.rf h;have H0:=Aa h0;clear h A h0;go_enter Tryz.func59,Tryz.ntmps59;go_wp2_with fail;go_loopw [14] (fun i wr=>∃(k:Nat) (K:So) (O:Sv),k≤P.length∧i=.int .i64 k∧dN (Fm P d (.slice L P.length H) E D C o K O w wr)∧dN (Ph P K O (fun r=>Ly P r∧r.f<k) (k*4001))) (fun i _=>P.length-(intOf i).toNat)
 case atStart=>exact ⟨0,o,v,by omega,rfl,B0,⟨H0.o.raw,H0.o.ok,H0.o.w,fun r q=>by omega,fun c=>by have:=H0.o.len c;omega⟩⟩
 case round=>
  clear B0 H0 p0 b0;obtain ⟨k,K,O,hk,rfl,p,y⟩:=hrel;by_cases a1:k<P.length
  ·obtain ⟨gf,rfl⟩:∃g,L=some ⟨g,0,none⟩:=by obtain ⟨cs,q,_⟩:=p.o.e.pl;exact AA q (by omega)
   have l0:gf<wr.heap.size:=by obtain ⟨cs,q,_⟩:=p.o.e.pl;exact (q.lt gf rfl).2
   obtain ⟨vv,sv,f1,_,a9⟩:=p.o.e.pl.get a1
   obtain ⟨sa,sc,rfl,d1⟩:=a9.form
   have c3:=f1 3 (by omega)
   simp only [MR,dJ,dK] at c3
   have c9:Ap P k=P[k]:=by unfold Ap;rw [List.getElem?_eq_getElem a1];rfl
   rw [←c9] at c3 a9 d1
   have p0:=p.o.e.r.s9.cell 0
   have b0:=Ae p.o.e.r.s9
   simp only [Gf,dM,dJ] at p0
   have l5:=Q.o.ok.many k
   have k2:(k:Int)<(P.length:Int):=by omega
   have k1:k+1≤P.length:=a1
   have l1:=Aa c9
   have B1:dN (Fm P d (.slice (some ⟨gf,0,none⟩) P.length H) E D C o K O w wr):=p.o
   have Q1:dN (Ph P K O (fun r=>Ly P r∧(r.f<k∨(r.f=k∧∃j,j<0∧(Ap P k).b9[j]? =some r.s))) (k*4001+0)):=⟨y.o.raw,y.o.ok,y.o.w,fun r q=>by
    rcases q with ⟨q1,Y | ⟨_,j,Y,_⟩⟩
    ·exact y.o.d r ⟨q1,Y⟩
    ·omega,fun c=>y.o.len c⟩
   have j3:=Aa a9
   have S1:dN (Fm P d (.slice (some ⟨gf,0,none⟩) P.length H) E D C K K O wr wr):=Fm.rf p.o.e
   have j1:=Aa d1
   clear f1 c9 p y a9 d1
   go_wp2_with fail
   clear p0 b0 c3 l0
   go_loopw [27] (fun i wi=>∃(j:Nat) (b:So) (f:Sv),j≤(Ap P k).b9.length∧i=.int .i64 j∧dN (Fm P d (.slice (some ⟨gf,0,none⟩) P.length H) E D C K b f wr wi)∧dN (Ph P b f (fun r=>Ly P r∧(r.f<k∨(r.f=k∧∃i,i<j∧(Ap P k).b9[i]? =some r.s))) (k*4001+j))) (fun i _=>(Ap P k).b9.length-(intOf i).toNat)
   case atStart=>exact ⟨0,K,O,by omega,rfl,S1,Q1⟩
   case round=>
    obtain ⟨j,b,f,hj,rfl,Z,W⟩:=hrel;by_cases b7:j<(Ap P k).b9.length
    ·obtain ⟨gs,rfl,h8⟩:=j1.o (by omega);have h2:=j3.o.O Z.o.on S1.o.e.r.noPlan;have m4:gs<wr.heap.size:=Nat.lt_of_lt_of_le h8 Z.o.on.size;obtain ⟨av,S,hI⟩:=h2.get b7;have c0:=S 0 (by omega);have c1:=S 1 (by omega);have c2:=S 2 (by omega);have c3:=S 3 (by omega);have c4:=S 4 (by omega);have c5:=S 5 (by omega);have c6:=S 6 (by omega);have c7:=S 7 (by omega);simp only [Hk,dJ,dK,Nat.add_zero] at c0 c1 c2 c3 c4 c5 c6 c7;have f7:(Ap P k).b9[j]∈(Ap P k).b9:=List.getElem_mem _;have HG:=Aa (List.getElem?_eq_getElem b7);have k0:(j:Int)<((Ap P k).b9.length:Int):=by omega
     have j9:j+1≤(Ap P k).b9.length:=b7;obtain ⟨aa,al,ac,rfl⟩:=Ad hI;have j5:=Aq hI;subst j5;have HI:=Aa hI;have d9:=Aa f7;clear h2 S hI f7 S1 Q1 h8;generalize (Ap P k).b9[j]=s at*;have o5:Ab (fun _=>False) wr (wr.alloc (.cells (Hk s (.slice aa s.args.length ac)).toArray 190)):=(Ab.refl _ wr).alloc _;have e4:=Z.o.i9 o5;have e9:=Ac HI.o o5 (fun _ _ q=>q);have d4:=Aa e4;have h9:=Aa e9;clear e4 e9 o5;go_wp2_with fail;refine (Se P d _ E D C b f _ Q.o d4.o.e ⟨k,s⟩ (.slice aa s.args.length ac) h9.o ⟨a1,d9.o⟩ (fun c=>by have:=W.o.len c;omega)).mono ?_;rintro e w6 ⟨rfl,o6,v6,b6⟩;have b4:=Aa (d4.o.more b6.so b6.ow b6.on);have b3:dN (Ph P o6 v6 (fun r=>Ly P r∧(r.f<k∨(r.f=k∧∃i,i<j+1∧(Ap P k).b9[i]? =some r.s))) (k*4001+(j+1))):=W.o.next b6 ⟨a1,d9.o⟩ fun q hq=>by
      rcases hq with ⟨q1,Y | ⟨Y,i,q3,q4⟩⟩
      ·exact .inl ⟨q1,.inl Y⟩
      ·by_cases e:i=j
       ·subst e;rw [HG.o] at q4;refine .inr ?_;obtain ⟨qf,qs⟩:=q;simp only [Option.some.injEq] at Y q4;rw [Y,q4]
       ·exact .inl ⟨q1,.inr ⟨Y,i,by omega,q4⟩⟩
     clear b6;go_wp2_with fail;go_roundw
     case rel=>exact ⟨j+1,o6,v6,j9,by go_num,b4,b3⟩
     case measure=>simp [intOf];omega
    ·have e:j=(Ap P k).b9.length:=by omega
     subst e;have k0:decide (((Ap P k).b9.length:Int)<((Ap P k).b9.length:Int))=false:=by simp
     have b4:=Aa (B1.o.more Z.o.e.r Z.o.ow Z.o.on);have b3:dN (Ph P b f (fun r=>Ly P r∧r.f<k+1) ((k+1)*4001)):=⟨W.o.raw,W.o.ok,W.o.w,fun r T=>by
      refine W.o.d r ⟨T.1,?_⟩;by_cases e:r.f=k
      ·refine .inr ⟨e,?_⟩;have:=T.1.2;rw [e] at this;obtain ⟨i,hi,e2⟩:=List.mem_iff_getElem.1 this;exact ⟨i,hi,by rw [List.getElem?_eq_getElem hi,e2]⟩
      ·exact .inl (by have:=T.2;omega),fun c=>by have:=W.o.len c;omega⟩
     clear Z W S1 Q1;go_wp2_with fail;go_roundw
     case rel=>exact ⟨k+1,b,f,k1,by go_num,b4,b3⟩
     case measure=>simp [intOf];omega
  ·have e:k=P.length:=by omega
   subst e;have k2:decide ((P.length:Int)<(P.length:Int))=false:=by simp
   have Q2:dN (Yo P K O):=⟨y.o.ok,y.o.w,fun r T=>y.o.d r ⟨T,T.1⟩,fun c=>by have:=y.o.len c;omega⟩;have B2:dN (Fm P d (.slice L P.length H) E D C o K O w wr):=p.o;obtain ⟨mf,f8⟩:=Ru;obtain ⟨J,hJ⟩:∃J:Nat→World→Prop,J=fun n U=>∃(b:So) (f:Sv),dN (Fm P d (.slice L P.length H) E D C o b f w U)∧dN (Yo P b f)∧dN (f.left 16400 n):=⟨_,rfl⟩
   have d5:dN (∃n,J n wr):=⟨_,by rw [hJ];exact ⟨K,O,B2,Q2,rfl⟩⟩;have HJ:=Aa hJ;have d8:=Aa f8;clear y p Q2 B2 hJ f8;go_wp2_with fail;go_loopw [] (fun U=>∃n,J n U) (fun U=>mf (fun n=>J n U))
   case atStart=>exact d5.o
   case round=>
    clear d5;obtain ⟨n0,f9⟩:=hrel;have g0:=(d8.o (fun n=>J n wr) n0 f9).1;obtain ⟨nn,b9⟩:∃nn,nn=mf (fun n=>J n wr):=⟨_,rfl⟩;have g1:J nn wr:=by rw [b9];exact g0
    rw [HJ.o] at g1;obtain ⟨b,f,G,y,HL⟩:=g1;have i4:=Aa b9;clear f9 g0 b9 n0;have X:=G.o.e.r;have p6:=X.s9.cell 6;have f6:=X.s9.frozen 6;have b0:=Ae X.s9;simp only [Gf,dM,dJ,dK] at p6;have a7:=X.mp 2 (by omega);obtain ⟨ln,l4,k3,a6⟩:=a7.len Tryz.underlying91 3;have m5:=a7.lt;by_cases hz:ln=0
    ·subst hz;have HD:=Aa (y.o.done X (a6.1 rfl));clear X a7 a6 HL;go_wp2_with fail;go_end0;exact ⟨rfl,b,f,G.o,HD.o⟩
    ·have l3:0<ln:=by omega
     have hv:∃c t,c<16400∧t<16400∧f.N c t:=by
      apply Classical.byContradiction;intro q;refine hz (a6.2 fun c=>?_);cases hq:b.bk 2 c with
      | none=>rfl
      | some x=> obtain ⟨t,ht⟩:=X.d2 c x hq;have hi:=Im Q.o (y.o.ok.le.i _ _ (y.o.ok.np c t ht));exact absurd ⟨c,t,hi.1.lt Q.o.bA Q.o.ok.l8 Q.o.lp,hi.2.lt Q.o,ht⟩ q
     have a2:=@run_makeMap Tryz.prog;have HV:=Aa hv;clear hz a6 hv X a7;go_upto_region 12 with fail;have h3:(wr.setCell ⟨d,6,none⟩ (.map (some wr.heap.size))).heap.size=wr.heap.size:=by simp
     have f0:Ak d (Gf (b.tk wr.heap.size) (.slice L P.length H) E D C) 144 ((wr.setCell ⟨d,6,none⟩ (.map (some wr.heap.size))).alloc (.map #[] 0)):=(G.o.e.r.s9.set 6 (.map (some wr.heap.size))).alloc _;have f5:Bv Hb Ha wr.heap.size (fun _=>none) ((wr.setCell ⟨d,6,none⟩ (.map (some wr.heap.size))).alloc (.map #[] 0)):=by have q:=Bv.made (R:=Hb) (dc:=Ha) (wr.setCell ⟨d,6,none⟩ (.map (some wr.heap.size)));rw [h3] at q;exact q
     have a3:Ab (fun k=>k=d) wr ((wr.setCell ⟨d,6,none⟩ (.map (some wr.heap.size))).alloc (.map #[] 0)):=((Ab.refl _ wr).d8 6 _).alloc _;have k8:((wr.setCell ⟨d,6,none⟩ (.map (some wr.heap.size))).alloc (.map #[] 0)).heap.size=wr.heap.size+1:=by simp
     obtain ⟨e6,g5⟩:=G.o.e.took (Nat.le_refl _) f5 f0 a3;have g4:=G.o.e.r.outk (Nat.le_refl wr.heap.size);clear f0 f5 h3;generalize (wr.setCell ⟨d,6,none⟩ (.map (some wr.heap.size))).alloc (.map #[] 0)=M at*;have k6:b.om 2≠d:=by obtain ⟨_,_,e⟩:=(G.o.e.r.mp 2 (by omega)).isMap;exact (G.o.e.r.bR e).1
     have d7:=Aa ((G.o.e.r.mp 2 (by omega)).O a3 k6);have h1:∀c x,b.bk 2 c=some x→A9 x (f.N c) M∧x<wr.heap.size:=fun c x hx=>by have q:=G.o.e.r.st 2 c x hx;obtain ⟨_,_,e⟩:=q.isMap;exact ⟨(q.O a3 (G.o.e.r.bR e).1).iff fun t=>Kq,q.lt⟩
     have j2:=Aa h1;have a5:=Aa e6;have e1:=Aa g5;have e0:=Aa g4;have i6:=Aa a3;have m6:b.om 2<M.heap.size:=by omega
     clear h1 e6 g5 g4 a3 p6 f6 k3 a2;go_wp2_with (at_range;refine DJ _ rfl _ 91 rfl 93 Tryz.underlying91 (b.om 2) rfl d7.o ?_;intro w3 a0 c8 g7);try go_frame
     obtain ⟨F,g6⟩:∃F,F=M.heap.size:=⟨_,rfl⟩;rw [←g6] at a0 g7⊢;have R0:=Aa a0;have g2:¬(b.tk wr.heap.size).own d F:=fun q=>by have:=a5.o.r.ownLt q;omega
     have S0:dN (Dp P d (.slice L P.length H) E D C (b.tk wr.heap.size) (b.tk wr.heap.size) f.took M w3):=⟨(a5.o.i9 c8).r,fun _ q=>.inl q,rfl,c8.mono fun _ _ q=>q.elim⟩;have K0:dN (f.took.up f.took∧Bs P (fun a t=>(∃x,b.bk 2 a=some x)∧f.N a t) f.took):=⟨.rf _,y.o.ok.took.kept fun c t q=>⟨G.o.e.r.ins 2 c t (by omega) (Kq.2 q),q⟩⟩;have e3:=Aa g2;have l6:M.heap.size≤F:=by omega
     have l7:F≤M.heap.size:=by omega
     have m1:wr.heap.size<M.heap.size:=by omega
     have m2:M.heap.size≤wr.heap.size+1:=by omega
     clear a0 c8 g2 d7 g6 k8 g7;generalize h6:wr=U at*;have j4:=Aa h6;clear h6;go_loopw [] (fun wi=>∃(b1:Nat→Prop) (N:So) (I:Sv),dN (EI Hb Ha (b.om 2) F (b.bk 2) b1 wi)∧dN (Dp P d (.slice L P.length H) E D C (b.tk U.heap.size) N I M wi)∧dN (f.took.up I∧Bs P (fun a t=>b1 a∧f.N a t) I)∧dN (¬N.own d F)) (fun wi=>wi.rangeLeft (b.om 2) F)
     case atStart=>exact ⟨_,_,_,R0,S0,K0,e3⟩
     case round=>
      clear R0 S0 K0 e3;obtain ⟨b1,N,I,HR,p,V,b2⟩:=hrel;go_wp2_with (at_next;refine D9 _ rfl _ rfl Dw (b.om 2) F rfl HR.o ?_ ?_);rotate_left
      ·intro k x w4 hk l9 b5 a0 k4 a8 m0 j6;unfold GG at j6;obtain ⟨_,_,_,_,f3⟩:=HR.o.iter;have k9:0≠F:=by have:=a5.o.tl;omega
       have e7:=a5.o.next p.o;have e8:=e7.O a8 (fun z q=>by rw [q];exact b2.o) (fun z cs t fz q r=>by rw [q,f3] at r;cases r) (fun q=>k9 q);obtain ⟨g8,m3⟩:=j2.o k x b5;have d2:=e0.o.1 k x b5;have h7:¬N.own d x:=fun q=>(p.o.ow _ q).elim d2 fun q=>by omega
       have g9:=(g8.O p.o.on d2).O a8 (fun q=>by omega);obtain ⟨t0,h4⟩:=G.o.e.r.d2 k x b5;have f2:=(Im Q.o (y.o.ok.le.i _ _ (y.o.ok.np k t0 h4))).1;have a4:N.rl=b.rl:=congrArg Prod.fst p.o.rl;have l8:F<w4.heap.size:=a0.ltr;have b8:∀t,f.N k t→I.s.I k t:=fun t ht=>V.o.1.le.s.i _ _ (y.o.ok.np k t ht)
       have h5:∀r,I.W k r→Ly P r∧A2 r∧r.at=k:=fun r T=>y.o.w k r (by have:=V.o.1.le.w;rw [this] at T;exact T)
       have d3:=Aa (Qe P d (.slice L P.length H) E D C N I w4 Q.o e8 k x (f.N k) g9 h7 V.o.2.le b8 h5 (by rw [a4];exact y.o.len k) f2);have i9:=Aa a0;have i7:=Aa a8;have i2:=Aa b8;have k7:¬N.own d (b.om 2):=fun q=>(p.o.ow _ q).elim e0.o.2 fun q=>by omega
       clear e7 e8 g8 d2 h7 g9 h4 f2 a4 h5 a0 a8 b8 f3;go_wp2_with fail;refine d3.o.mono ?_;rintro e w5 ⟨rfl,o5,v5,s5,u5,i5,q5⟩;have d0:=i9.o.O s5.on k7 b2.o;have i8:=Aa d0.1;have k5:w5.rangeLeft (b.om 2) F<wr.rangeLeft (b.om 2) F:=by rw [d0.2];exact k4
       have j0:dN (Dp P d (.slice L P.length H) E D C (b.tk U.heap.size) o5 v5 M w5):=⟨s5.r,fun j hj=>(s5.ow j hj).elim (p.o.ow j) fun q=>.inr (by have:=p.o.on.size;omega),s5.rl.trans p.o.rl,(p.o.on.thn i7.o fun j hj q=>by omega).thn s5.on fun j hj q=>(p.o.ow j q).elim id fun q=>by omega⟩;have i0:dN (f.took.up v5∧Bs P (fun a t=>(b1 a∧a≠k)∧f.N a t) v5):=by
        refine ⟨V.o.1.tr u5,Bs.passed (c:=k) (m:=f.N k) (v:=I) ((i5 _ V.o.2).kept fun a t q=>?_) u5 i2.o q5.1 q5.2⟩;by_cases e:a=k
        ·subst e;exact .inr ⟨rfl,q.2⟩
        ·exact .inl ⟨⟨q.1,e⟩,q.2⟩
       have i3:dN (¬o5.own d F):=fun q=>(s5.ow _ q).elim b2.o fun q=>by omega
       clear s5 u5 i5 q5 d0 d3;go_wp2_with fail;go_roundw
       case rel=>exact ⟨_,_,_,i8,j0,i0,i3⟩
       case measure=>exact k5
      ·intro hd;have g3:Bs P (fun _ _=>False) I:=V.o.2.kept fun a t q=>hd a q.1
       have a4:N.rl=b.rl:=congrArg Prod.fst p.o.rl;obtain ⟨mm,a2⟩:∃mm,I.left 16400 mm:=⟨_,rfl⟩;have f4:mm<nn:=Sv.left_lt (B:=16400) (v:=f) (u:=I) (x:=f.took) ⟨rfl,fun _ _ q=>q⟩ V.o.1 HV.o (fun c t q=>y.o.ok.np c t q) HL.o a2;have e5:Fm P d (.slice L P.length H) E D C o N I w wr:=G.o.more p.o.r (fun j hj=>(p.o.ow j hj).elim (fun q=>(e1.o j q).imp id fun q=>by omega) fun q=>.inr (by omega)) (((i6.o.mono fun j _ q=>by rw [q];exact .inl rfl).thn p.o.on fun j hj q=>(e1.o j q).elim id fun q=>by omega));have d6:dN (J mm wr):=by rw [HJ.o];exact ⟨N,I,e5,y.o.later V.o.1 g3 a4,a2⟩
       have i1:dN (mf (fun n=>J n wr)<mf (fun n=>J n U)):=by have:=(d8.o (fun n=>J n wr) mm d6.o).2;rw [←i4.o];exact Nat.lt_of_le_of_lt this f4
       clear g3 a4 a2 f4 e5;go_wp2_with fail;go_roundw
       case rel=>exact ⟨mm,d6.o⟩
       case measure=>rw [j4.o];exact i1.o
section
variable {α : Type} {R : Value → Option (DataW Unit × List MemPlace)} {mk : α → Value} {d : α → DataW Unit} {ok : α → Prop} {b : Nat} {g : Nat → Option α} {w f : World}
theorem Bv.block(h:Bv R d b g w)(e:f.heap[b]? =w.heap[b]?):Bv R d b g f:=by obtain ⟨D,⟨c,a,j,r⟩,i⟩:=h;exact ⟨D,⟨c,a,by rw [e];exact j,r⟩,i⟩
theorem Bv.entry{t e:TypeId}(h:Bv R d b g w)(E:Pg R mk d ok)(y:Tryz.prog.underlying t=some (.map 3 e)){z:Value}(I:∀u:World,(zeroValue e).run Tryz.prog u=.ok z u){k:Nat}(C:k<20000)(K:g k=none):
 ∃(m:Array MapEntry) (i:Nat),w.heap[b]? =some (.map m i)∧
  (∀W:World,W.heap[b]? =some (.map m i)→(Instr.mapEntry t (.map (some b)) (.int .i64 k)).run Tryz.prog W=.ok (.tuple #[z,goInt i]) (ChangeMaps.setBlock W b (.map (m.push ⟨.int .i64 k,z,i⟩) (i+1))))∧
  (∀(W:World) (o:Value),W.heap[b]? =some (.map (m.push ⟨.int .i64 k,z,i⟩) (i+1))→(Instr.entryStore t (.map (some b)) (goInt i) o).run Tryz.prog W=.ok () (ChangeMaps.setBlock W b (.map (m.push ⟨.int .i64 k,o,i⟩) (i+1))))∧
  ∀(a:α),ok a→∀W:World,W.heap[b]? =some (.map (m.push ⟨.int .i64 k,mk a,i⟩) (i+1))→Bv R d b (fun x=>if x=k then some a else g x) W:=by
 have M:=(h.look E y (I w) C true).1 K;have O:=fun (a:α) (r:ok a)=>h.put E y C r
 obtain ⟨D,⟨m,i,s,F,X,rfl⟩,A⟩:=h;have v:=Ro C;obtain ⟨S,T,_⟩:=F.stamped;have H:∀W:World,(Instr.findKey 3 (.int .i64 k) m.toList).run Tryz.prog W=.ok none W:=fun W=>by
  rcases Cp.find W v m.toList F.keys with ⟨p,_⟩ | ⟨j,G,p,B,A⟩
  ·exact p
  ·exfalso;rcases Cp.find w v m.toList F.keys with ⟨_,q⟩ | ⟨Y,U,Q,Z,q3⟩
   ·exact q G (List.mem_of_getElem? B) A
   ·simp [Instr.lookup,run_underlying y,MapKept.run_getObj_map s,Cp.check w _ v,Q,Result.andThen] at M
 refine ⟨m,i,s,fun W n=>?_,fun W o n=>?_,fun a r W n=>?_⟩
 ·simp [Instr.mapEntry,run_underlying y,MapKept.run_getObj_map n,Cp.check W false v,H W,I,MapKept.run_setObj_map _ n,Result.andThen,ChangeMaps.setBlock]
 ·have L:(m.push ⟨.int .i64 k,z,i⟩).findIdx? (fun e=>((e.born:Nat):Int)==((i:Nat):Int))=some m.size:=by rw [WideElems.findIdx_arr];exact WideElems.findIdx_born (l:=(m.push ⟨.int .i64 k,z,i⟩).toList) (j:=m.size) (e0:=⟨.int .i64 k,z,i⟩) (by simp only [Array.toList_push,List.map_append,List.map_cons,List.map_nil];refine List.nodup_append.2 ⟨T,by simp,fun a r c J V=>?_⟩;simp only [List.mem_singleton] at J;obtain ⟨x,P,rfl⟩:=List.mem_map.1 r;have:=S x P;omega) (by simp)
  have N:(m.push ⟨.int .i64 k,z,i⟩).modify m.size (fun e=>{e with val:=o})=m.push ⟨.int .i64 k,o,i⟩:=by apply Array.ext';rw [Array.toList_modify,Array.toList_push,Array.toList_push,←Array.length_toList,WideElems.modify_last]
  simp [Instr.entryStore,MapKept.run_getObj_map n,asInt,asIntOf,goInt,L,N,MapKept.run_setObj_map _ n,Result.andThen,ChangeMaps.setBlock]
 ·obtain ⟨f,p,B,_⟩:=O a r;have A:(Instr.mapUpdate t (.map (some b)) (.int .i64 k) (mk a)).run Tryz.prog w=.ok () (ChangeMaps.setBlock w b (.map (m.push ⟨.int .i64 k,mk a,i⟩) (i+1))):=by simp [Instr.mapUpdate,run_underlying y,MapKept.run_getObj_map s,Cp.check w false v,H w,MapKept.run_setObj_map _ s,Result.andThen,ChangeMaps.setBlock]
  rw [A] at p;cases p;refine B.block ?_;rw [n];exact (ChangeMaps.heap_setBlock_same s _).symm
end
end Go.Proofs.YtegmjgjkcdbmkaaGreatDoor
