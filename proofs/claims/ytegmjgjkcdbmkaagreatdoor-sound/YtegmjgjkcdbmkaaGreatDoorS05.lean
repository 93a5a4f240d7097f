/- One of the texts of the proof: ChA ChB ChC CkD CkE CkF CkG CkH CkI TrM. -/
import Derived.Test.YtegmjgjkcdbmkaaGreatDoorS04
import Derived.Deep.CutBlock
set_option maxRecDepth 100000
set_option maxHeartbeats 20000000
namespace Go.Proofs.YtegmjgjkcdbmkaaGreatDoor
open Go.RowKit Go.Maps
theorem Tryz.infoTF:(Tryz.prog.info? 134).map (fun i=>(i.zero,i.size,i.bytes))=some (some (.agg Zm),5,80):=by kernel_rfl
def CZ(b:List PT)(n:Nat):Nat→PS→List TF→List TF×PS
 | 0,x,a=>(a,x)
 | f+1,x,a=>if (Ag b x.next).kind=3 then CZ b n f (Hh b n x).2 (a++[(Hh b n x).1]) else (a,x)
def CM(a:List PT)(n:Nat)(x:PS):List TF×Nat×PS:=
 let r:=CZ a n n (Hh a n x).2 [(Hh a n x).1]
 (r.1,(Ax a 0 r.2).c9,Af a n 0 r.2)
def Di(d:Nat)(U:Nat→Prop)(w:World)(c:Value)(b:List TF):Prop:=∃a:List (List Value),w.ownsRow 0 134 5 c b.length a.flatten∧a.length=b.length∧(∀k,c.ownBlock=some k→U k)∧∀j (g:j<b.length) (e:j<a.length),GC d U w b[j] a[j]
def Zx(b g n h:Nat)(w:World)(r:List TF×Nat×PS)(e:Ending)(f:World):Prop:=
 ∃(d:Nat) (U:Nat→Prop) (a:Option Addr) (l c:Nat),e=.returned (.agg #[.slice a l c,.int .i64 r.2.1])∧Di d U f (.slice a l c) r.1∧(∀k,U k→w.heap.size≤k∧k<f.heap.size)∧AR b g n h r.2.2 f∧Ab (fun k=>k=b) w f
structure FW(lo lb d:Nat)(U:Nat→Prop)(w:World)(sv:Value)(acc:List TF)(css:List (List Value)):Prop where
 row:w.ownsRow lo 134 5 sv acc.length css.flatten
 len:css.length=acc.length
 bV:∀j (g:j<acc.length) (g':j<css.length),GC d U w acc[j] css[j]
 u:∀k,U k→lo≤k∧k<w.heap.size∧k≠lb
 apart:∀k,sv.ownBlock=some k→¬U k∧k≠lb
theorem FW.O{e c d}{U:Nat→Prop}{w w' sv f i}{X:Nat→Prop}(h:FW e c d U w sv f i)(b:Ab X w w')(l:∀k,e≤k→k<w.heap.size→k≠c→¬X k):FW e c d U w' sv f i:=
 ⟨Ac h.row b (fun k a=>l k (h.row.lt k a).1 (h.row.lt k a).2 (h.apart k a).2),h.len,fun j g m=>(h.bV j g m).O b (fun k a=>l k (h.u k a).1 (h.u k a).2.1 (h.u k a).2.2),fun k a=>⟨(h.u k a).1,rP (h.u k a).2.1 b.size,(h.u k a).2.2⟩,h.apart⟩
theorem FW.push{n b d v}{U p:Nat→Prop}{w W l i o u f r t c}(h:FW n b d U w i f r)(J:b<w.heap.size)(F:GC v p w t c)(g:∀k,p k→n≤k∧k<w.heap.size∧k≠b∧¬i.ownBlock=some k)(C:Ab (fun _=>False) w W)
 (E:l.ownsRow n 134 5 o (f.length+1) (r.flatten++c))(D:W.grownBy l i.ownBlock)(A:∀k,o.ownBlock=some k→i.ownBlock=some k∨w.heap.size≤k):
 FW n b (max d v) (fun k=>U k∨p k) (l.setCell ⟨b,0,none⟩ u) o (f++[t]) (r++[c]):=by
 have s:Ab (fun k=>i.ownBlock=some k) w l:=Ab.grown (C.mono (fun _ _ q=>q.elim)) D (fun k a=>.inl a);have m:=(Ab.refl (fun k=>k=b) l).d8 0 u;have z:=h.len;have x:∀k,o.ownBlock=some k→k≠b:=fun k a=>by
  rcases A k a with e | e
  ·exact (h.apart k e).2
  ·omega
 refine ⟨?_,by simp [z],?_,?_,?_⟩
 ·have:=Ac E m x;simpa using this
 ·intro j B G;by_cases y:j<f.length
  ·rw [List.getElem_append_left y,List.getElem_append_left (by omega)];exact ((((h.bV j y (by omega)).O s (fun k a q=>(h.apart k q).1 a)).O m (fun k a=>(h.u k a).2.2)).more (fun k a=>.inl a)).bQ (Nat.le_max_left _ _)
  ·have e:j=f.length:=by simp at B;omega
   subst e;rw [List.getElem_append_right (by omega),List.getElem_append_right (by omega)];simp only [Nat.sub_self,z,List.getElem_cons_zero];exact (((F.O s (fun k a=>(g k a).2.2.2)).O m (fun k a=>(g k a).2.2.1)).more (fun k a=>.inr a)).bQ (Nat.le_max_right _ _)
 ·intro k a;have H:=s.size;have I:=m.size;rcases a with a | a
  ·have:=h.u k a;exact ⟨this.1,by omega,this.2.2⟩
  ·have:=g k a;exact ⟨this.1,by omega,this.2.2.1⟩
 ·intro k a;refine ⟨fun q=>?_,x k a⟩;rcases A k a with e | e
  ·rcases q with q | q
   ·exact (h.apart k e).1 q
   ·exact (g k q).2.2.2 e
  ·rcases q with q | q
   ·have:=(h.u k q).2.1;omega
   ·have:=(g k q).2.1;omega
theorem W7(t a d l f c e):∀u∈(Lv t (.slice a l c) (.slice d f e)).toList,u.oneCell'=true:=by intro u b;simp [Lv] at b;rcases b with rfl | rfl | rfl | rfl | rfl<;>rfl
theorem Xl{w:World}(a:Array Value)(b:a.size=5):(w.alloc (.cells a 134)).ownsRow w.heap.size 134 5 (.slice (some ⟨w.heap.size,0,none⟩) 1 1) 1 a.toList:=
 ⟨by simpa using b,.inr ⟨w.heap.size,1,a,rfl,rN _,heap_alloc_new w _,rN _,by unfold maxLen;omega,by simpa using b,by rw [List.take_of_length_le (by simp;omega)]⟩⟩
theorem JE(O a8)(hF:Cf O a8)(b g n r Y i w)(hb:O≤b)(hG:Below O a8 w)(hB:O≤w.heap.size)(hr:AR b g n r Y w)(V:AZ g n r i w)(d7:Y.next<n)(hz:(Ag i (n-1)).kind=0):
 Calls Tryz.prog 71 #[.pointer (some ⟨b,0,none⟩)] w fun e w'=>Zx b g n r w (CM i n Y) e w':=by
 obtain ⟨i0,hi,f3,f4,f5⟩:=info_parts Tryz.infoTF;have lr:=Ae hr;have lg:=V.lt;have hn:=V.2.2.1;have d8:=V.ne hr (by decide);have z:=EY hz d7;obtain ⟨N,x1,E⟩:∃t y,Hh i n Y=(t,y):=⟨_,_,rfl⟩;rw [E] at z;have f0:=z.2;obtain ⟨l2,x2,h2⟩:∃l y,CZ i n n x1 [N]=(l,y):=⟨_,_,rfl⟩;have hv:CM i n Y=(l2,(Ax i 0 x2).c9,Af i n 0 x2):=by simp only [CM,E,h2]
 rw [hv];have HG:=Aa hG;have HZ:=Aa hz;have HF:=Aa hF;have X1:=Aa E;have X2:=Aa h2;clear E h2 hv hz hG hF z;go_enter Tryz.func71,Tryz.ntmps71;go_wp2_with fail;refine (Ie O a8 HF.o b g n r Y i _ hb (Ab.keeps HG.o ((Ab.refl (fun k=>k=b) w).alloc _) hB hb) (by simp;omega) (Ak.alloc hr _) (V.O ((Ab.refl (fun _=>False) _).alloc _) (fun q=>q)) d7 HZ.o).mono ?_;rw [X1.o];rintro e m ⟨d2,U2,fa,fl,fc,b3,b5,b4,rfl,e1,d5,b8,a2⟩;have f6:=a2.size;simp at f6;have c1:dN (Ak w.heap.size #[.slice none 0 0,.int .i64 0] 82 m):=(Ak.new w _ _).O a2 (by omega);have c2:=Aa (((Ab.refl (fun k=>k=b) w).alloc _).trans a2);have c6:=Aa ((V.O ((Ab.refl (fun _=>False) _).alloc (.cells #[.slice none 0 0,.int .i64 0] 82)) (fun q=>q)).O a2 d8);have c3:=Aa b8;have c5:=Aa e1;have a9:=Aa d5;have g4:=Ae b8;clear b8 a2 hr V e1 d5;unfold Lv;go_wp2_with fail;go_loopw [] (fun wr=>∃(x:PS) (f d:Nat) (U:Nat→Prop) (sv:Value) (L:List TF) (b2:List (List Value)),x.next<n∧L.length≤x.next+1∧n-x.next≤f∧dN (AR b g n r x wr)∧dN (AZ g n r i wr)∧dN (Ak w.heap.size #[.slice none 0 0,.int .i64 0] 82 wr)∧dN (Ak (m.heap.size+1) #[sv,.int .i64 0] 82 wr)∧dN (FW (w.heap.size+1) (m.heap.size+1) d U wr sv L b2)∧dN (Ab (fun k=>k=b) w wr)∧dN (CZ i n f x L=(l2,x2))) (fun wr=>n-KP b wr)
 case atStart=>
  refine ⟨x1,n,d2,U2,.slice (some ⟨m.heap.size,0,none⟩) 1 1,[N],[(Lv N (.slice fa fl fc) (.slice b3 b5 b4)).toList],f0,by simp,by omega,Ak.alloc (Ak.alloc c3.o _) _,c6.o.O (((Ab.refl (fun _=>False) _).alloc _).alloc _) (fun q=>q),Ak.alloc (Ak.alloc c1.o _) _,?_,?_,(c2.o.alloc _).alloc _,X2⟩
  ·refine Aa ?_;have:=Ak.new (m.alloc (.cells #[.string N.name.a9,.int .i64 N.name.c9,.slice fa fl fc,.int .i64 N.c9,.slice b3 b5 b4] 134)) #[.slice (some ⟨m.heap.size,0,none⟩) 1 1,.int .i64 0] 82;simpa using this
  ·refine Aa ⟨?_,rfl,?_,?_,?_⟩
   ·have:=(Xl (w:=m) (Lv N (.slice fa fl fc) (.slice b3 b5 b4)) rfl).alloc (.cells #[.slice (some ⟨m.heap.size,0,none⟩) 1 1,.int .i64 0] 82);exact Ao (by simpa [Lv] using this) (by omega)
   ·intro j z g2;have e:j=0:=by simp at z;omega
    subst e;exact c5.o.O (((Ab.refl (fun _=>False) _).alloc _).alloc _) (fun _ _ q=>q)
   ·intro k c;have:=a9.o k c;simp at this⊢;omega
   ·intro k c;simp [Value.ownBlock] at c;refine ⟨fun q=>?_,by omega⟩;have:=a9.o k q;omega
 case round=>
  clear c3 c6 c1 c2 X2 c5 a9;obtain ⟨x,f,d,U,sv,L,b2,W,f7,hf,M,R,a5,hC,a6,hO,HC⟩:=hrel;have e3:=Aa (Ed M.o);by_cases T:(Ag i x.next).kind=3
  ·obtain ⟨f2,rfl⟩:∃f2,f=f2+1:=⟨f-1,by omega⟩;obtain ⟨t3,x3,h3⟩:∃t y,Hh i n x=(t,y):=⟨_,_,rfl⟩;have c9:CZ i n f2 x3 (L++[t3])=(l2,x2):=by have:=HC.o;rw [CZ,if_pos T,h3] at this;exact this
   have f1:x.next+1≤x3.next∧x3.next<n:=by have z:=EY (n:=n) HZ.o W;have g2:=KA HZ.o W T;rw [h3] at z g2;exact ⟨g2,z.2⟩
   have X3:=Aa h3;have e2:=Aa c9;have HK:=Aa T;clear HC h3 c9 T;go_wp2_with fail;refine (AS b g n r x i _ M.o R.o W).mono ?_;rw [HK.o];rintro e wk ⟨rfl,o⟩;have R1:=Aa (Ak.O M.o o (fun q=>q));have T1:=Aa (R.o.O o (fun q=>q));have A1:=Aa (a5.o.O o (fun q=>q));have K:=Aa (hC.o.O o (fun q=>q));have D:=Aa (a6.o.O o (fun _ _ _ _ q=>q));have Q:=Aa (hO.o.bI o);clear M R a5 hC a6 hO o;obtain ⟨A,C,B,rfl⟩:=Ad D.o.row;have c0:=K.o.cell 0;have cf:=K.o.frozen 0;have lc:=Ae K.o;have g5:=Ae R1.o;have g3:=Q.o.size;simp only [dM,dJ] at c0;have Z:=Aa (fun k (c:Value.ownBlock (.slice A C B)=some k)=>(⟨(D.o.row.lt k c).1,(D.o.apart k c).2⟩:w.heap.size+1≤k∧k≠m.heap.size+1));go_wp2_with fail;go_region_law (first
    | (refine AT rfl _ _ 80 rfl (w.heap.size+1) 134 i0 (.agg Zm) 5 80 Tryz.underlying80 hi f3 f4 f5 rfl (by decide) _ _ _ rfl (P.o.row.alloc _) ⟨w4.heap.size,0,none⟩ 1 1 (Lv t3 (.slice aa al ac) (.slice ba bl bc)).toList rfl rfl (A5 rfl _ _) (W7 _ _ _ _ _ _ _) (by decide) (by unfold maxLen;omega) (by omega) (by simp;omega) ?_;intro v' J b7 S d9;have q1:J.cell? ⟨m.heap.size+1,0,none⟩=some (.slice A C B):=(rM (S.block (m.heap.size+1) (by simp;omega) (fun h=>(Z.o _ h.symm).2 rfl))).trans (by rw [←c8];exact rM (Below.heap_alloc _ _ _ b9));have q2:J.frozen? ⟨m.heap.size+1,0,none⟩=false:=(rS (S.block (m.heap.size+1) (by simp;omega) (fun h=>(Z.o _ h.symm).2 rfl))).trans (by rw [←e4];exact rS (Below.heap_alloc _ _ _ b9));obtain ⟨G,I,H,rfl⟩:=Ad b7)
    | (go_simp;go_at_call 112;refine (Ie O a8 HF.o b g n r x i _ hb (Ab.keeps HG.o (Q.o.bI (by repeat (first | exact Ab.refl _ _ | refine Ab.drew ?_ | refine Ab.drewN ?_ _ | refine Ab.alloc ?_ _))) hB hb) (by simp;omega) (Ak.O (X:=fun _=>False) R1.o (by repeat (first | exact Ab.refl _ _ | refine Ab.drew ?_ | refine Ab.drewN ?_ _ | refine Ab.alloc ?_ _)) (fun q=>q)) (T1.o.O (X:=fun _=>False) (by repeat (first | exact Ab.refl _ _ | refine Ab.drew ?_ | refine Ab.drewN ?_ _ | refine Ab.alloc ?_ _)) (fun q=>q)) W HZ.o).mono ?_;rw [X3.o];rintro e w4 ⟨d4,U4,aa,al,ac,ba,bl,bc,rfl,e0,d6,a4,F⟩;have a3:=Ab.trans (X:=fun k=>k=b) (a:=wk) (by repeat (first | exact Ab.refl _ _ | refine Ab.drew ?_ | refine Ab.drewN ?_ _ | refine Ab.alloc ?_ _)) F;have P:=Aa (D.o.O a3 (fun k h _ _=>by omega));have s:=Aa (K.o.O a3 (by omega));have c8:=s.o.cell 0;have e4:=s.o.frozen 0;have b9:=Ae s.o;simp only [dM,dJ] at c8;have g0:=a3.size;have c4:=Aa e0;have c7:=Aa d6;have R4:=Aa a4;have O5:=Aa a3;clear e0 d6 a4 F a3;unfold Lv;dsimp only))
   all_goals
    have a0:Ab (fun k=>Value.ownBlock (.slice A C B)=some k) w4 J:=Ab.grown ((Ab.refl _ _).alloc _) S (fun k c=>.inl c);have a7:=(Ab.refl (fun k=>k=m.heap.size+1) J).d8 0 (.slice G I H);have b6:∀j,j<w.heap.size+1→¬Value.ownBlock (.slice A C B)=some j:=fun j hj q=>by have:=(Z.o j q).1;omega
    have hP:=FW.push (u:=.slice G I H) P.o b9 c4.o (fun k c=>by have E:=c7.o k c;simp only [World.size_drew] at E;exact ⟨by omega,E.2,by omega,fun q=>by have:=(D.o.row.lt k q).2;omega⟩) ((Ab.refl _ _).alloc _) b7 S (fun k c=>(d9 k c).imp id (fun q=>by simp at q;omega));have d3:AR b g n r x3 (J.setCell ⟨m.heap.size+1,0,none⟩ (.slice G I H)):=(R4.o.O a0 (b6 b (by omega))).O a7 (by omega);have e9:AZ g n r i (J.setCell ⟨m.heap.size+1,0,none⟩ (.slice G I H)):=((T1.o.O O5.o d8).O a0 (b6 g (by omega))).O a7 (by omega);have e5:=((A1.o.O O5.o (by omega)).O a0 (b6 w.heap.size (by omega))).O a7 (by omega);have e6:Ak (m.heap.size+1) #[.slice G I H,.int .i64 0] 82 (J.setCell ⟨m.heap.size+1,0,none⟩ (.slice G I H)):=by have:=(s.o.O a0 (fun q=>(Z.o _ q).2 rfl)).set 0 (.slice G I H);simpa using this
    have e8:Ab (fun k=>k=b) w (J.setCell ⟨m.heap.size+1,0,none⟩ (.slice G I H)):=(Ab.grown ((Q.o.trans O5.o).alloc _) S (fun k c=>.inr (by have:=(Z.o k c).1;omega))).u9 0 _ (by omega);have e7:=Ed d3;clear b7 S d9 q1 q2 c4 c7 P s R4 a0 a7;go_wp2_with fail;go_roundw
    case rel=>exact ⟨x3,f2,_,_,_,L++[t3],_,f1.2,by simp;omega,by omega,d3,e9,e5,e6,hP,e8,e2⟩
    case measure=>rw [e7,e3.o];omega
  ·have hv:(L,x)=(l2,x2):=by
    rw [←HC.o];cases f with
    | zero=>rfl
    | succ f=>rw [CZ,if_neg T]
   simp only [Prod.mk.injEq] at hv
   obtain ⟨rfl,rfl⟩:=hv
   have f9:(((Ag i x.next).kind:Int)==3)=false:=by simp;omega
   clear HC T
   go_wp2_with fail
   refine (AS b g n r x i _ M.o R.o W).mono ?_
   rintro e wk ⟨rfl,o⟩
   have R1:=Aa (Ak.O M.o o (fun q=>q))
   have T1:=Aa (R.o.O o (fun q=>q))
   have A1:=Aa (a5.o.O o (fun q=>q))
   have K:=Aa (hC.o.O o (fun q=>q))
   have D:=Aa (a6.o.O o (fun _ _ _ _ q=>q))
   have Q:=Aa (hO.o.bI o)
   clear M R a5 hC a6 hO o
   go_wp2_with fail
   refine (AG b g n r 0 x i _ R1.o T1.o W).mono ?_
   rintro e w4 ⟨rfl,a4,F⟩
   have A4:=Aa (A1.o.O F (by omega))
   have s:=Aa (K.o.O F (by omega))
   have P:=Aa (D.o.O F (fun k h _ _=>by omega))
   have O4:=Aa (Q.o.trans F)
   have R4:=Aa a4
   clear R1 T1 A1 K D Q a4 F
   obtain ⟨A,C,B,rfl⟩:=Ad P.o.row
   have b0:=A4.o.cell 0
   have b1:=A4.o.cell 1
   have bf:=A4.o.frozen
   have d0:=s.o.cell 0
   have d1:=s.o.cell 1
   have df:=s.o.frozen
   have lB:=Ae A4.o
   have lC:=Ae s.o
   simp only [dM,dJ,dK] at b0 b1 d0 d1
   obtain ⟨t,k1⟩:∃y,Ax i 0 x=y:=⟨_,rfl⟩
   rw [k1]
   have K1:=Aa k1
   clear k1
   unfold Vy
   have f8:=Tryz.placeOf
   go_wp2
   refine bodyPost_ret (v:=.agg #[.slice A C B,.int .i64 t.c9]) (by simp [results,Tryz.results71,go_sem,b0,b1]) rfl ?_
   have hs:=(((Ab.refl (fun k=>k=w.heap.size∨k=m.heap.size+1) w4).setCell (p:=⟨m.heap.size+1,1,none⟩) (.inl (.inr rfl)) (.int .i64 t.c9)).setCell (p:=⟨w.heap.size,0,none⟩) (.inl (.inl rfl)) (.slice A C B)).setCell (p:=⟨w.heap.size,1,none⟩) (.inl (.inl rfl)) (.int .i64 t.c9)
   have a1:=P.o.O hs (fun k E _ h3=>by omega)
   refine ⟨d,fun k=>U k∨Value.ownBlock (.slice A C B)=some k,A,C,B,by rw [K1.o],⟨b2,Ao a1.row (rR _),a1.len,fun k c=>.inr c,fun j z g2=>(a1.bV j z g2).more (fun k c=>.inl c)⟩,?_,R4.o.O hs (by omega),((O4.o.u9 1 _ (by omega)).u9 0 _ (rN _)).u9 1 _ (rN _)⟩
   intro k c
   rcases c with c | c
   ·have:=a1.u k c;exact ⟨by omega,this.2.1⟩
   ·have:=a1.row.lt k c;exact ⟨by omega,this.2⟩
theorem Cz:∀{a:List (List Value)} {s:Nat},(∀c,c∈a→c.length=s)→∀{j i:Nat} (b:j<a.length),i<s→a.flatten[j*s+i]? =a[j][i]?
 | [],_,_,_,_,b,_=>by simp at b
 | c::a,s,d,0,i,_,g=>by have f:=d c (by simp);simp only [Nat.zero_mul,Nat.zero_add,List.flatten_cons,List.getElem_cons_zero];rw [List.getElem?_append_left (by omega)]
 | c::a,s,d,j+1,i,b,g=>by
   have f:=d c (by simp);have h:j<a.length:=by simpa using b
   have e:(j+1)*s+i=s+(j*s+i):=by rw [Nat.succ_mul];omega
   simp only [List.flatten_cons,List.getElem_cons_succ];rw [e,List.getElem?_append_right (by omega),f,Nat.add_sub_cancel_left];exact Cz (fun x k=>d x (by simp [k])) h g
theorem Di.O{d}{U:Nat→Prop}{w w' sv a}{X:Nat→Prop}(h:Di d U w sv a)(c:Ab X w w')(e:∀k,U k→¬X k):Di d U w' sv a:=by obtain ⟨f,l,m,b,n⟩:=h;exact ⟨f,Ac l c (fun k o=>e k (b k o)),m,b,fun j g i=>(n j g i).O c e⟩
theorem Di.get{d}{U:Nat→Prop}{w g l c a}(h:Di d U w (.slice (some ⟨g,0,none⟩) l c) a){j}(t:j<a.length):
 ∃(b f:Value),(∀i,i<5→w.cell? ⟨g,j*5+i,none⟩=(Lv a[j] b f)[i]?)∧w.ownsRow 0 128 2 b a[j].i8.length (Bt a[j].i8)∧(∀k,b.ownBlock=some k→U k)∧Cn d U w f a[j].v8:=by
 obtain ⟨n,o,C,D,p⟩:=h;have v:=Aq o;subst v;have q:j<n.length:=by omega
 obtain ⟨b,f,e,z,A,B⟩:=p j t q;have u:∀x,x∈n→x.length=5:=by intro x y;obtain ⟨i,m,rfl⟩:=List.mem_iff_getElem.1 y;obtain ⟨_,_,r,_⟩:=p i (by omega) m;rw [r];rfl
 refine ⟨b,f,fun i m=>?_,z,A,B⟩;have s:=o.cellAt (j*5+i) (by omega);rw [s,Cz u q m,e];simp
def Kf(F:DataW Unit)(N:Nat):Prop:=∀s,Maps.has F (Ba s)=true→∃j:Nat,j<N∧F.atKey (Ba s) (.lit (.int .i64 0))=.lit (.int .i64 j)
def BI(F:DataW Unit)(s:ByteArray):Nat:=match F.atKey (Ba s) (.lit (.int .i64 0)) with | .lit (.int _ z)=>z.toNat | _=>0
def Iv(a:List TF)(j:Nat):Nat:=(a[j]?.map (fun t=>t.i8.length)).getD 0
def DH(F:DataW Unit)(b:List TF)(t:PT)(a:Nat)(c:CS):CS:=
 if Maps.has F (Ba t.a9) then (if Iv b (BI F t.a9)=a then c else BA 7 t.c9 c) else BA 6 t.c9 c
theorem Pu(b d:Nat)(U:Nat→Prop)(s:Value)(f:List TF)(B:Int)(A:Value)(m n:Nat)(F:DataW Unit)(c:CS)(t:PT)(a:Nat)(w:World)(p:Ci b s B (.map (some m)) A c w)(K:A7 m n F w)(x:Di d U w s f)(T:Kf F f.length)(X:t.a9.size≤4000)(hk:f.length≤4001):
 Calls Tryz.prog 165 #[.pointer (some ⟨b,0,none⟩),Je t,.int .i64 a] w fun e N=>e=.returned (.tuple #[])∧Ci b s B (.map (some m)) A (DH F f t a c) N∧Ab (fun k=>k=b) w N:=by
 have M:=Ar p 0;have r2:=Ar p 2;simp only [dM,dJ,dK] at M r2;have lr:=Ae p;obtain ⟨z,L,D,_⟩:=Ep (w:=(w.alloc (.cells #[.string t.a9,.int .i64 t.c9] 128)).drew) (K.O (((Ab.refl (fun _=>False) w).alloc _).drew) (fun q=>q)) X;have C:=Aa p;clear p K;unfold Je;cases h:Maps.has F (Ba t.a9) with
 | false=>
   rw [h] at L;have i:DH F f t a c=BA 6 t.c9 c:=by simp [DH,h]
   rw [i];clear i h x M;go_enter Tryz.func165,Tryz.ntmps165;go_wp2;go_region;go_wp2_with (go_at_call 75;refine (BK b 6 t.c9 s B (.map (some m)) A c _ (C.o.O (((Ab.refl (fun _=>False) w).alloc _).drew) (fun q=>q))).mono ?_);rintro e w2 ⟨rfl,I,H⟩;go_wp2;refine bodyPost_ret (v:=.tuple #[]) (by simp [results,Tryz.results165,go_sem]) rfl ⟨rfl,I,(((Ab.refl _ w).alloc _).drew).trans H⟩
 | true=>
   rw [h] at L;obtain ⟨j,J,E⟩:=T _ h;have hz:z=(j:Int):=by rw [E] at D;simpa using D.symm
   have u:BI F t.a9=j:=by simp [BI,E]
   have y:Iv f j=f[j].i8.length:=by simp [Iv,J]
   subst hz;have W:=x;obtain ⟨a0,r,_⟩:=W;obtain ⟨va,vl,vc,rfl⟩:=Ad r;obtain ⟨g,rfl⟩:=AA r (by omega);have Z:=Aq r;subst Z;have lg:=(r.lt g rfl).2;obtain ⟨av,sv,l,G,_,_⟩:=x.get J;obtain ⟨aa,al,ac,rfl⟩:=Ad G;have V:=Aq G;subst V;have Q:=l 2 (by omega);have O:=l 0 (by omega);have P:=l 1 (by omega);have R:=l 3 (by omega);have S:=l 4 (by omega);simp only [Lv,dM,dJ,dK,Nat.add_zero] at O P Q R S;clear r G l x D E;by_cases o:f[j].i8.length=a
   ·have i:DH F f t a c=c:=by simp [DH,h,u,y,o]
    rw [i];have Y:((f[j].i8.length:Int) !=(a:Int))=false:=by simp [o]
    clear i h u y o;go_enter Tryz.func165,Tryz.ntmps165;go_wp2;go_region;go_wp2;go_end0;exact ⟨rfl,C.o.O (((Ab.refl (fun _=>False) w).alloc _).drew) (fun q=>q),((Ab.refl _ w).alloc _).drew⟩
   ·have i:DH F f t a c=BA 7 t.c9 c:=by simp [DH,h,u,y,o]
    rw [i];have Y:((f[j].i8.length:Int) !=(a:Int))=true:=by simp;omega
    clear i h u y o;go_enter Tryz.func165,Tryz.ntmps165;go_wp2;go_region;go_wp2_with (go_at_call 75;refine (BK b 7 t.c9 _ B (.map (some m)) A c _ (C.o.O (((Ab.refl (fun _=>False) w).alloc _).drew) (fun q=>q))).mono ?_);rintro e w2 ⟨rfl,I,H⟩;go_wp2;go_end0;exact ⟨rfl,I,(((Ab.refl _ w).alloc _).drew).trans H⟩
structure RF where
 name:Tk
 aZ:List Tk
 bD:List Nat
 br:Nat
 l8:List ByteArray
def Au(B:Nat)(w:World)(v:Value)(l:List ByteArray):Prop:=w.ownsRow B 9 1 v l.length (l.map Value.string)
def CE:List ByteArray→ByteArray→Nat→Int
 | [],_,_=> -1
 | a::l,s,k=>if a.toList=s.toList then (k:Int) else CE l s (k+1)
theorem UV(l:List ByteArray)(s:ByteArray)(k:Nat)(h:k<l.length):CE (l.drop k) s k=if l[k].toList=s.toList then (k:Int) else CE (l.drop (k+1)) s (k+1):=by rw [List.drop_eq_getElem_cons h];rfl
theorem Dd{a b:ByteArray}(h:a.toList=b.toList):a=b:=by rw [ByteArray.toList_eq,ByteArray.toList_eq] at h;exact ByteArray.ext (Array.toList_inj.1 h)
theorem Db(l s):∀k,(0≤CE l s k↔s∈l)∧ -1≤CE l s k∧CE l s k<k+l.length:=by
 induction l with
 | nil=>intro k;simp [CE];omega
 | cons a l d=>
   intro k;rw [CE];split
   ·rename_i h;have:=Dd h;subst this;exact ⟨⟨fun _=>List.mem_cons_self ..,fun _=>by omega⟩,by omega,by simp;omega⟩
   ·rename_i h;obtain ⟨b,c,e⟩:=d (k+1);refine ⟨⟨fun q=>rT _ (b.1 q),fun q=>?_⟩,c,by simp only [rW];omega⟩;rcases List.mem_cons.1 q with q | q
    ·subst q;exact absurd rfl h
    ·exact b.2 q
def C7(e p:Nat)(c:CS):CS:=if c.aR=0∨p<c.c9∨(p=c.c9∧e<c.aR) then ⟨e,p⟩ else c
section
variable {g k B h b : Nat} {U : Nat → Prop} {e i : Value} {a : List RF} {d : List FS} {c : CS} {w j : World}
end
def FH(f:List ByteArray)(t:Tk)(c:CS):CS:=if 0≤CE f t.a9 0 then c else C7 6 t.pos c
def JT(a:List RF)(t:Tk)(l:Int)(c:CS):CS:=
 if 0≤CE (a.map fun f=>f.name.a9) t.a9 0 then
  (if 0≤l∧((((a.map fun f=>f.aZ.length)[(CE (a.map fun f=>f.name.a9) t.a9 0).toNat]?).getD 0:Nat):Int)≠l then C7 7 t.pos c else c)
 else C7 6 t.pos c
def EU(l:List ByteArray)(t:Tk)(c:CS):CS:=
 let f:=if 12≤l.length then C7 4 t.pos c else c
 if 0≤CE l t.a9 0 then C7 5 t.pos f else f
theorem Tryz.infoStr:(Tryz.prog.info? 9).map (fun i=>(i.zero,i.size,i.bytes))=some (some (.string ByteArray.empty),1,16):=by kernel_rfl
theorem iN{s:Nat}:∀{a:List (List Value)},(∀c,c∈a→c.length=s)→∀{i j:Nat} (d:i<a.length),j<s→∀u,a.flatten.set (i*s+j) u=(a.set i (a[i].set j u)).flatten
 | [],_,_,_,d,_,_=>by simp at d
 | c::a,f,i,j,d,g,u=>by
   have b:=f c (List.mem_cons_self ..);cases i with
   | zero=> simp only [Nat.zero_mul,Nat.zero_add,List.flatten_cons,List.set_cons_zero,List.getElem_cons_zero];rw [List.set_append_left _ _ (by omega)]
   | succ i=>
     simp only [List.flatten_cons,List.set_cons_succ,List.getElem_cons_succ];rw [List.set_append_right _ _ (by rw [b,Nat.succ_mul];omega),b];have e:(i+1)*s+j-s=i*s+j:=by rw [Nat.succ_mul];omega
     rw [e,iN (fun c b=>f c (rT _ b)) (by simpa using d) g u]
theorem Ab.cell{X:Nat→Prop}{w a b}(d:Ab X w a)(i)(c:b<w.heap.size)(e:¬X b):a.cell? ⟨b,i,none⟩=w.cell? ⟨b,i,none⟩:=rM (d.block b c e)
theorem Vd(n:Nat):((n:Int)==0)=(n==0):=by rw [Bool.eq_iff_iff];simp
def AW:List TF→Nat→DataW Unit→DataW Unit
 | [],_,D=>D
 | t::l,k,D=>AW l (k+1) (if Maps.has D (Ba t.name.a9) then D else D.put (Ba t.name.a9) (.lit (.int .i64 k)))
theorem NA(a:List TF)(k:Nat)(h:k<a.length)(D:DataW Unit):AW (a.drop k) k D=AW (a.drop (k+1)) (k+1) (if Maps.has D (Ba a[k].name.a9) then D else D.put (Ba a[k].name.a9) (.lit (.int .i64 k))):=by rw [List.drop_eq_getElem_cons h];rfl
theorem GZ(d)(U:Nat→Prop)(G a R w)(x:Di d U w G a)(hl:∀t,t∈a→t.name.a9.size≤4000)(hk:a.length≤4000):
 Calls Tryz.prog 72 #[.agg #[G,.int .i64 R]] w fun e S=>∃M,e=.returned (.map (some M))∧w.heap.size≤M∧A7 M a.length (AW a 0 (.map [])) S∧Ab (fun _=>False) w S:=by
 have a8:=@run_makeMap Tryz.prog;have v:=x;obtain ⟨a4,b,_⟩:=v;obtain ⟨va,vl,vc,rfl⟩:=Ad b;have a3:=Aq b;subst a3;generalize I:AW a 0 (.map [])=V;have F:dN (AW (a.drop 0) 0 (.map [])=V):=I;have T:=Aa x;clear I x b;go_enter Tryz.func72,Tryz.ntmps72;go_wp2;go_loopw [12] (fun i wr=>∃(k:Nat) (D:DataW Unit),k≤a.length∧i=.int .i64 k∧dN (A7 (w.heap.size+1) k D wr)∧dN (Ab (fun _=>False) w wr)∧dN (AW (a.drop k) k D=V)) (fun i _=>a.length-(intOf i).toNat)
 case atStart=> refine ⟨0,.map [],by omega,rfl,Aa ?_,Aa (((Ab.refl _ w).alloc _).alloc _),F⟩;have:=World.ownsMap_made (H:=Unit) (w.alloc (.cells #[.slice va a.length vc,.int .i64 R] 82)) Tryz.prog 9 (plainElem Tryz.prog 3);simpa [A7] using this
 case round=>
  obtain ⟨k,D,a7,rfl,m,n,A⟩:=hrel;clear F;by_cases N:k<a.length
  ·have y:=T.o.O n.o (fun _ _ q=>q);have v:=y;obtain ⟨a5,b,_⟩:=v;obtain ⟨g,rfl⟩:=AA b (by omega);have lg:=(b.lt g rfl).2;obtain ⟨av,sv,f,J,_,a1⟩:=y.get N;obtain ⟨r,u,s,rfl⟩:=Ad J;obtain ⟨a6,Q,_⟩:=a1;obtain ⟨B,E,C,rfl⟩:=Ad Q;have W:=f 0 (by omega);have X:=f 1 (by omega);have Y:=f 2 (by omega);have Z:=f 3 (by omega);have f4:=f 4 (by omega);simp only [Lv,dM,dJ,dK,Nat.add_zero] at W X Y Z f4;have P:=Aa (NA a k N D);have L:=hl a[k] (rQ _);clear b Q J f y;generalize a[k]=t at*;have l1:=n.o.size;have lm:=World.ownsMap.lt m.o;obtain ⟨z,O,_,_⟩:=Ep (w:=wr.alloc (.cells #[.string t.name.a9,.int .i64 t.name.c9,.slice r u s,.int .i64 t.c9,.slice B E C] 134)) (m.o.O ((Ab.refl (fun _=>False) wr).alloc _) (fun q=>q)) L;cases h:Maps.has D (Ba t.name.a9) with
   | true=>
     rw [h] at O;have o:=Aa h;clear h;go_wp2;go_round
     case rel=>
      refine ⟨k+1,D,by omega,by go_num,Aa ?_,Aa (n.o.alloc _),Aa ?_⟩
      ·exact World.ownsMap.mono (m.o.O ((Ab.refl (fun _=>False) wr).alloc _) (fun q=>q)) (by omega)
      ·have:=P.o;rw [if_pos o.o] at this;exact this.symm.trans A.o
     case measure=>simp [intOf];omega
   | false=>
     rw [h] at O;have o:=Aa h;clear h;obtain ⟨w2,a9,a0,l⟩:=Eg (p:=k) (w:=wr.alloc (.cells #[.string t.name.a9,.int .i64 t.name.c9,.slice r u s,.int .i64 t.c9,.slice B E C] 134)) (m.o.O ((Ab.refl (fun _=>False) wr).alloc _) (fun q=>q)) L (by omega) (by omega);go_wp2;go_round
     case rel=>
      refine ⟨k+1,_,by omega,by go_num,Aa a0,Aa ?_,Aa ?_⟩
      ·have c:=n.o.alloc (.cells #[.string t.name.a9,.int .i64 t.name.c9,.slice r u s,.int .i64 t.c9,.slice B E C] 134);exact ⟨l.os.trans c.os,l.tape.trans c.tape,l.output.trans c.output,rO c.size l.size,fun j K _=>(l.block j (rP K c.size) (by omega)).trans (c.block j K (fun q=>q))⟩
      ·have:=P.o;rw [if_neg (by rw [o.o];decide)] at this;exact this.symm.trans A.o
     case measure=>simp [intOf];omega
  ·have e:k=a.length:=by omega
   subst e;have a2:D=V:=by have:=A.o;simpa [AW] using this
   subst a2;go_wp2;go_ret;exact ⟨_,rfl,by omega,m.o,n.o⟩
theorem Jw(b d)(U:Nat→Prop)(q a K I m n F c w)(k:Ci b q K (.map (some m)) I c w)(v:A7 m n F w)(i:Di d U w q a)(C:Kf F a.length)(R:a.length≤4001):
 Calls Tryz.prog 74 #[.pointer (some ⟨b,0,none⟩)] w fun e L=>e=.returned (.bool (Maps.has F (Ba ⟨#[109,97,105,110]⟩) && Iv a (BI F ⟨#[109,97,105,110]⟩)==0))∧Ab (fun _=>False) w L:=by
 have A:=Ar k 0;have J:=Ar k 2;simp only [dM,dJ,dK] at A J;have T:=Ae k;obtain ⟨z,y,l,_⟩:=Ep (w:=w) (s:=⟨#[109,97,105,110]⟩) v (by decide);clear k v;cases f:Maps.has F (Ba ⟨#[109,97,105,110]⟩) with
 | false=> rw [f] at y;clear f i A;go_enter Tryz.func74,Tryz.ntmps74;go_wp2;go_ret;exact ⟨by simp,Ab.refl _ _⟩
 | true=>
   rw [f] at y;obtain ⟨j,u,o⟩:=C _ f;have H:z=(j:Int):=by rw [o] at l;simpa using l.symm
   have t:BI F ⟨#[109,97,105,110]⟩=j:=by simp [BI,o]
   have x:Iv a j=a[j].i8.length:=by simp [Iv,u]
   subst H;have E:=i;obtain ⟨Q,h,_⟩:=E;obtain ⟨W,Y,X,rfl⟩:=Ad h;obtain ⟨g,rfl⟩:=AA h (by omega);have G:=Aq h;subst G;have S:=(h.lt g rfl).2;obtain ⟨P,V,r,p,_,_⟩:=i.get u;obtain ⟨M,O,N,rfl⟩:=Ad p;have D:=Aq p;subst D;have B:=r 2 (by omega);simp only [Lv,dM,dJ,dK] at B;rw [t,x];clear h p r i l o t x f;go_enter Tryz.func74,Tryz.ntmps74;go_wp2;go_ret;exact ⟨by simp [Vd],Ab.refl _ _⟩
structure Ck(b d:Nat)(U:Nat→Prop)(fs:Value)(fns:List TF)(stop:Int)(mf nf m n:Nat)(F D:DataW Unit)(c:CS)(w:World):Prop where
 bB:Ci b fs stop (.map (some mf)) (.map (some m)) c w
 l8:A7 m n D w
 bK:A7 mf nf F w
 rows:Di d U w fs fns
 fin:Kf F fns.length
 bA:fns.length≤4001
 ne:m≠mf
 ub:¬U b
 um:¬U m
theorem Ck.O{b d}{U:Nat→Prop}{g f j e i m n F D c w w'}{X:Nat→Prop}(h:Ck b d U g f j e i m n F D c w)(a:Ab X w w')(l:¬X b)(o:¬X m)(p:¬X e)(q:∀k,U k→¬X k):Ck b d U g f j e i m n F D c w':=
 ⟨Ak.O h.bB a l,h.l8.O a o,h.bK.O a p,h.rows.O a q,h.fin,h.bA,h.ne,h.ub,h.um⟩
theorem Ck.quiet{b d}{U:Nat→Prop}{e a i f g m n F D c w j}(h:Ck b d U e a i f g m n F D c w)(k:Ab (fun _=>False) w j):Ck b d U e a i f g m n F D c j:=
 h.O k (fun q=>q) (fun q=>q) (fun q=>q) (fun _ _ q=>q)
theorem Ck.step{b d}{U:Nat→Prop}{a l g f o m n F D c j w i}(h:Ck b d U a l g f o m n F D c w)(p:Ci b a g (.map (some f)) (.map (some m)) j i)(e:Ab (fun k=>k=b) w i):Ck b d U a l g f o m n F D j i:=
 ⟨p,h.l8.O e (h.l8.ne h.bB),h.bK.O e (h.bK.ne h.bB),h.rows.O e (fun _ r q=>h.ub (q▸r)),h.fin,h.bA,h.ne,h.ub,h.um⟩
theorem Ck.cF{b d}{U:Nat→Prop}{f o i g t m n s F D j c l w a}(h:Ck b d U f o i g t m n F D c w)(u:Ci b f i (.map (some g)) (.map (some m)) l a)(v:A7 m s j a)(r:Ab (fun k=>k=b∨k=m) w a):Ck b d U f o i g t m s F j l a:=
 ⟨u,v,h.bK.O r (fun q=>q.elim (h.bK.ne h.bB) (fun e=>h.ne e.symm)),h.rows.O r (fun _ p q=>q.elim (fun e=>h.ub (e▸p)) (fun e=>h.um (e▸p))),h.fin,h.bA,h.ne,h.ub,h.um⟩
structure Y5(s:VS):Prop where
 tg:s.tg.a9.size≤4000
 tp:s.tg.c9≤4000
 sr:s.sr.a9.size≤4000
 ar:∀t,t∈s.args→t.a9.size≤4000
 al:s.args.length≤4000
def Er(F:DataW Unit)(a:List TF)(s:VS)(x:DataW Unit×CS):DataW Unit×CS:=
 match s.kind with
 | 0=>(GJ x.1 s.tg,El x.1 s.tg x.2)
 | 1=>(x.1,B6 x.1 s.tg x.2)
 | 4=>(x.1,B6 F s.sr (B6 x.1 s.tg x.2))
 | 7=>(x.1,EJ x.1 s.args (DH F a s.sr s.args.length (B6 x.1 s.tg x.2)))
 | 8=>(x.1,EJ x.1 s.args (B6 x.1 s.sr (B6 x.1 s.tg x.2)))
 | 10=>(x.1,B6 x.1 s.sr x.2)
 | _=>(x.1,B6 x.1 s.sr (B6 x.1 s.tg x.2))
structure KS(b d:Nat)(U:Nat→Prop)(fs:Value)(fns:List TF)(stop:Int)(mf nf m n:Nat)(F D:DataW Unit)(sb:Nat)(sc:Array Value)(av:Value)(ar:List PT)(w0:World)(c:CS)(w:World):Prop where
 k:Ck b d U fs fns stop mf nf m n F D c w
 s:Ak sb sc 237 w
 o:Ab (fun k=>k=b∨k=m) w0 w
 a:w.ownsRow 0 128 2 av ar.length (Bt ar)
 u:∀k,av.ownBlock=some k→k≠b
 e:sb≠b
theorem KS.step{b d}{U:Nat→Prop}{e p g f r m n F D s t l j u w i c o}(h:KS b d U e p g f r m n F D s t l j u c w)(v:Ci b e g (.map (some f)) (.map (some m)) o i)(a:Ab (fun k=>k=b) w i):KS b d U e p g f r m n F D s t l j u o i:=
 ⟨h.k.step v a,Ak.O h.s a h.e,h.o.trans (a.mono (fun _ _ q=>.inl q)),Ac h.a a h.u,h.u,h.e⟩
theorem Ak.c8{b:Nat}{l:List Value}{t:TypeId}{w:World}(h:Ak b l.toArray t w):w.cell? ⟨b,0,none⟩=l[0]? ∧w.cell? ⟨b,1,none⟩=l[1]? ∧w.cell? ⟨b,2,none⟩=l[2]? ∧w.cell? ⟨b,3,none⟩=l[3]? ∧w.cell? ⟨b,4,none⟩=l[4]? ∧w.cell? ⟨b,5,none⟩=l[5]? ∧w.cell? ⟨b,6,none⟩=l[6]? ∧w.cell? ⟨b,7,none⟩=l[7]? :=by refine ⟨?_,?_,?_,?_,?_,?_,?_,?_⟩<;>rw [h.cell]<;>simp
theorem Qy(b d a4:Nat)(U:Nat→Prop)(x:Value)(H:List TF)(z:Int)(y O m n:Nat)(F D:DataW Unit)(c:CS)(s:VS)(T bv:Value)(w:World)(K:Ck b d U x H z y O m n F D c w)(I:Y5 s)(hn:n≤4000)(M:w.ownsRow 0 128 2 T s.args.length (Bt s.args))(hu:∀k,T.ownBlock=some k→U k)(a5:∃P R Q,bv=.slice P R Q)(Y:s.kind≤10):
 Calls Tryz.prog 143 #[.pointer (some ⟨b,0,none⟩),.agg (Ej s T bv),.int .i64 a4] w fun e w'=>e=.returned (.tuple #[])∧(∃n',n'≤n+1∧Ck b d U x H z y O m n' F (Er F H s (D,c)).1 (Er F H s (D,c)).2 w')∧Ab (fun k=>k=b∨k=m) w w':=by
 obtain ⟨i,J,C,a0,E⟩:=s;simp only at Y M;obtain ⟨S,l1,V,rfl⟩:=Ad M;have a7:=Aq M;subst a7;obtain ⟨P,R,Q,rfl⟩:=a5;have lb:=Ae K.bB;have Z:=I.tg;have a3:=I.tp;have N:=I.sr;have X:=I.ar;have W:=I.al;simp only at Z a3 N X W;have A:dN (KS b d U x H z y O m n F D w.heap.size #[.int .i64 i,.string J.a9,.int .i64 J.c9,.string C.a9,.int .i64 C.c9,.int .i64 a0,.slice S E.length V,.slice P R Q] (.slice S E.length V) E w c (w.alloc (.cells #[.int .i64 i,.string J.a9,.int .i64 J.c9,.string C.a9,.int .i64 C.c9,.int .i64 a0,.slice S E.length V,.slice P R Q] 237))):=
  ⟨K.quiet ((Ab.refl (fun _=>False) w).alloc _),Ak.new _ _ _,(Ab.refl _ w).alloc _,Ac M ((Ab.refl (fun _=>False) w).alloc _) (fun _ _ q=>q),fun k Y e=>K.ub (e▸hu k Y),by omega⟩
 clear K M I;have a6:i=0∨i=1∨i=2∨i=3∨i=4∨i=5∨i=6∨i=7∨i=8∨i=9∨i=10:=by omega
 rcases a6 with rfl | rfl | rfl | rfl | rfl | rfl | rfl | rfl | rfl | rfl | rfl
 all_goals
  unfold Ej Er;simp only;go_enter Tryz.func143,Tryz.ntmps143
 ·go_wp2_with (go_at_call 115;refine (Js b x z (.map (some y)) m n D _ J _ A.o.k.bB A.o.k.l8 Z a3 hn).mono ?_);rintro e G ⟨rfl,g,hv,a⟩;have f:=Aa (A.o.k.cF g hv a);have O1:=Aa (A.o.o.trans a);clear g hv a;go_wp2;go_end0;exact ⟨rfl,⟨n+1,by omega,f.o⟩,O1.o⟩
 rotate_right
 ·go_wp2_with (go_at_call 163;refine (D8 b x z (.map (some y)) m n D _ C _ A.o.k.bB A.o.k.l8 N).mono ?_);rintro e G ⟨rfl,g,a⟩;have f:=Aa (A.o.step g a);obtain ⟨j,l,o,p,r,t,u,v⟩:=f.o.s.c8;simp only [dJ,dK] at j l o p r t u v;have L:=f.o.o.size;clear g a;go_wp2;go_end0;exact ⟨rfl,⟨n,by omega,f.o.k⟩,f.o.o⟩
 all_goals
  go_wp2_with (go_at_call 163;refine (D8 b x z (.map (some y)) m n D _ J _ A.o.k.bB A.o.k.l8 Z).mono ?_);rintro e G ⟨rfl,g,a⟩;have f:=Aa (A.o.step g a);obtain ⟨j,l,o,p,r,t,u,v⟩:=f.o.s.c8;simp only [dJ,dK] at j l o p r t u v;have L:=f.o.o.size;clear g a
 ·go_wp2;go_end0;exact ⟨rfl,⟨n,by omega,f.o.k⟩,f.o.o⟩
 rotate_left 2
 ·go_wp2_with (go_at_call 164;refine (I7 b x z (.map (some m)) y O F _ C _ f.o.k.bB f.o.k.bK N).mono ?_);rintro e G ⟨rfl,g,a⟩;have h:=Aa (f.o.step g a);obtain ⟨j,l,o,p,r,t,u,v⟩:=h.o.s.c8;simp only [dJ,dK] at j l o p r t u v;have L:=h.o.o.size;clear g a;go_wp2;go_end0;exact ⟨rfl,⟨n,by omega,h.o.k⟩,h.o.o⟩
 rotate_left 2
 ·go_wp2_with (go_at_call 165;refine (Pu b d U x H z (.map (some m)) y O F _ C E.length _ f.o.k.bB f.o.k.bK f.o.k.rows f.o.k.fin N f.o.k.bA).mono ?_);rintro e G ⟨rfl,g,a⟩;have h:=Aa (f.o.step g a);obtain ⟨j,l,o,p,r,t,u,v⟩:=h.o.s.c8;simp only [dJ,dK] at j l o p r t u v;have L:=h.o.o.size;clear g a;go_wp2_with (go_at_call 166;refine (EP b x z (.map (some y)) m n D _ E _ _ h.o.k.bB h.o.k.l8 h.o.a X W).mono ?_);rintro e G ⟨rfl,g,a⟩;have B:=Aa (h.o.step g a);obtain ⟨j,l,o,p,r,t,u,v⟩:=B.o.s.c8;simp only [dJ,dK] at j l o p r t u v;have L:=B.o.o.size;clear g a;go_wp2;go_end0;exact ⟨rfl,⟨n,by omega,B.o.k⟩,B.o.o⟩
 all_goals
  go_wp2_with (go_at_call 163;refine (D8 b x z (.map (some y)) m n D _ C _ f.o.k.bB f.o.k.l8 N).mono ?_);rintro e G ⟨rfl,g,a⟩;have h:=Aa (f.o.step g a);obtain ⟨j,l,o,p,r,t,u,v⟩:=h.o.s.c8;simp only [dJ,dK] at j l o p r t u v;have L:=h.o.o.size;clear g a
 ·go_wp2_with (go_at_call 166;refine (EP b x z (.map (some y)) m n D _ E _ _ h.o.k.bB h.o.k.l8 h.o.a X W).mono ?_);rintro e G ⟨rfl,g,a⟩;have B:=Aa (h.o.step g a);obtain ⟨j,l,o,p,r,t,u,v⟩:=B.o.s.c8;simp only [dJ,dK] at j l o p r t u v;have L:=B.o.o.size;clear g a;go_wp2;go_end0;exact ⟨rfl,⟨n,by omega,B.o.k⟩,B.o.o⟩
 all_goals
  go_wp2;go_end0;exact ⟨rfl,⟨n,by omega,h.o.k⟩,h.o.o⟩
def Kn(F:DataW Unit)(b:List TF):Nat→Nat→TS→DataW Unit×CS→DataW Unit×CS
 | 0,_,_,x=>x
 | d+1,a,.mk s c,x=>
   if s.kind=11∨s.kind=12 then c.foldl (fun x q=>q.2.foldl (fun x t=>Kn F b d (a+1) t x) (x.1,if 6<a+1 then BA 4 q.1 x.2 else x.2)) x
   else Er F b s x
def Nb(F:DataW Unit)(b:List TF)(d a:Nat)(q:Nat×List TS)(x:DataW Unit×CS):DataW Unit×CS:=
 q.2.foldl (fun x t=>Kn F b d a t x) (x.1,if 6<a then BA 4 q.1 x.2 else x.2)
def DC:Nat→TS→Nat
 | 0,_=>0
 | d+1,.mk _ a=>1+(a.map (fun q=>(q.2.map (DC d)).sum)).sum
def Na:Nat→TS→Prop
 | 0,_=>False
 | d+1,.mk s a=>Y5 s∧s.kind≤12∧a.length≤4000∧∀q,q∈a→q.2.length≤4000∧∀t,t∈q.2→Na d t
def Uj(d:Nat):Prop:=∀(b h a:Nat) (U:Nat→Prop) (i:Value) (f:List TF) (p:Int) (j o m n:Nat) (F D:DataW Unit) (c:CS) (t:TS) (g:Array Value) (w:World),
 Ck b h U i f p j o m n F D c w→BD d U w t g.toList→Na d t→n+DC d t≤4000→a+d≤4001→
 Calls Tryz.prog 143 #[.pointer (some ⟨b,0,none⟩),.agg g,.int .i64 a] w fun e q=>e=.returned (.tuple #[])∧(∃l,l≤n+DC d t∧Ck b h U i f p j o m l F (Kn F f d a t (D,c)).1 (Kn F f d a t (D,c)).2 q)∧Ab (fun k=>k=b∨k=m) w q
theorem Cn.get{d}{U:Nat→Prop}{w g l c q}(h:Cn d U w (.slice (some ⟨g,0,none⟩) l c) q){j}(B:j<q.length):
 ∃(s:VS) (a:Option Addr) (m f:Nat) (b:Option Addr) (n k:Nat),(∀i,i<8→w.cell? ⟨g,j*8+i,none⟩=(Ej s (.slice a m f) (.slice b n k))[i]?)∧BD d U w q[j] (Ej s (.slice a m f) (.slice b n k)).toList:=by
 obtain ⟨p,y,O,P,z⟩:=h;have F:=Aq y;subst F;have u:j<p.length:=by omega
 have v:∀i (o:i<q.length) (A:i<p.length),∃(s:VS) (a:Option Addr) (m f:Nat) (b:Option Addr) (n k:Nat),p[i]=(Ej s (.slice a m f) (.slice b n k)).toList:=by
  intro i o A;have r:=z i o A;generalize p[i]=N at r;generalize q[i]=t at r;cases d with
  | zero=>exact r.elim
  | succ d=> obtain ⟨s,L⟩:=t;obtain ⟨J,M,K,e,H,_,I,_⟩:=r;obtain ⟨a,m,f,rfl⟩:=Ad H;obtain ⟨b,n,k,rfl⟩:=Ad I;exact ⟨s,a,m,f,b,n,k,e⟩
 have E:∀x,x∈p→x.length=8:=by intro x G;obtain ⟨i,o,rfl⟩:=List.mem_iff_getElem.1 G;obtain ⟨_,_,_,_,_,_,_,C⟩:=v i (by omega) o;rw [C];rfl
 obtain ⟨s,a,m,f,b,n,k,e⟩:=v j B u;refine ⟨s,a,m,f,b,n,k,fun i o=>?_,by rw [←e];exact z j B u⟩;have D:=y.cellAt (j*8+i) (by omega);rw [D,Cz E u o,e];simp
theorem Em{A B:Type}(f:B→A→B)(l:List A)(k:Nat)(h:k<l.length)(x:B):(l.drop k).foldl f x=(l.drop (k+1)).foldl f (f x l[k]):=by rw [List.drop_eq_getElem_cons h];rfl
theorem OK(f:TS→Nat)(l:List TS)(k:Nat)(h:k<l.length):((l.drop k).map f).sum=f l[k]+((l.drop (k+1)).map f).sum:=by rw [List.drop_eq_getElem_cons h,List.map_cons,List.sum_cons]
theorem GT(d:Nat)(hS:Uj d)(b J h p:Nat)(U:Nat→Prop)(B:Value)(j:List TF)(H:Int)(G M m n:Nat)(F D:DataW Unit)(c:CS)(a:List TS)(sv:Value)(w:World)
 (K:Ck b J U B j H G M m n F D c w)(hR:Cn d U w sv a)(hO:∀t,t∈a→Na d t)(hn:n+(a.map (DC d)).sum≤4000)(hd:h+d≤4001)(hl:a.length≤4000):
 Calls Tryz.prog 116 #[.pointer (some ⟨b,0,none⟩),.agg #[.int .i64 p,sv],.int .i64 h] w fun e w'=>e=.returned (.tuple #[])∧(∃n',n'≤n+(a.map (DC d)).sum∧Ck b J U B j H G M m n' F (Nb F j d h (p,a) (D,c)).1 (Nb F j d h (p,a) (D,c)).2 w')∧Ab (fun k=>k=b∨k=m) w w':=by
 have X:=hR;obtain ⟨b4,v,_⟩:=X;obtain ⟨va,vl,vc,rfl⟩:=Ad v;have b3:=Aq v;subst b3;have lb:=Ae K.bB;have O:=Aa (K.quiet ((Ab.refl (fun _=>False) w).alloc (.cells #[.int .i64 p,.slice va a.length vc] 132)));have S0:=Aa (Ak.new w #[.int .i64 p,.slice va a.length vc] 132);have O0:=Aa ((Ab.refl (fun k=>k=b∨k=m) w).alloc (.cells #[.int .i64 p,.slice va a.length vc] 132));have R0:=Aa hR;have HS:=Aa hS;clear K hR v hS;by_cases h6:6<h
 ·have a9:(6:Int)<(h:Int):=by omega
  obtain ⟨l,L⟩:∃l,BA 4 p c=l:=⟨_,rfl⟩;generalize T:Nb F j d h (p,a) (D,c)=V;have N:dN ((a.drop 0).foldl (fun x t=>Kn F j d h t x) (D,l)=V):=by rw [←T,Nb,if_pos h6,L];rfl
  have C1:=Aa L;clear T L h6;go_enter Tryz.func116,Tryz.ntmps116;go_wp2_with (go_at_call 75;refine (BK b 4 p B H (.map (some G)) (.map (some m)) c _ O.o.bB).mono ?_);rw [C1.o];rintro e W ⟨rfl,kw,ow⟩;have P:=Aa (O.o.step kw ow);have I:=Aa (O0.o.trans (ow.mono (fun _ _ q=>.inl q)));have s0:=Ar (Ak.O S0.o ow (by omega)) 1;simp only [dM,dJ,dK] at s0;have z1:=I.o.size;clear kw ow O O0 S0;go_wp2;go_loopw [17] (fun i wr=>∃(k u:Nat) (o:DataW Unit) (r:CS),k≤a.length∧i=.int .i64 k∧u+((a.drop k).map (DC d)).sum≤n+(a.map (DC d)).sum∧dN (Ck b J U B j H G M m u F o r wr)∧dN (Ab (fun k=>k=b∨k=m) w wr)∧dN ((a.drop k).foldl (fun x t=>Kn F j d h t x) (o,r)=V)) (fun i _=>a.length-(intOf i).toNat)
  case atStart=>exact ⟨0,n,D,l,by omega,rfl,by simp,P,I,N⟩
  case round=>
   obtain ⟨k,u,o,r,b0,rfl,a4,y,z,a0⟩:=hrel;clear N P I;by_cases E:k<a.length
   ·have C:Cn d U wr (.slice va a.length vc) a:=Cn.O R0.o z.o (fun _ Y q=>q.elim (fun e=>y.o.ub (e▸Y)) (fun e=>y.o.um (e▸Y)));have X:=C;obtain ⟨a8,v,_⟩:=X;obtain ⟨g,rfl⟩:=AA v (by omega);have lg:=(v.lt g rfl).2;obtain ⟨s,Q,l1,l,R,l2,S,f,Z⟩:=C.get E;have f0:=f 0 (by omega);have f1:=f 1 (by omega);have f2:=f 2 (by omega);have f3:=f 3 (by omega);have f4:=f 4 (by omega);have f5:=f 5 (by omega);have f6:=f 6 (by omega);have f7:=f 7 (by omega);simp only [Ej,dM,dJ,dK,Nat.add_zero] at f0 f1 f2 f3 f4 f5 f6 f7;have a6:=Aa (Em (fun x t=>Kn F j d h t x) a k E (o,r));have b2:=OK (DC d) a k E;have a5:=Aa (hO a[k] (rQ _));have a3:=Aa Z;clear v f C Z;generalize a[k]=t at*;have l0:=z.o.size;have A:=Aa ((Ab.refl (fun _=>False) wr).alloc (.cells #[.int .i64 s.kind,.string s.tg.a9,.int .i64 s.tg.c9,.string s.sr.a9,.int .i64 s.sr.c9,.int .i64 s.field,.slice Q l1 l,.slice R l2 S] 237));go_wp2_with (go_at_call 143;refine (HS.o b J h U B j H G M m u F o r t #[.int .i64 s.kind,.string s.tg.a9,.int .i64 s.tg.c9,.string s.sr.a9,.int .i64 s.sr.c9,.int .i64 s.field,.slice Q l1 l,.slice R l2 S] _ (y.o.quiet A.o) (BD.O a3.o A.o (fun _ _ q=>q)) a5.o (by omega) hd).mono ?_;rintro e w2 ⟨rfl,⟨n2,b1,k2⟩,o2⟩);go_round
    case rel=>exact ⟨k+1,n2,_,_,by omega,by go_num,by omega,Aa k2,Aa (z.o.trans ((A.o.mono (fun _ _ q=>q.elim)).trans o2)),Aa (a6.o.symm.trans a0.o)⟩
    case measure=>simp [intOf];omega
   ·have e:k=a.length:=by omega
    subst e;have a7:(o,r)=V:=by have:=a0.o;simpa using this
    subst a7;go_wp2;go_end0;simp at a4;exact ⟨rfl,⟨u,by omega,y.o⟩,z.o⟩
 ·have a9:¬(6:Int)<(h:Int):=by omega
  obtain ⟨l,L⟩:∃l,c=l:=⟨_,rfl⟩;generalize T:Nb F j d h (p,a) (D,c)=V;have N:dN ((a.drop 0).foldl (fun x t=>Kn F j d h t x) (D,l)=V):=by rw [←T,Nb,if_neg h6,L];rfl
  subst L;clear T h6;go_enter Tryz.func116,Tryz.ntmps116;go_wp2;have P:=O;have I:=O0;clear O O0 S0;go_loopw [17] (fun i wr=>∃(k u:Nat) (o:DataW Unit) (r:CS),k≤a.length∧i=.int .i64 k∧u+((a.drop k).map (DC d)).sum≤n+(a.map (DC d)).sum∧dN (Ck b J U B j H G M m u F o r wr)∧dN (Ab (fun k=>k=b∨k=m) w wr)∧dN ((a.drop k).foldl (fun x t=>Kn F j d h t x) (o,r)=V)) (fun i _=>a.length-(intOf i).toNat)
  case atStart=>exact ⟨0,n,D,c,by omega,rfl,by simp,P,I,N⟩
  case round=>
   obtain ⟨k,u,o,r,b0,rfl,a4,y,z,a0⟩:=hrel;clear N P I;by_cases E:k<a.length
   ·have C:Cn d U wr (.slice va a.length vc) a:=Cn.O R0.o z.o (fun _ Y q=>q.elim (fun e=>y.o.ub (e▸Y)) (fun e=>y.o.um (e▸Y)));have X:=C;obtain ⟨a8,v,_⟩:=X;obtain ⟨g,rfl⟩:=AA v (by omega);have lg:=(v.lt g rfl).2;obtain ⟨s,Q,l1,l,R,l2,S,f,Z⟩:=C.get E;have f0:=f 0 (by omega);have f1:=f 1 (by omega);have f2:=f 2 (by omega);have f3:=f 3 (by omega);have f4:=f 4 (by omega);have f5:=f 5 (by omega);have f6:=f 6 (by omega);have f7:=f 7 (by omega);simp only [Ej,dM,dJ,dK,Nat.add_zero] at f0 f1 f2 f3 f4 f5 f6 f7;have a6:=Aa (Em (fun x t=>Kn F j d h t x) a k E (o,r));have b2:=OK (DC d) a k E;have a5:=Aa (hO a[k] (rQ _));have a3:=Aa Z;clear v f C Z;generalize a[k]=t at*;have l0:=z.o.size;have A:=Aa ((Ab.refl (fun _=>False) wr).alloc (.cells #[.int .i64 s.kind,.string s.tg.a9,.int .i64 s.tg.c9,.string s.sr.a9,.int .i64 s.sr.c9,.int .i64 s.field,.slice Q l1 l,.slice R l2 S] 237));go_wp2_with (go_at_call 143;refine (HS.o b J h U B j H G M m u F o r t #[.int .i64 s.kind,.string s.tg.a9,.int .i64 s.tg.c9,.string s.sr.a9,.int .i64 s.sr.c9,.int .i64 s.field,.slice Q l1 l,.slice R l2 S] _ (y.o.quiet A.o) (BD.O a3.o A.o (fun _ _ q=>q)) a5.o (by omega) hd).mono ?_;rintro e w2 ⟨rfl,⟨n2,b1,k2⟩,o2⟩);go_round
    case rel=>exact ⟨k+1,n2,_,_,by omega,by go_num,by omega,Aa k2,Aa (z.o.trans ((A.o.mono (fun _ _ q=>q.elim)).trans o2)),Aa (a6.o.symm.trans a0.o)⟩
    case measure=>simp [intOf];omega
   ·have e:k=a.length:=by omega
    subst e;have a7:(o,r)=V:=by have:=a0.o;simpa using this
    subst a7;go_wp2;go_end0;simp at a4;exact ⟨rfl,⟨u,by omega,y.o⟩,z.o⟩
def MF(d:Nat)(q:Nat×List TS):Nat:=(q.2.map (DC d)).sum
theorem Mj(f:Nat×List TS→Nat)(l:List (Nat×List TS))(k:Nat)(h:k<l.length):((l.drop k).map f).sum=f l[k]+((l.drop (k+1)).map f).sum:=by rw [List.drop_eq_getElem_cons h,List.map_cons,List.sum_cons]
theorem MH(d:Nat)(hS:Uj d)(b H f:Nat)(U:Nat→Prop)(I:Value)(h:List TF)(M:Int)(J L m n:Nat)(F D:DataW Unit)(c:CS)(s:VS)(a:List (Nat×List TS))(cs:Array Value)(w:World)
 (K:Ck b H U I h M J L m n F D c w)(hT:BD (d+1) U w (.mk s a) cs.toList)(hO:Na (d+1) (.mk s a))(hn:n+DC (d+1) (.mk s a)≤4000)(hd:f+(d+1)≤4001)(S:s.kind=11∨s.kind=12):
 Calls Tryz.prog 143 #[.pointer (some ⟨b,0,none⟩),.agg cs,.int .i64 f] w fun e w'=>e=.returned (.tuple #[])∧(∃n',n'≤n+DC (d+1) (.mk s a)∧Ck b H U I h M J L m n' F (a.foldl (fun x q=>Nb F h d (f+1) q x) (D,c)).1 (a.foldl (fun x q=>Nb F h d (f+1) q x) (D,c)).2 w')∧Ab (fun k=>k=b∨k=m) w w':=by
 obtain ⟨av,bv,a7,b0,ha,b3,a3,c3,a8,b1⟩:=hT;obtain ⟨ho,_,c4,b2⟩:=hO;obtain ⟨a1,l1,c1,rfl⟩:=Ad ha;obtain ⟨a2,l2,c2,rfl⟩:=Ad a3;have c0:=Aq a3;subst c0;have b4:cs=Ej s (.slice a1 l1 c1) (.slice a2 a.length c2):=Array.ext' b0;subst b4;have a9:DC (d+1) (.mk s a)=1+(a.map (MF d)).sum:=rfl;rw [a9] at hn⊢;have lb:=Ae K.bB;have b6:∃kd:Nat,s.kind=kd:=⟨_,rfl⟩;generalize hV:a.foldl (fun x q=>Nb F h d (f+1) q x) (D,c)=V;have HV:dN ((a.drop 0).foldl (fun x q=>Nb F h d (f+1) q x) (D,c)=V):=hV;have HS:=Aa hS;have HI:=Aa b1;have HB:=Aa a3;clear hV hS b1 b0 ha b3 a9 b6;rcases S with S | S
 ·have B:=Aa ((Ab.refl (fun _=>False) w).alloc (.cells #[.int .i64 11,.string s.tg.a9,.int .i64 s.tg.c9,.string s.sr.a9,.int .i64 s.sr.c9,.int .i64 s.field,.slice a1 l1 c1,.slice a2 a.length c2] 237));unfold Ej;rw [S,show ((11:Nat):Int)=11 from rfl];go_enter Tryz.func143,Tryz.ntmps143;go_wp2;go_loopw [89] (fun i wr=>∃(k v:Nat) (l:DataW Unit) (o:CS),k≤a.length∧i=.int .i64 k∧v+((a.drop k).map (MF d)).sum≤n+(1+(a.map (MF d)).sum)∧dN (Ck b H U I h M J L m v F l o wr)∧dN (Ab (fun k=>k=b∨k=m) w wr)∧dN ((a.drop k).foldl (fun x q=>Nb F h d (f+1) q x) (l,o)=V)) (fun i _=>a.length-(intOf i).toNat)
  case atStart=>exact ⟨0,n,D,c,by omega,rfl,by simp,Aa (K.quiet B.o),Aa (B.o.mono (fun _ _ q=>q.elim)),HV⟩
  case round=>
   obtain ⟨k,v,l,o,b7,rfl,a4,X,y,W⟩:=hrel;clear HV B;by_cases E:k<a.length
   ·have Q:∀j,U j→¬(j=b∨j=m):=fun _ z q=>q.elim (fun e=>K.ub (e▸z)) (fun e=>K.um (e▸z))
    have p:=Ac HB.o y.o (fun j z=>Q j (a8 j z));obtain ⟨sv,a0,e,r,Y,u,Z⟩:=HI.o k E (by omega);have hR:=Aa (Cn.O (d:=d) (U:=U) (w:=w) (sv:=sv) (sts:=a[k].2) ⟨a0,r,Y,u,Z⟩ y.o Q);obtain ⟨sa,sl,sc,rfl⟩:=Ad r;obtain ⟨g,rfl⟩:=AA p (by omega);have lg:=(p.lt g rfl).2;have G:∀x,x∈a7→x.length=2:=by intro x hx;obtain ⟨i,hi,rfl⟩:=List.mem_iff_getElem.1 hx;obtain ⟨_,_,e',_⟩:=HI.o i (by omega) hi;rw [e'];rfl
    have O:=p.cellAt (k*2) (by omega);have P:=p.cellAt (k*2+1) (by omega);have C:=Cz G (j:=k) (i:=0) (by omega) (by omega);have N:=Cz G (j:=k) (i:=1) (by omega) (by omega);rw [Nat.add_zero] at C;rw [C,e] at O;rw [N,e] at P;simp only [dJ,dK] at O P;have a5:=Aa (Em (fun x q=>Nb F h d (f+1) q x) a k E (l,o));have b9:=Mj (MF d) a k E;have T:=Aa (b2 a[k] (rQ _));clear p r Z u e C N G Y;generalize a[k]=t at*;have l0:=y.o.size;have A:=Aa ((Ab.refl (fun _=>False) wr).alloc (.cells #[.int .i64 t.1,.slice sa sl sc] 132));have R:((f:Int)+1)=((f+1:Nat):Int):=by omega
    have b5:MF d t=(t.2.map (DC d)).sum:=rfl;have HD:=Aa R;clear R;go_wp2_with (go_at_call 116;rw [HD.o];refine (GT d HS.o b H (f+1) t.1 U I h M J L m v F l o t.2 (.slice sa sl sc) _ (X.o.quiet A.o) (Cn.O hR.o A.o (fun _ _ q=>q)) T.o.2 (by omega) (by omega) T.o.1).mono ?_;rintro e w2 ⟨rfl,⟨n2,b8,k2⟩,o2⟩);go_round
    case rel=>exact ⟨k+1,n2,_,_,by omega,by go_num,by omega,Aa k2,Aa (y.o.trans ((A.o.mono (fun _ _ q=>q.elim)).trans o2)),Aa (a5.o.symm.trans W.o)⟩
    case measure=>simp [intOf];omega
   ·have e:k=a.length:=by omega
    subst e;have a6:(l,o)=V:=by have:=W.o;simpa using this
    subst a6;go_wp2;go_end0;simp at a4;exact ⟨rfl,⟨v,by omega,X.o⟩,y.o⟩
 ·have B:=Aa ((Ab.refl (fun _=>False) w).alloc (.cells #[.int .i64 12,.string s.tg.a9,.int .i64 s.tg.c9,.string s.sr.a9,.int .i64 s.sr.c9,.int .i64 s.field,.slice a1 l1 c1,.slice a2 a.length c2] 237));unfold Ej;rw [S,show ((12:Nat):Int)=12 from rfl];go_enter Tryz.func143,Tryz.ntmps143;go_wp2;go_loopw [89] (fun i wr=>∃(k v:Nat) (l:DataW Unit) (o:CS),k≤a.length∧i=.int .i64 k∧v+((a.drop k).map (MF d)).sum≤n+(1+(a.map (MF d)).sum)∧dN (Ck b H U I h M J L m v F l o wr)∧dN (Ab (fun k=>k=b∨k=m) w wr)∧dN ((a.drop k).foldl (fun x q=>Nb F h d (f+1) q x) (l,o)=V)) (fun i _=>a.length-(intOf i).toNat)
  case atStart=>exact ⟨0,n,D,c,by omega,rfl,by simp,Aa (K.quiet B.o),Aa (B.o.mono (fun _ _ q=>q.elim)),HV⟩
  case round=>
   obtain ⟨k,v,l,o,b7,rfl,a4,X,y,W⟩:=hrel;clear HV B;by_cases E:k<a.length
   ·have Q:∀j,U j→¬(j=b∨j=m):=fun _ z q=>q.elim (fun e=>K.ub (e▸z)) (fun e=>K.um (e▸z))
    have p:=Ac HB.o y.o (fun j z=>Q j (a8 j z));obtain ⟨sv,a0,e,r,Y,u,Z⟩:=HI.o k E (by omega);have hR:=Aa (Cn.O (d:=d) (U:=U) (w:=w) (sv:=sv) (sts:=a[k].2) ⟨a0,r,Y,u,Z⟩ y.o Q);obtain ⟨sa,sl,sc,rfl⟩:=Ad r;obtain ⟨g,rfl⟩:=AA p (by omega);have lg:=(p.lt g rfl).2;have G:∀x,x∈a7→x.length=2:=by intro x hx;obtain ⟨i,hi,rfl⟩:=List.mem_iff_getElem.1 hx;obtain ⟨_,_,e',_⟩:=HI.o i (by omega) hi;rw [e'];rfl
    have O:=p.cellAt (k*2) (by omega);have P:=p.cellAt (k*2+1) (by omega);have C:=Cz G (j:=k) (i:=0) (by omega) (by omega);have N:=Cz G (j:=k) (i:=1) (by omega) (by omega);rw [Nat.add_zero] at C;rw [C,e] at O;rw [N,e] at P;simp only [dJ,dK] at O P;have a5:=Aa (Em (fun x q=>Nb F h d (f+1) q x) a k E (l,o));have b9:=Mj (MF d) a k E;have T:=Aa (b2 a[k] (rQ _));clear p r Z u e C N G Y;generalize a[k]=t at*;have l0:=y.o.size;have A:=Aa ((Ab.refl (fun _=>False) wr).alloc (.cells #[.int .i64 t.1,.slice sa sl sc] 132));have R:((f:Int)+1)=((f+1:Nat):Int):=by omega
    have b5:MF d t=(t.2.map (DC d)).sum:=rfl;have HD:=Aa R;clear R;go_wp2_with (go_at_call 116;rw [HD.o];refine (GT d HS.o b H (f+1) t.1 U I h M J L m v F l o t.2 (.slice sa sl sc) _ (X.o.quiet A.o) (Cn.O hR.o A.o (fun _ _ q=>q)) T.o.2 (by omega) (by omega) T.o.1).mono ?_;rintro e w2 ⟨rfl,⟨n2,b8,k2⟩,o2⟩);go_round
    case rel=>exact ⟨k+1,n2,_,_,by omega,by go_num,by omega,Aa k2,Aa (y.o.trans ((A.o.mono (fun _ _ q=>q.elim)).trans o2)),Aa (a5.o.symm.trans W.o)⟩
    case measure=>simp [intOf];omega
   ·have e:k=a.length:=by omega
    subst e;have a6:(l,o)=V:=by have:=W.o;simpa using this
    subst a6;go_wp2;go_end0;simp at a4;exact ⟨rfl,⟨v,by omega,X.o⟩,y.o⟩
theorem LQ:∀d,Uj d
 | 0=>fun _ _ _ _ _ _ _ _ _ _ _ _ _ _ _ _ _ _ h _ _ _=>h.elim
 | d+1=>by
   intro b u g U v f B z A m n F D c t r w K h i N M
   obtain ⟨s,a⟩:=t;by_cases j:s.kind=11∨s.kind=12
   ·have k:Kn F f (d+1) g (.mk s a) (D,c)=a.foldl (fun x q=>Nb F f d (g+1) q x) (D,c):=by simp only [Kn,if_pos j];rfl
    rw [k]
    exact MH d (LQ d) b u g U v f B z A m n F D c s a r w K h i N M j
   ·have k:Kn F f (d+1) g (.mk s a) (D,c)=Er F f s (D,c):=by simp only [Kn,if_neg j]
    rw [k];have S:DC (d+1) (.mk s a)=1+(a.map (fun q=>(q.2.map (DC d)).sum)).sum:=rfl;obtain ⟨o,Q,P,J,G,H,I,_⟩:=h;obtain ⟨l,y,p,rfl⟩:=Ad I;have L:r=Ej s o (.slice l y p):=Array.ext' J;subst L;refine (Qy b u g U v f B z A m n F D c s o _ w K i.1 (by omega) G H ⟨l,y,p,rfl⟩ (by have:=i.2.1;omega)).mono ?_;rintro e T ⟨rfl,⟨O,R,C⟩,E⟩;exact ⟨rfl,⟨O,by omega,C⟩,E⟩
def RA(l:List PT)(x:DataW Unit×CS):DataW Unit×CS:=l.foldl (fun x t=>(GJ x.1 t,El x.1 t x.2)) x
end Go.Proofs.YtegmjgjkcdbmkaaGreatDoor
