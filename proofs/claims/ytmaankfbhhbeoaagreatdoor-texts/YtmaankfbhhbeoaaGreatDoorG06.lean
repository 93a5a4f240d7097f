/- One of the texts of the proof of texts_card_holds: TrM TrN CkA CkB CkC. -/
import Derived.Test.YtmaankfbhhbeoaaGreatDoorG05
import Derived.Maps.OwnSet
import Derived.StringKeys
set_option maxRecDepth 100000
set_option maxHeartbeats 2000000
namespace Go.Proofs.YtmaankfbhhbeoaaGreatDoor
open Go.RowKit Go.Maps
theorem Tryz.infoTF:(Tryz.prog.info? 126).map (fun i=>(i.zero,i.size,i.bytes))=some (some (.agg Mm),5,80):=by kernel_rfl
def Db(b:List PT)(n:Nat):Nat→PS→List TF→List TF×PS
 | 0,x,a=>(a,x)
 | f+1,x,a=>if (Ah b x.d8).kind=3 then Db b n f (FA b n x).2 (a++[(FA b n x).1]) else (a,x)
def Bx(a:List PT)(n:Nat)(x:PS):List TF×Nat×PS:=
 let r:=Db a n n (FA a n x).2 [(FA a n x).1]
 (r.1,(Av a 0 r.2).f8,Ae a n 0 r.2)
def Cy(d:Nat)(U:Nat→Prop)(w:World)(c:Value)(b:List TF):Prop:=∃a:List (List Value),w.ownsRow 0 126 5 c b.length a.flatten∧a.length=b.length∧(∀k,c.ownBlock=some k→U k)∧∀j (g:j<b.length) (e:j<a.length),Ez d U w b[j] a[j]
def Mp(b g n h:Nat)(w:World)(r:List TF×Nat×PS)(e:Ending)(f:World):Prop:=
 ∃(d:Nat) (U:Nat→Prop) (a:Option Addr) (l c:Nat),e=.returned (.agg #[.slice a l c,.int .i64 r.2.1])∧Cy d U f (.slice a l c) r.1∧(∀k,U k→w.heap.size≤k∧k<f.heap.size)∧AH b g n h r.2.2 f∧Ab (fun k=>k=b) w f
structure FW(lo lb d:Nat)(U:Nat→Prop)(w:World)(sv:Value)(acc:List TF)(css:List (List Value)):Prop where
 row:w.ownsRow lo 126 5 sv acc.length css.flatten
 len:css.length=acc.length
 y6:∀j (g:j<acc.length) (g':j<css.length),Ez d U w acc[j] css[j]
 u:∀k,U k→lo≤k∧k<w.heap.size∧k≠lb
 apart:∀k,sv.ownBlock=some k→¬U k∧k≠lb
theorem FW.d7{e c d}{U:Nat→Prop}{w m sv f i}{X:Nat→Prop}(h:FW e c d U w sv f i)(b:Ab X w m)(l:∀k,e≤k→k<w.heap.size→k≠c→¬X k):FW e c d U m sv f i:=
 ⟨Ac h.row b (fun k a=>l k (h.row.lt k a).1 (h.row.lt k a).2 (h.apart k a).2),h.len,fun j g n=>(h.y6 j g n).d7 b (fun k a=>l k (h.u k a).1 (h.u k a).2.1 (h.u k a).2.2),fun k a=>⟨(h.u k a).1,Nat.lt_of_lt_of_le (h.u k a).2.1 b.size,(h.u k a).2.2⟩,h.apart⟩
theorem FW.push{n b d v}{U p:Nat→Prop}{w W l i o u f r t c}(h:FW n b d U w i f r)(J:b<w.heap.size)(F:Ez v p w t c)(g:∀k,p k→n≤k∧k<w.heap.size∧k≠b∧¬i.ownBlock=some k)(C:Ab (fun _=>False) w W)
 (E:l.ownsRow n 126 5 o (f.length+1) (r.flatten++c))(D:W.grownBy l i.ownBlock)(A:∀k,o.ownBlock=some k→i.ownBlock=some k∨w.heap.size≤k):
 FW n b (max d v) (fun k=>U k∨p k) (l.setCell ⟨b,0,none⟩ u) o (f++[t]) (r++[c]):=by
 have s:Ab (fun k=>i.ownBlock=some k) w l:=Ab.grown (C.mono (fun _ _ q=>q.elim)) D (fun k a=>.inl a);have m:=(Ab.refl (fun k=>k=b) l).i7 0 u;have z:=h.len;have x:∀k,o.ownBlock=some k→k≠b:=fun k a=>by
  rcases A k a with e | e
  ·exact (h.apart k e).2
  ·omega
 refine ⟨?_,by simp [z],?_,?_,?_⟩
 ·have:=Ac E m x;simpa using this
 ·intro j B G;by_cases y:j<f.length
  ·rw [List.getElem_append_left y,List.getElem_append_left (by omega)];exact ((((h.y6 j y (by omega)).d7 s (fun k a q=>(h.apart k q).1 a)).d7 m (fun k a=>(h.u k a).2.2)).more (fun k a=>.inl a)).u8 (Nat.le_max_left _ _)
  ·have e:j=f.length:=by simp at B;omega
   subst e;rw [List.getElem_append_right (by omega),List.getElem_append_right (by omega)];simp only [Nat.sub_self,z,List.getElem_cons_zero];exact (((F.d7 s (fun k a=>(g k a).2.2.2)).d7 m (fun k a=>(g k a).2.2.1)).more (fun k a=>.inr a)).u8 (Nat.le_max_right _ _)
 ·intro k a;have H:=s.size;have I:=m.size;rcases a with a | a
  ·have:=h.u k a;exact ⟨this.1,by omega,this.2.2⟩
  ·have:=g k a;exact ⟨this.1,by omega,this.2.2.1⟩
 ·intro k a;refine ⟨fun q=>?_,x k a⟩;rcases A k a with e | e
  ·rcases q with q | q
   ·exact (h.apart k e).1 q
   ·exact (g k q).2.2.2 e
  ·rcases q with q | q
   ·have:=(h.u k q).2.1;omega
   ·have:=(g k q).2.1;omega
theorem LC(t a d l f c e):∀u∈(Ia t (.slice a l c) (.slice d f e)).toList,u.oneCell'=true:=by intro u b;simp [Ia] at b;rcases b with rfl | rfl | rfl | rfl | rfl<;>rfl
theorem LH{w:World}(a:Array Value)(b:a.size=5):(w.alloc (.cells a 126)).ownsRow w.heap.size 126 5 (.slice (some ⟨w.heap.size,0,none⟩) 1 1) 1 a.toList:=
 ⟨by simpa using b,.inr ⟨w.heap.size,1,a,rfl,Nat.le_refl _,heap_alloc_new w _,Nat.le_refl _,by unfold maxLen;omega,by simpa using b,by rw [List.take_of_length_le (by simp;omega)]⟩⟩
theorem Fm(O a8)(hF:Bi O a8)(b g n r Y i w)(hb:O≤b)(hG:Below O a8 w)(hB:O≤w.heap.size)(hr:AH b g n r Y w)(V:AI g n r i w)(d7:Y.d8<n)(hz:(Ah i (n-1)).kind=0):
 Calls Tryz.prog 37 #[.pointer (some ⟨b,0,none⟩)] w fun e w'=>Mp b g n r w (Bx i n Y) e w':=by
 obtain ⟨i0,hi,f3,f4,f5⟩:=info_parts Tryz.infoTF;have lr:=Ad hr;have lg:=V.lt;have hn:=V.2.2.1;have d8:=V.ne hr (by decide);have z:=Dy hz d7;obtain ⟨N,x1,E⟩:∃t y,FA i n Y=(t,y):=⟨_,_,rfl⟩;rw [E] at z;have f0:=z.2;obtain ⟨l2,x2,h2⟩:∃l y,Db i n n x1 [N]=(l,y):=⟨_,_,rfl⟩;have hv:Bx i n Y=(l2,(Av i 0 x2).f8,Ae i n 0 x2):=by simp only [Bx,E,h2]
 rw [hv];have HG:=Aa hG;have HZ:=Aa hz;have HF:=Aa hF;have X1:=Aa E;have X2:=Aa h2;clear E h2 hv hz hG hF z;go_enter Tryz.func37,Tryz.ntmps37;go_wp2_with fail;refine (EK O a8 HF.o b g n r Y i _ hb (Ab.keeps HG.o ((Ab.refl (fun k=>k=b) w).alloc _) hB hb) (by simp;omega) (Aq.alloc hr _) (V.d7 ((Ab.refl (fun _=>False) _).alloc _) (fun q=>q)) d7 HZ.o).mono ?_;rw [X1.o];rintro e m ⟨d2,U2,fa,fl,fc,b3,b5,b4,rfl,e1,d5,b8,a2⟩;have f6:=a2.size;simp at f6;have c1:Nj (Aq w.heap.size #[.slice none 0 0,.int .i64 0] 36 m):=(Aq.new w _ _).d7 a2 (by omega);have c2:=Aa (((Ab.refl (fun k=>k=b) w).alloc _).trans a2);have c6:=Aa ((V.d7 ((Ab.refl (fun _=>False) _).alloc (.cells #[.slice none 0 0,.int .i64 0] 36)) (fun q=>q)).d7 a2 d8);have c3:=Aa b8;have c5:=Aa e1;have a9:=Aa d5;have g4:=Ad b8;clear b8 a2 hr V e1 d5;unfold Ia;go_wp2_with fail;go_loopw [] (fun wr=>∃(x:PS) (f d:Nat) (U:Nat→Prop) (sv:Value) (L:List TF) (b2:List (List Value)),x.d8<n∧L.length≤x.d8+1∧n-x.d8≤f∧Nj (AH b g n r x wr)∧Nj (AI g n r i wr)∧Nj (Aq w.heap.size #[.slice none 0 0,.int .i64 0] 36 wr)∧Nj (Aq (m.heap.size+1) #[sv,.int .i64 0] 36 wr)∧Nj (FW (w.heap.size+1) (m.heap.size+1) d U wr sv L b2)∧Nj (Ab (fun k=>k=b) w wr)∧Nj (Db i n f x L=(l2,x2))) (fun wr=>n-Gj b wr)
 case atStart=>
  refine ⟨x1,n,d2,U2,.slice (some ⟨m.heap.size,0,none⟩) 1 1,[N],[(Ia N (.slice fa fl fc) (.slice b3 b5 b4)).toList],f0,by simp,by omega,Aq.alloc (Aq.alloc c3.o _) _,c6.o.d7 (((Ab.refl (fun _=>False) _).alloc _).alloc _) (fun q=>q),Aq.alloc (Aq.alloc c1.o _) _,?_,?_,(c2.o.alloc _).alloc _,X2⟩
  ·refine Aa ?_;have:=Aq.new (m.alloc (.cells #[.string N.name.d9,.int .i64 N.name.f8,.slice fa fl fc,.int .i64 N.f8,.slice b3 b5 b4] 126)) #[.slice (some ⟨m.heap.size,0,none⟩) 1 1,.int .i64 0] 36;simpa using this
  ·refine Aa ⟨?_,rfl,?_,?_,?_⟩
   ·have:=(LH (w:=m) (Ia N (.slice fa fl fc) (.slice b3 b5 b4)) rfl).alloc (.cells #[.slice (some ⟨m.heap.size,0,none⟩) 1 1,.int .i64 0] 36);exact Ar (by simpa [Ia] using this) (by omega)
   ·intro j z g2;have e:j=0:=by simp at z;omega
    subst e;exact c5.o.d7 (((Ab.refl (fun _=>False) _).alloc _).alloc _) (fun _ _ q=>q)
   ·intro k c;have:=a9.o k c;simp at this⊢;omega
   ·intro k c;simp [Value.ownBlock] at c;refine ⟨fun q=>?_,by omega⟩;have:=a9.o k q;omega
 case round=>
  clear c3 c6 c1 c2 X2 c5 a9;obtain ⟨x,f,d,U,sv,L,b2,W,f7,hf,M,R,a5,hC,a6,hO,HC⟩:=hrel;have e3:=Aa (CV M.o);by_cases T:(Ah i x.d8).kind=3
  ·obtain ⟨f2,rfl⟩:∃f2,f=f2+1:=⟨f-1,by omega⟩;obtain ⟨t3,x3,h3⟩:∃t y,FA i n x=(t,y):=⟨_,_,rfl⟩;have c9:Db i n f2 x3 (L++[t3])=(l2,x2):=by have:=HC.o;rw [Db,if_pos T,h3] at this;exact this
   have f1:x.d8+1≤x3.d8∧x3.d8<n:=by have z:=Dy (n:=n) HZ.o W;have g2:=Gd HZ.o W T;rw [h3] at z g2;exact ⟨g2,z.2⟩
   have X3:=Aa h3;have e2:=Aa c9;have HK:=Aa T;clear HC h3 c9 T;go_wp2_with fail;refine (AJ b g n r x i _ M.o R.o W).mono ?_;rw [HK.o];rintro e wk ⟨rfl,o⟩;have R1:=Aa (Aq.d7 M.o o (fun q=>q));have T1:=Aa (R.o.d7 o (fun q=>q));have A1:=Aa (a5.o.d7 o (fun q=>q));have K:=Aa (hC.o.d7 o (fun q=>q));have D:=Aa (a6.o.d7 o (fun _ _ _ _ q=>q));have Q:=Aa (hO.o.t8 o);clear M R a5 hC a6 hO o;obtain ⟨A,C,B,rfl⟩:=Af D.o.row;have c0:=K.o.cell 0;have cf:=K.o.frozen 0;have lc:=Ad K.o;have g5:=Ad R1.o;have g3:=Q.o.size;simp only [Ni,Ng] at c0;have Z:=Aa (fun k (c:Value.ownBlock (.slice A C B)=some k)=>(⟨(D.o.row.lt k c).1,(D.o.apart k c).2⟩:w.heap.size+1≤k∧k≠m.heap.size+1));go_wp2_with fail;go_region_law (first
    | (refine AV rfl _ _ 34 rfl (w.heap.size+1) 126 i0 (.agg Mm) 5 80 Tryz.underlying34 hi f3 f4 f5 rfl (by decide) _ _ _ rfl (P.o.row.alloc _) ⟨w4.heap.size,0,none⟩ 1 1 (Ia t3 (.slice aa al ac) (.slice ba bl bc)).toList rfl rfl (Bn rfl _ _) (LC _ _ _ _ _ _ _) (by decide) (by unfold maxLen;omega) (by omega) (by simp;omega) ?_;intro v' J b7 S d9;have q1:J.cell? ⟨m.heap.size+1,0,none⟩=some (.slice A C B):=(World.cell?_of_block (S.block (m.heap.size+1) (by simp;omega) (fun h=>(Z.o _ h.symm).2 rfl))).trans (by rw [←c8];exact World.cell?_of_block (Below.heap_alloc _ _ _ b9));have q2:J.frozen? ⟨m.heap.size+1,0,none⟩=false:=(World.frozen?_of_block (S.block (m.heap.size+1) (by simp;omega) (fun h=>(Z.o _ h.symm).2 rfl))).trans (by rw [←e4];exact World.frozen?_of_block (Below.heap_alloc _ _ _ b9));obtain ⟨G,I,H,rfl⟩:=Af b7)
    | (go_simp;go_at_call 54;refine (EK O a8 HF.o b g n r x i _ hb (Ab.keeps HG.o (Q.o.t8 (by repeat (first | exact Ab.refl _ _ | refine Ab.drew ?_ | refine Ab.drewN ?_ _ | refine Ab.alloc ?_ _))) hB hb) (by simp;omega) (Aq.d7 (X:=fun _=>False) R1.o (by repeat (first | exact Ab.refl _ _ | refine Ab.drew ?_ | refine Ab.drewN ?_ _ | refine Ab.alloc ?_ _)) (fun q=>q)) (T1.o.d7 (X:=fun _=>False) (by repeat (first | exact Ab.refl _ _ | refine Ab.drew ?_ | refine Ab.drewN ?_ _ | refine Ab.alloc ?_ _)) (fun q=>q)) W HZ.o).mono ?_;rw [X3.o];rintro e w4 ⟨d4,U4,aa,al,ac,ba,bl,bc,rfl,e0,d6,a4,F⟩;have a3:=Ab.trans (X:=fun k=>k=b) (a:=wk) (by repeat (first | exact Ab.refl _ _ | refine Ab.drew ?_ | refine Ab.drewN ?_ _ | refine Ab.alloc ?_ _)) F;have P:=Aa (D.o.d7 a3 (fun k h _ _=>by omega));have s:=Aa (K.o.d7 a3 (by omega));have c8:=s.o.cell 0;have e4:=s.o.frozen 0;have b9:=Ad s.o;simp only [Ni,Ng] at c8;have g0:=a3.size;have c4:=Aa e0;have c7:=Aa d6;have R4:=Aa a4;have O5:=Aa a3;clear e0 d6 a4 F a3;unfold Ia;dsimp only))
   all_goals
    have a0:Ab (fun k=>Value.ownBlock (.slice A C B)=some k) w4 J:=Ab.grown ((Ab.refl _ _).alloc _) S (fun k c=>.inl c);have a7:=(Ab.refl (fun k=>k=m.heap.size+1) J).i7 0 (.slice G I H);have b6:∀j,j<w.heap.size+1→¬Value.ownBlock (.slice A C B)=some j:=fun j hj q=>by have:=(Z.o j q).1;omega
    have hP:=FW.push (u:=.slice G I H) P.o b9 c4.o (fun k c=>by have E:=c7.o k c;simp only [World.size_drew] at E;exact ⟨by omega,E.2,by omega,fun q=>by have:=(D.o.row.lt k q).2;omega⟩) ((Ab.refl _ _).alloc _) b7 S (fun k c=>(d9 k c).imp id (fun q=>by simp at q;omega));have d3:AH b g n r x3 (J.setCell ⟨m.heap.size+1,0,none⟩ (.slice G I H)):=(R4.o.d7 a0 (b6 b (by omega))).d7 a7 (by omega);have e9:AI g n r i (J.setCell ⟨m.heap.size+1,0,none⟩ (.slice G I H)):=((T1.o.d7 O5.o d8).d7 a0 (b6 g (by omega))).d7 a7 (by omega);have e5:=((A1.o.d7 O5.o (by omega)).d7 a0 (b6 w.heap.size (by omega))).d7 a7 (by omega);have e6:Aq (m.heap.size+1) #[.slice G I H,.int .i64 0] 36 (J.setCell ⟨m.heap.size+1,0,none⟩ (.slice G I H)):=by have:=(s.o.d7 a0 (fun q=>(Z.o _ q).2 rfl)).set 0 (.slice G I H);simpa using this
    have e8:Ab (fun k=>k=b) w (J.setCell ⟨m.heap.size+1,0,none⟩ (.slice G I H)):=(Ab.grown ((Q.o.trans O5.o).alloc _) S (fun k c=>.inr (by have:=(Z.o k c).1;omega))).l9 0 _ (by omega);have e7:=CV d3;clear b7 S d9 q1 q2 c4 c7 P s R4 a0 a7;go_wp2_with fail;go_roundw
    case rel=>exact ⟨x3,f2,_,_,_,L++[t3],_,f1.2,by simp;omega,by omega,d3,e9,e5,e6,hP,e8,e2⟩
    case measure=>rw [e7,e3.o];omega
  ·have hv:(L,x)=(l2,x2):=by
    rw [←HC.o];cases f with
    | zero=>rfl
    | succ f=>rw [Db,if_neg T]
   simp only [Prod.mk.injEq] at hv
   obtain ⟨rfl,rfl⟩:=hv
   have f9:(((Ah i x.d8).kind:Int)==3)=false:=by simp;omega
   clear HC T
   go_wp2_with fail
   refine (AJ b g n r x i _ M.o R.o W).mono ?_
   rintro e wk ⟨rfl,o⟩
   have R1:=Aa (Aq.d7 M.o o (fun q=>q))
   have T1:=Aa (R.o.d7 o (fun q=>q))
   have A1:=Aa (a5.o.d7 o (fun q=>q))
   have K:=Aa (hC.o.d7 o (fun q=>q))
   have D:=Aa (a6.o.d7 o (fun _ _ _ _ q=>q))
   have Q:=Aa (hO.o.t8 o)
   clear M R a5 hC a6 hO o
   go_wp2_with fail
   refine (Au b g n r 0 x i _ R1.o T1.o W).mono ?_
   rintro e w4 ⟨rfl,a4,F⟩
   have A4:=Aa (A1.o.d7 F (by omega))
   have s:=Aa (K.o.d7 F (by omega))
   have P:=Aa (D.o.d7 F (fun k h _ _=>by omega))
   have O4:=Aa (Q.o.trans F)
   have R4:=Aa a4
   clear R1 T1 A1 K D Q a4 F
   obtain ⟨A,C,B,rfl⟩:=Af P.o.row
   have b0:=A4.o.cell 0
   have b1:=A4.o.cell 1
   have bf:=A4.o.frozen
   have d0:=s.o.cell 0
   have d1:=s.o.cell 1
   have df:=s.o.frozen
   have lB:=Ad A4.o
   have lC:=Ad s.o
   simp only [Ni,Ng,Nh] at b0 b1 d0 d1
   obtain ⟨t,k1⟩:∃y,Av i 0 x=y:=⟨_,rfl⟩
   rw [k1]
   have K1:=Aa k1
   clear k1
   unfold K7
   have f8:=Tryz.placeOf
   go_wp2
   refine bodyPost_ret (v:=.agg #[.slice A C B,.int .i64 t.f8]) (by simp [results,Tryz.results37,go_sem,b0,b1]) rfl ?_
   have hs:=(((Ab.refl (fun k=>k=w.heap.size∨k=m.heap.size+1) w4).setCell (p:=⟨m.heap.size+1,1,none⟩) (.inl (.inr rfl)) (.int .i64 t.f8)).setCell (p:=⟨w.heap.size,0,none⟩) (.inl (.inl rfl)) (.slice A C B)).setCell (p:=⟨w.heap.size,1,none⟩) (.inl (.inl rfl)) (.int .i64 t.f8)
   have a1:=P.o.d7 hs (fun k E _ h3=>by omega)
   refine ⟨d,fun k=>U k∨Value.ownBlock (.slice A C B)=some k,A,C,B,by rw [K1.o],⟨b2,Ar a1.row (Nat.zero_le _),a1.len,fun k c=>.inr c,fun j z g2=>(a1.y6 j z g2).more (fun k c=>.inl c)⟩,?_,R4.o.d7 hs (by omega),((O4.o.l9 1 _ (by omega)).l9 0 _ (Nat.le_refl _)).l9 1 _ (Nat.le_refl _)⟩
   intro k c
   rcases c with c | c
   ·have:=a1.u k c;exact ⟨by omega,this.2.1⟩
   ·have:=a1.row.lt k c;exact ⟨by omega,this.2⟩
def L5(w:World)(r:List TF×Nat×PS)(e:Ending)(b:World):Prop:=
 (r.2.2.l7=true∧e=.returned (.tuple #[.agg #[.slice none 0 0,.int .i64 0],.int .i64 3,.int .i64 r.2.2.r8])∧Below w.heap.size w b)∨
 (r.2.2.l7=false∧∃(d:Nat) (U:Nat→Prop) (a:Option Addr) (l c:Nat),e=.returned (.tuple #[.agg #[.slice a l c,.int .i64 r.2.1],.int .i64 0,.int .i64 0])∧Cy d U b (.slice a l c) r.1∧(∀k,U k→w.heap.size≤k∧k<b.heap.size)∧Below w.heap.size w b)
theorem Cy.y9{d}{U:Nat→Prop}{w i f a}{X:Nat→Prop}(h:Cy d U w f a)(c:Ab X w i)(e:∀k,U k→¬X k):Cy d U i f a:=by obtain ⟨l,n,o,b,p⟩:=h;exact ⟨l,Ac n c (fun k q=>e k (b k q)),o,b,fun j g m=>(p j g m).d7 c e⟩
theorem Fa(m E)(hF:Bi m E)(g n f j w)(Q:Below m E w)(P:m≤w.heap.size)(z:AI g n f j w)(R:0<n)(S:(Ah j (n-1)).kind=0):
 Calls Tryz.prog 18 #[.slice (some ⟨g,0,none⟩) n f] w fun e w'=>L5 w (Bx j n ⟨0,false,0⟩) e w':=by
 have lg:=z.lt;obtain ⟨l1,Z,y,G⟩:∃l p y,Bx j n ⟨0,false,0⟩=(l,p,y):=⟨_,_,_,rfl⟩;rw [G];have O:=Aa G;have N:=Aa S;have L:=Aa Q;have K:=Aa hF;clear G S Q hF;cases D:y.l7 with
 | true=>
   have o:=Aa D;clear D;go_enter Tryz.func18,Tryz.ntmps18;go_wp2_with fail;have u:AH (w.heap.size+1) g n f ⟨0,false,0⟩ ((w.alloc (.cells #[.slice none 0 0,.int .i64 0] 36)).alloc (.cells #[.slice (some ⟨g,0,none⟩) n f,.int .i64 0,.bool false,.int .i64 0] 95)):=by have t:=Aq.new (w.alloc (.cells #[.slice none 0 0,.int .i64 0] 36)) #[.slice (some ⟨g,0,none⟩) n f,.int .i64 0,.bool false,.int .i64 0] 95;simp only [World.size_alloc] at t;simpa [AH] using t
   refine (Fm m E K.o (w.heap.size+1) g n f ⟨0,false,0⟩ j _ (by omega) ((L.o.alloc P _).alloc (by simp;omega) _) (by simp;omega) u (z.d7 (((Ab.refl (fun _=>False) _).alloc _).alloc _) (fun q=>q)) R N.o).mono ?_;rw [O.o];rintro e J ⟨d,U,a,l,c,rfl,A,C,i,h⟩;have b:Aq w.heap.size #[.slice none 0 0,.int .i64 0] 36 J:=((Aq.new w #[.slice none 0 0,.int .i64 0] 36).alloc _).d7 h (by omega);have F:=Aa ((((Below.refl w.heap.size w).alloc (Nat.le_refl _) _).alloc (by simp) _).trans (h.s7 (B:=w.heap.size) (by simp;omega) (fun k x=>by omega)));have r:=b.cell 0;have s:=b.cell 1;have V:=b.frozen;have I:=Aq.cell i 2;have r3:=Aq.cell i 3;simp only [Ni,Ng,Nh,o.o] at r s I r3;have H:=Ad b;have Y:=Ad i;clear i h b z u A C;go_wp2;go_region;go_wp2;refine bodyPost_ret (v:=.tuple #[.agg #[.slice none 0 0,.int .i64 0],.int .i64 3,.int .i64 y.r8]) (by simp [results,Tryz.results18,go_sem,r,s,H]) rfl (.inl ⟨o.o,rfl,?_⟩);exact ((((F.o.setCell (p:=⟨w.heap.size,0,none⟩) (Nat.le_refl _) _).setCell (p:=⟨w.heap.size,1,none⟩) (Nat.le_refl _) _).alloc (by simp;omega) _)).trans ⟨rfl,rfl,rfl,Nat.le_refl _,fun _ _=>rfl⟩
 | false=>
   have o:=Aa D;clear D;go_enter Tryz.func18,Tryz.ntmps18;go_wp2_with fail;have u:AH (w.heap.size+1) g n f ⟨0,false,0⟩ ((w.alloc (.cells #[.slice none 0 0,.int .i64 0] 36)).alloc (.cells #[.slice (some ⟨g,0,none⟩) n f,.int .i64 0,.bool false,.int .i64 0] 95)):=by have t:=Aq.new (w.alloc (.cells #[.slice none 0 0,.int .i64 0] 36)) #[.slice (some ⟨g,0,none⟩) n f,.int .i64 0,.bool false,.int .i64 0] 95;simp only [World.size_alloc] at t;simpa [AH] using t
   refine (Fm m E K.o (w.heap.size+1) g n f ⟨0,false,0⟩ j _ (by omega) ((L.o.alloc P _).alloc (by simp;omega) _) (by simp;omega) u (z.d7 (((Ab.refl (fun _=>False) _).alloc _).alloc _) (fun q=>q)) R N.o).mono ?_;rw [O.o];rintro e J ⟨d,U,a,l,c,rfl,A,C,i,h⟩;have b:Aq w.heap.size #[.slice none 0 0,.int .i64 0] 36 J:=((Aq.new w #[.slice none 0 0,.int .i64 0] 36).alloc _).d7 h (by omega);have F:=Aa ((((Below.refl w.heap.size w).alloc (Nat.le_refl _) _).alloc (by simp) _).trans (h.s7 (B:=w.heap.size) (by simp;omega) (fun k x=>by omega)));have r:=b.cell 0;have s:=b.cell 1;have V:=b.frozen;have I:=Aq.cell i 2;simp only [Ni,Ng,Nh,o.o] at r s I;have H:=Ad b;have Y:=Ad i;have T:=Aa A;have M:=Aa C;have W:=h.size;simp at W;clear i h b z u A C;go_wp2;refine bodyPost_ret (v:=.tuple #[.agg #[.slice a l c,.int .i64 Z],.int .i64 0,.int .i64 0]) (by simp [results,Tryz.results18,go_sem,r,s,H]) rfl (.inr ⟨o.o,d,U,a,l,c,rfl,?_,?_,?_⟩)
   ·refine T.o.y9 (X:=fun k=>k=w.heap.size) ?_ (fun k x=>by have:=(M.o k x).1;simp at this;omega);refine Ab.alloc ?_ _;iterate 2 refine Ab.i7 ?_ _ _
    exact Ab.refl _ _
   ·intro k x;have:=M.o k x;simp at this⊢;omega
   ·exact ((F.o.setCell (p:=⟨w.heap.size,0,none⟩) (Nat.le_refl _) _).setCell (p:=⟨w.heap.size,1,none⟩) (Nat.le_refl _) _).alloc (by simp;omega) _
theorem Ji:Keyed Tryz.prog 9:=string_keyed Tryz.underlying9
theorem JR(w):(zeroValue 3).run Tryz.prog w=.ok (.int .i64 0) w:=by kernel_rfl
structure CS where
 p9:Nat
 f8:Nat
def Bb(f p:Nat)(c:CS):CS:=if c.p9=0 then ⟨f,p⟩ else c
def BA(b:Nat)(a:Value)(f:Int)(d e:Value)(c:CS)(w:World):Prop:=Aq b #[a,.int .i64 f,d,e,.int .i64 c.p9,.int .i64 c.f8] 100 w
def AT(s:ByteArray):Lit:=.string s.data.toList
def AS(b n:Nat)(D:DataW Unit)(w:World):Prop:=w.ownsMap Tryz.prog 9 (plainElem Tryz.prog 3) b n D
theorem Bh(b f p:Nat)(j:Value)(n:Int)(l m:Value)(c:CS)(w:World)(d:BA b j n l m c w):
 Calls Tryz.prog 41 #[.pointer (some ⟨b,0,none⟩),.int .i64 f,.int .i64 p] w fun e o=>e=.returned (.tuple #[])∧BA b j n l m (Bb f p c) o∧Ab (fun k=>k=b) w o:=by
 have r:=Aj d 4;have s:=Aj d 5;have t:=fun i=>AK d i
 simp only [Ni,Ng,Nh] at r s;have u:=Ad d;have h:=Aa d;clear d;by_cases a:c.p9=0
 ·have g:Bb f p c=⟨f,p⟩:=by simp [Bb,a]
  rw [g];have q:((c.p9:Int)==0)=true:=by simp [a]
  clear g a;go_enter Tryz.func41,Tryz.ntmps41;go_wp2;go_end0;refine ⟨rfl,?_,?_⟩
  ·have:=(Aq.set (w:=w) h.o 4 (.int .i64 f)).set 5 (.int .i64 p);simpa [BA] using this
  ·exact ((Ab.refl _ _).i7 4 _).i7 5 _
 ·have g:Bb f p c=c:=by simp [Bb,a]
  rw [g];have q:((c.p9:Int)==0)=false:=by simp [a]
  clear g a;go_enter Tryz.func41,Tryz.ntmps41;go_wp2;go_end0;exact ⟨rfl,h.o,Ab.refl _ _⟩
theorem Hu{s}(a:s.size≤4000):keyOf Tryz.prog 9 (.string s)=some (AT s):=WideMaps.keyOf_string_mk Tryz.underlying9 (by unfold maxLen;omega)
theorem C6{m n D w s}(h:AS m n D w)(d:s.size≤4000):
 ∃z:Int,(Instr.lookup 97 (.map (some m)) (.string s) true).run Tryz.prog w=.ok (.tuple #[.int .i64 z,.bool (Maps.has D (AT s))]) w∧D.atKey (AT s) (.lit (.int .i64 0))=.lit (.int .i64 z)∧(Lit.int .i64 z).wf=true:=by
 obtain ⟨v,i,e,f⟩:=World.ownsMap.look_ok h Ji Tryz.underlying97 (JR w) (plainElem_int Tryz.underlying3 (a:=0) (by decide)) (Hu d);obtain ⟨c,rfl,b,g⟩:=plainElem_int_inv Tryz.underlying3 f;exact ⟨c,e,congrArg Prod.fst b,g⟩
theorem AS.d7{m n D}{X:Nat→Prop}{w b}(h:AS m n D w)(e:Ab X w b)(f:¬X m):AS m n D b:=by obtain ⟨d,c,a,r⟩:=h;exact ⟨d,c,by rw [e.block m (lt_of_block a) f];exact a,r⟩
theorem AS.ne{m n b D w}(h:AS m n D w){c t d}(a:w.heap[b]? =some (.cells c t d)):m≠b:=by obtain ⟨g,f,e,r⟩:=h;rintro rfl;rw [e] at a;cases a
def Bp(D:DataW Unit)(t:PT)(c:CS):CS:=if Maps.has D (AT t.d9) then c else Bb 6 t.f8 c
theorem CU(b g i h m n D c t w)(f:BA b g i h (.map (some m)) c w)(l:AS m n D w)(r:t.d9.size≤4000):
 Calls Tryz.prog 74 #[.pointer (some ⟨b,0,none⟩),Fu t] w fun e p=>e=.returned (.tuple #[])∧BA b g i h (.map (some m)) (Bp D t c) p∧Ab (fun k=>k=b) w p:=by
 have v:=Aj f 3;simp only [Ni,Ng,Nh] at v;have x:=Ad f;obtain ⟨z,o,_,_⟩:=C6 (w:=(w.alloc (.cells #[.string t.d9,.int .i64 t.f8] 120)).drew) (l.d7 (((Ab.refl (fun _=>False) w).alloc _).drew) (fun q=>q)) r;have j:=Aa f;clear f l;unfold Fu;cases a:Maps.has D (AT t.d9) with
 | true=>
   rw [a] at o;have d:Bp D t c=c:=by simp [Bp,a]
   rw [d];clear d a;go_enter Tryz.func74,Tryz.ntmps74;go_wp2;go_region;go_wp2;go_end0;exact ⟨rfl,j.o.d7 (((Ab.refl (fun _=>False) w).alloc _).drew) (fun q=>q),((Ab.refl _ w).alloc _).drew⟩
 | false=>
   rw [a] at o;have d:Bp D t c=Bb 6 t.f8 c:=by simp [Bp,a]
   rw [d];clear d a;go_enter Tryz.func74,Tryz.ntmps74;go_wp2;go_region;go_wp2_with (go_at_call 41;refine (Bh b 6 t.f8 g i h (.map (some m)) c _ (j.o.d7 (((Ab.refl (fun _=>False) w).alloc _).drew) (fun q=>q))).mono ?_);rintro e y ⟨rfl,u,s⟩;go_wp2;go_end0;exact ⟨rfl,u,(((Ab.refl _ w).alloc _).drew).trans s⟩
theorem E8(b g i h m n D c t w)(f:BA b g i (.map (some m)) h c w)(l:AS m n D w)(r:t.d9.size≤4000):
 Calls Tryz.prog 75 #[.pointer (some ⟨b,0,none⟩),Fu t] w fun e p=>e=.returned (.tuple #[])∧BA b g i (.map (some m)) h (Bp D t c) p∧Ab (fun k=>k=b) w p:=by
 have v:=Aj f 2;simp only [Ni,Ng,Nh] at v;have x:=Ad f;obtain ⟨z,o,_,_⟩:=C6 (w:=(w.alloc (.cells #[.string t.d9,.int .i64 t.f8] 120)).drew) (l.d7 (((Ab.refl (fun _=>False) w).alloc _).drew) (fun q=>q)) r;have j:=Aa f;clear f l;unfold Fu;cases a:Maps.has D (AT t.d9) with
 | true=>
   rw [a] at o;have d:Bp D t c=c:=by simp [Bp,a]
   rw [d];clear d a;go_enter Tryz.func75,Tryz.ntmps75;go_wp2;go_region;go_wp2;go_end0;exact ⟨rfl,j.o.d7 (((Ab.refl (fun _=>False) w).alloc _).drew) (fun q=>q),((Ab.refl _ w).alloc _).drew⟩
 | false=>
   rw [a] at o;have d:Bp D t c=Bb 6 t.f8 c:=by simp [Bp,a]
   rw [d];clear d a;go_enter Tryz.func75,Tryz.ntmps75;go_wp2;go_region;go_wp2_with (go_at_call 41;refine (Bh b 6 t.f8 g i (.map (some m)) h c _ (j.o.d7 (((Ab.refl (fun _=>False) w).alloc _).drew) (fun q=>q))).mono ?_);rintro e y ⟨rfl,u,s⟩;go_wp2;go_end0;exact ⟨rfl,u,(((Ab.refl _ w).alloc _).drew).trans s⟩
theorem DE{m n p:Nat}{D:DataW Unit}{w:World}{s:ByteArray}(h:AS m n D w)(e:s.size≤4000)(j:p≤4000)(i:n≤4000):
 ∃a,(Instr.mapUpdate 97 (.map (some m)) (.string s) (.int .i64 p)).run Tryz.prog w=.ok () a∧AS m (n+1) (D.put (AT s) (.lit (.int .i64 p))) a∧Ab (fun k=>k=m) w a:=by
 have g:(Lit.int .i64 (p:Int)).wf=true:=WalkArith.wf_i64 (by omega);obtain ⟨a,f,b,c⟩:=World.ownsMap.store h Ji Tryz.underlying97 (by unfold maxLen;omega) (Hu e) (plainElem_int Tryz.underlying3 g);exact ⟨a,f,b,(Ab.refl _ w).grown c.grown (fun k d=>.inl (by cases d;rfl))⟩
def CZ(D:DataW Unit)(t:PT)(c:CS):CS:=
 let a:=if 12≤Maps.size D then Bb 4 t.f8 c else c
 if Maps.has D (AT t.d9) then Bb 5 t.f8 a else a
def Ed(D:DataW Unit)(t:PT):DataW Unit:=D.put (AT t.d9) (.lit (.int .i64 t.f8))
theorem Fe(b M R P m n D c t w)(X:BA b M R P (.map (some m)) c w)(hm:AS m n D w)(J:t.d9.size≤4000)(U:t.f8≤4000)(T:n≤4000):
 Calls Tryz.prog 57 #[.pointer (some ⟨b,0,none⟩),Fu t] w fun e w'=>e=.returned (.tuple #[])∧BA b M R P (.map (some m)) (CZ D t c) w'∧AS m (n+1) (Ed D t) w'∧Ab (fun k=>k=b∨k=m) w w':=by
 have r3:=Aj X 3;simp only [Ni,Ng,Nh] at r3;have lr:=Ad X;have HR:=Aa X;have HM:=Aa hm;clear X hm;unfold Fu;have S:=Aa (HR.o.d7 ((Ab.refl (fun _=>False) w).alloc (.cells #[.string t.d9,.int .i64 t.f8] 120)) (fun q=>q));have K:=Aa (HM.o.d7 ((Ab.refl (fun _=>False) w).alloc (.cells #[.string t.d9,.int .i64 t.f8] 120)) (fun q=>q));have N0:=Aa (Aq.new w #[.string t.d9,.int .i64 t.f8] 120);have O0:=Aa ((Ab.refl (fun k=>k=b) w).alloc (.cells #[.string t.d9,.int .i64 t.f8] 120));have a1:=fun ty=>World.ownsMap.len K.o Tryz.underlying97 ty
 by_cases Y:12≤Maps.size D
 ·have a2:(12:Int)≤(Maps.size D:Int):=by omega
  obtain ⟨i,I⟩:∃i,Bb 4 t.f8 c=i:=⟨_,rfl⟩;have N:CZ D t c=if Maps.has D (AT t.d9) then Bb 5 t.f8 i else i:=by simp [CZ,Y,I]
  rw [N];have C1:=Aa I;clear N I Y;go_enter Tryz.func57,Tryz.ntmps57;go_wp2_with (go_at_call 41;refine (Bh b 4 t.f8 M R P (.map (some m)) c _ S.o).mono ?_);rw [C1.o];rintro e W ⟨rfl,kw,Z⟩;have j:=Aa kw;have l:=Aa (AS.d7 K.o Z (AS.ne K.o S.o));have o:=Aa (Aq.d7 N0.o Z (by omega));have L:=Aa (O0.o.trans Z);clear kw Z a1 r3;go_wp2;have E:=Aj j.o 3;have B:=Aj o.o 0;have C:=Aj o.o 1;simp only [Ni,Ng,Nh] at E B C;obtain ⟨z,p,_,_⟩:=C6 (w:=W.drew) (AS.d7 l.o ((Ab.refl (fun _=>False) W).drew) (fun q=>q)) J;cases d:Maps.has D (AT t.d9) with
  | true=> rw [d] at p;have s:=Aa d;clear d;go_region;go_wp2_with (go_at_call 41;refine (Bh b 5 t.f8 M R P (.map (some m)) i _ (Aq.d7 j.o ((Ab.refl (fun _=>False) W).drew) (fun q=>q))).mono ?_);rintro e V ⟨rfl,O,Q⟩;have r:Ab (fun k=>k=b) W V:=((Ab.refl _ W).drew).trans Q;have a:=Aa O;have f:=Aa (AS.d7 l.o r (AS.ne l.o j.o));have g:=Aa (Aq.d7 o.o r (by omega));have u:=Aa (L.o.trans r);clear O Q r p E B C;obtain ⟨v,a0,x,y⟩:=DE (w:=V.drew) (AS.d7 f.o ((Ab.refl (fun _=>False) V).drew) (fun q=>q)) J U T;have H:=Aj a.o 3;have F:=Aj g.o 0;have G:=Aj g.o 1;simp only [Ni,Ng,Nh] at H F G;go_wp2;go_region;go_end0;have h:Ab (fun k=>k=m) V v:=((Ab.refl _ V).drew).trans y;have A:=f.o.ne a.o;rw [if_pos s.o];exact ⟨rfl,Aq.d7 a.o h (fun q=>A q.symm),x,(u.o.mono (fun _ _ q=>.inl q)).trans (h.mono (fun _ _ q=>.inr q))⟩
  | false=> rw [d] at p;have s:=Aa d;clear d;go_region;have a:=Aa (Aq.d7 j.o ((Ab.refl (fun _=>False) W).drew) (fun q=>q));have f:=Aa (AS.d7 l.o ((Ab.refl (fun _=>False) W).drew) (fun q=>q));have g:=Aa (Aq.d7 o.o ((Ab.refl (fun _=>False) W).drew) (fun q=>q));have u:=Aa (L.o.drew);generalize hV:W.drew=V at*;clear p E B C hV;obtain ⟨v,a0,x,y⟩:=DE (w:=V.drew) (AS.d7 f.o ((Ab.refl (fun _=>False) V).drew) (fun q=>q)) J U T;have H:=Aj a.o 3;have F:=Aj g.o 0;have G:=Aj g.o 1;simp only [Ni,Ng,Nh] at H F G;go_wp2;go_region;go_end0;have h:Ab (fun k=>k=m) V v:=((Ab.refl _ V).drew).trans y;have A:=f.o.ne a.o;rw [if_neg (by rw [s.o];decide)];exact ⟨rfl,Aq.d7 a.o h (fun q=>A q.symm),x,(u.o.mono (fun _ _ q=>.inl q)).trans (h.mono (fun _ _ q=>.inr q))⟩
 ·have a2:¬(12:Int)≤(Maps.size D:Int):=by omega
  obtain ⟨i,I⟩:∃i,c=i:=⟨_,rfl⟩;have N:CZ D t c=if Maps.has D (AT t.d9) then Bb 5 t.f8 i else i:=by simp [CZ,Y,I]
  rw [N];clear N Y;subst I;go_enter Tryz.func57,Tryz.ntmps57;go_wp2;generalize w.alloc (.cells #[.string t.d9,.int .i64 t.f8] 120)=W at*;have j:=S;have l:=K;have o:=N0;have L:=O0;clear a1 r3 S K N0 O0;have E:=Aj j.o 3;have B:=Aj o.o 0;have C:=Aj o.o 1;simp only [Ni,Ng,Nh] at E B C;obtain ⟨z,p,_,_⟩:=C6 (w:=W.drew) (AS.d7 l.o ((Ab.refl (fun _=>False) W).drew) (fun q=>q)) J;cases d:Maps.has D (AT t.d9) with
  | true=> rw [d] at p;have s:=Aa d;clear d;go_region;go_wp2_with (go_at_call 41;refine (Bh b 5 t.f8 M R P (.map (some m)) c _ (Aq.d7 j.o ((Ab.refl (fun _=>False) W).drew) (fun q=>q))).mono ?_);rintro e V ⟨rfl,O,Q⟩;have r:Ab (fun k=>k=b) W V:=((Ab.refl _ W).drew).trans Q;have a:=Aa O;have f:=Aa (AS.d7 l.o r (AS.ne l.o j.o));have g:=Aa (Aq.d7 o.o r (by omega));have u:=Aa (L.o.trans r);clear O Q r p E B C;obtain ⟨v,a0,x,y⟩:=DE (w:=V.drew) (AS.d7 f.o ((Ab.refl (fun _=>False) V).drew) (fun q=>q)) J U T;have H:=Aj a.o 3;have F:=Aj g.o 0;have G:=Aj g.o 1;simp only [Ni,Ng,Nh] at H F G;go_wp2;go_region;go_end0;have h:Ab (fun k=>k=m) V v:=((Ab.refl _ V).drew).trans y;have A:=f.o.ne a.o;rw [if_pos s.o];exact ⟨rfl,Aq.d7 a.o h (fun q=>A q.symm),x,(u.o.mono (fun _ _ q=>.inl q)).trans (h.mono (fun _ _ q=>.inr q))⟩
  | false=> rw [d] at p;have s:=Aa d;clear d;go_region;have a:=Aa (Aq.d7 j.o ((Ab.refl (fun _=>False) W).drew) (fun q=>q));have f:=Aa (AS.d7 l.o ((Ab.refl (fun _=>False) W).drew) (fun q=>q));have g:=Aa (Aq.d7 o.o ((Ab.refl (fun _=>False) W).drew) (fun q=>q));have u:=Aa (L.o.drew);generalize hV:W.drew=V at*;clear p E B C hV;obtain ⟨v,a0,x,y⟩:=DE (w:=V.drew) (AS.d7 f.o ((Ab.refl (fun _=>False) V).drew) (fun q=>q)) J U T;have H:=Aj a.o 3;have F:=Aj g.o 0;have G:=Aj g.o 1;simp only [Ni,Ng,Nh] at H F G;go_wp2;go_region;go_end0;have h:Ab (fun k=>k=m) V v:=((Ab.refl _ V).drew).trans y;have A:=f.o.ne a.o;rw [if_neg (by rw [s.o];decide)];exact ⟨rfl,Aq.d7 a.o h (fun q=>A q.symm),x,(u.o.mono (fun _ _ q=>.inl q)).trans (h.mono (fun _ _ q=>.inr q))⟩
def Dn(D:DataW Unit)(l:List PT)(c:CS):CS:=l.foldl (fun c t=>Bp D t c) c
theorem IA(D:DataW Unit)(l:List PT)(k:Nat)(h:k<l.length)(c:CS):Dn D (l.drop k) c=Dn D (l.drop (k+1)) (Bp D l[k] c):=by rw [List.drop_eq_getElem_cons h];rfl
theorem Fi{l i}(h:i<l.length):(Ba l)[i*2]? =some (.string l[i].d9)∧(Ba l)[i*2+1]? =some (.int .i64 l[i].f8):=by
 induction l generalizing i with
 | nil=>simp at h
 | cons t l a=>
   cases i with
   | zero=>simp [Ba,Di]
   | succ i=>
     have:=a (i:=i) (by simpa using h);simp only [Ba,List.flatMap_cons,List.getElem_cons_succ] at this⊢;have e:∀j,(Di t++List.flatMap Di l)[(i+1)*2+j]? =(List.flatMap Di l)[i*2+j]? :=by intro j;rw [List.getElem?_append_right (by simp [Di];omega)];congr 1;simp [Di];omega
     exact ⟨by rw [show (i+1)*2=(i+1)*2+0 from rfl,e];exact this.1,by rw [e];exact this.2⟩
theorem Du(b j r p m n D c l z w)(h:BA b j r p (.map (some m)) c w)(u:AS m n D w)(f:w.ownsRow 0 120 2 z l.length (Ba l))(K:∀t,t∈l→t.d9.size≤4000)(T:l.length≤4000):
 Calls Tryz.prog 77 #[.pointer (some ⟨b,0,none⟩),z] w fun e F=>e=.returned (.tuple #[])∧BA b j r p (.map (some m)) (Dn D l c) F∧Ab (fun k=>k=b) w F:=by
 obtain ⟨Z,vl,vc,rfl⟩:=Af f;have S:=Ap f;subst S;have Y:=Ad h;have N:=Az f h (by decide);have M:=u.ne h;generalize A:Dn D l c=V;have x:Nj (Dn D (l.drop 0) c=V):=A;have v:=Aa h;have G:=Aa u;have y:=Aa f;clear A h u f;go_enter Tryz.func77,Tryz.ntmps77;go_wp2;go_loopw [8] (fun i wr=>∃(k:Nat) (a:CS),k≤l.length∧i=.int .i64 k∧Nj (BA b j r p (.map (some m)) a wr)∧Nj (Ab (fun k=>k=b) w wr)∧Nj (Dn D (l.drop k) a=V)) (fun i _=>l.length-(intOf i).toNat)
 case atStart=>exact ⟨0,c,by omega,rfl,v,Aa (Ab.refl _ _),x⟩
 case round=>
  obtain ⟨k,a,U,rfl,C,d,E⟩:=hrel;clear x v;by_cases B:k<l.length
  ·obtain ⟨g,rfl⟩:=Ay y.o (by omega);have o:=Ac y.o d.o N;have J:=Aa (AS.d7 G.o d.o M);have s:=Fi B;have H:=o.cellAt (k*2) (by omega);have I:=o.cellAt (k*2+1) (by omega);rw [s.1] at H;rw [s.2] at I;have X:=(o.lt g rfl).2;have Q:=Aa (IA D l k B a);have L:=K l[k] (List.getElem_mem _);generalize l[k]=t at*;have W:=d.o.size;clear s o;go_wp2_with (go_at_call 74;refine (CU b j r p m n D a t _ (Aq.d7 C.o ((Ab.refl (fun _=>False) _).alloc _) (fun q=>q)) (AS.d7 J.o ((Ab.refl (fun _=>False) _).alloc _) (fun q=>q)) L).mono ?_;rintro e w2 ⟨rfl,P,O⟩);go_round
   case rel=>exact ⟨k+1,_,by omega,by go_num,Aa P,Aa (d.o.trans (((Ab.refl _ _).alloc _).trans O)),Aa (Q.o.symm.trans E.o)⟩
   case measure=>simp [intOf];omega
  ·have e:k=l.length:=by omega
   subst e;have R:a=V:=by have:=E.o;simpa [Dn] using this
   subst R;go_wp2;go_end0;exact ⟨rfl,C.o,d.o⟩
end Go.Proofs.YtmaankfbhhbeoaaGreatDoor
