/- One of the texts of the proof of cut_card_holds: KpE. -/
import Derived.Test.YtegmjgjkcdbmkaaGreatDoorG04
set_option maxRecDepth 100000
set_option maxHeartbeats 4000000
namespace Go.Proofs.YtegmjgjkcdbmkaaGreatDoor
open Go.RowKit
theorem Bd(s:ByteArray):s.size=s.data.toList.length:=by simp
structure J1(ls:List Ln)(f k:Nat)(l:List UInt8):Prop where
 run:∃j,j≤1∧A4 0 l=some j
 len:l.length≤60*f+36*FF ls f+8+2*k
 head:(f=0∧k=0∧l=[102,110,32,109,97,105,110,40])∨BL<+:l
theorem L2.fn{a:List Ln}{f:Nat}{l:List UInt8}(h:L2 a f l):J1 a f 0 (l++[102,110,32]++KK f++[40]):=by
 obtain ⟨j,_,c⟩:=FX f;have d:=FW f;refine ⟨⟨0,by omega,Al (Al (Al h.run (j:=0) rfl) c) rfl⟩,?_,?_⟩
 ·have:=h.len;simp only [List.length_append,List.length_cons,List.length_nil];omega
 ·by_cases b:f=0
  ·subst b;rw [h.nil rfl];exact .inl ⟨rfl,rfl,rfl⟩
  ·refine .inr ?_;rw [List.append_assoc,List.append_assoc];exact (h.head (by omega)).trans (List.prefix_append _ _)
theorem J1.name{a:List Ln}{f k v:Nat}{l:List UInt8}(h:J1 a f k l)(d:f≠0):J1 a f (k+1) (l++[32]++B8 v):=by
 obtain ⟨j,_,e⟩:=h.run;refine ⟨⟨1,by omega,Al (Al e (j:=0) rfl) (BT v 0 (by omega))⟩,?_,?_⟩
 ·have:=h.len;simp only [List.length_append,List.length_cons,List.length_nil,CF];omega
 ·rcases h.head with ⟨b,_⟩ | c
  ·exact absurd b d
  ·refine .inr ?_;rw [List.append_assoc];exact c.trans (List.prefix_append _ _)
structure FB(ls:List Ln)(f k:Nat)(l:List UInt8):Prop where
 run:A4 0 l=some 0
 len:l.length≤60*f+36*FF ls f+k
 head:BL<+:l
theorem J1.close{a:List Ln}{f k:Nat}{l:List UInt8}(h:J1 a f k l)(e:k≤2):FB a f 15 (l++[41,32,123]):=by
 obtain ⟨j,_,d⟩:=h.run;refine ⟨Al d rfl,?_,?_⟩
 ·have:=h.len;simp only [List.length_append,List.length_cons,List.length_nil];omega
 ·rcases h.head with ⟨_,_,b⟩ | c
  ·rw [b];exact ⟨[32,123],rfl⟩
  ·exact c.trans (List.prefix_append _ _)
theorem FB.more{a:List Ln}{f k n:Nat}{l x:List UInt8}(h:FB a f k l)(b:A4 0 x=some 0)(c:x.length≤n):FB a f (k+n) (l++x):=by refine ⟨Al h.run b,?_,h.head.trans (List.prefix_append _ _)⟩;have:=h.len;simp only [List.length_append];omega
theorem FB.mono{a:List Ln}{f k n:Nat}{l:List UInt8}(h:FB a f k l)(b:k≤n):FB a f n l:=⟨h.run,Nat.le_trans h.len (by omega),h.head⟩
theorem K0(v:Nat):A4 0 ([32,118,97,114,32]++B8 v++[59])=some 0:=Al (Al (i:=0) rfl (BT v 0 (by omega))) rfl
structure QF(w:World)(s:ByteArray)(v:Value)(pl ca:Int)(m g off:Nat)(ls:List Ln)(sb p0 p1 p2 p3 p4:Nat)(num:Int)(av:Value)(args:List Nat)(wx:World):Prop where
 A:PF w s v pl ca m wx
 bx:Ar sb #[.int .i64 p0,.int .i64 p1,.int .i64 p2,.int .i64 p3,.int .i64 p4,.int .i64 p4,.int .i64 num,av] 39 wx
 row:Bk 0 wx av args
 ln:B9 g off ls wx
 far:w.heap.size+2≤sb
 gl:ls≠[]→g<w.heap.size
theorem B9.set{g l b i:Nat}{c:List Ln}{d:World}{u:Value}(h:B9 g l c d)(m:c≠[]→g≠b):B9 g l c (d.setCell ⟨b,i,none⟩ u):=by
 have j:=(Ab.refl (fun k=>k=b) d).p7 i u;have k:∀o,c≠[]→(d.setCell ⟨b,i,none⟩ u).cell? ⟨g,o,none⟩=d.cell? ⟨g,o,none⟩:=fun o f=>World.cell?_of_block (j.block g (h.lt f) (m f))
 have e:∀i,i<c.length→c≠[]:=fun i a e=>by subst e;simp at a
 exact ⟨fun f=>Nat.lt_of_lt_of_le (h.lt f) j.size,fun i a=>(k _ (e i a)).trans (h.c0 i a),fun i a=>(k _ (e i a)).trans (h.c1 i a),fun i a=>(k _ (e i a)).trans (h.c2 i a),fun i a=>(k _ (e i a)).trans (h.c3 i a),fun i a=>(k _ (e i a)).trans (h.c4 i a),fun i a=>(k _ (e i a)).trans (h.c5 i a)⟩
theorem QF.F{w:World}{s y:ByteArray}{v A:Value}{E B x d l:Int}{m j g n:Nat}{f:List Ln}{z o p q r t:Nat}{c:Value}{b:List Nat}{a:World}{i:Nat}{u:Value}(h:QF w s v E B m g n f z o p q r t l c b a)(D:PF w y A x d j (a.setCell ⟨w.heap.size+1,i,none⟩ u)):QF w y A x d j g n f z o p q r t l c b (a.setCell ⟨w.heap.size+1,i,none⟩ u):=by have e:=(Ab.refl (fun k=>k=w.heap.size+1) a).p7 i u;have F:=h.far;refine ⟨D,h.bx.f8 e (by omega),Ac h.row e (Ap h.row h.A.o (by decide)),h.ln.set (fun C=>by have:=h.gl C;omega),h.far,h.gl⟩
theorem PF.other{w:World}{s:ByteArray}{v:Value}{e d:Int}{m b i:Nat}{u:Value}{c:World}(h:PF w s v e d m c)(l:w.heap.size+2≤b)(f:∀k,v.ownBlock=some k→k≠b):PF w s v e d m (c.setCell ⟨b,i,none⟩ u):=by have a:=(Ab.refl (fun k=>k=b) c).p7 i u;obtain ⟨j,g⟩:=h.row;exact ⟨h.o.f8 a (by omega),h.t8.f8 a (by omega),⟨j,Ac g a f⟩,h.f8.set_far (by omega)⟩
theorem QF.y6{w:World}{s:ByteArray}{v:Value}{t f y:Int}{m g j:Nat}{i:List Ln}{a l o p q r:Nat}{e:Value}{d:List Nat}{c:World}(h:QF w s v t f m g j i a l o p q r y e d c)(b:∀k,v.ownBlock=some k→k≠a)(n:Int):QF w s v t f m g j i a l o p q r n e d (c.setCell ⟨a,6,none⟩ (.int .i64 n)):=by have x:=(Ab.refl (fun k=>k=a) c).p7 6 (.int .i64 n);have u:=h.far;refine ⟨h.A.other u b,?_,Ac h.row x (Ap h.row h.bx (by decide)),h.ln.set (fun b=>by have:=h.gl b;omega),h.far,h.gl⟩;have:=h.bx.set 6 (.int .i64 n);simpa using this
theorem Tryz.infoSm:(Tryz.prog.info? 39).map (fun i=>(i.zero,i.size,i.bytes))=some (some (.agg KT),8,80):=by kernel_rfl
theorem QF.grow{w:World}{s:ByteArray}{v f:Value}{K A D:Int}{m g E:Nat}{n:List Ln}{x F G H I J:Nat}{z:Value}{y:List Nat}{p W j:World}{L:List Value}(h:QF w s v K A m g E n x F G H I J D z y p)(Q:∀k,v.ownBlock=some k→k≠x)(O:Ab (fun _=>False) p W)
 (B:j.ownsRow w.heap.size 39 8 f (m+1) L)(P:W.grownBy j v.ownBlock):QF w s f K A (m+1) g E n x F G H I J D z y (j.setCell ⟨w.heap.size+1,1,none⟩ f):=by
 obtain ⟨U,l⟩:=h.A.row;have c:Ab (fun k=>v.ownBlock=some k) p j:=Ab.grown (O.mono (fun _ _ q=>q.elim)) P (fun k b=>.inl b);have r:=h.A.o.f8 c (fun q=>Ap l h.A.o (by decide) _ q rfl);have M:=h.A.t8.f8 c (fun q=>Ap l h.A.t8 (by decide) _ q rfl);have N:=h.bx.f8 c (fun q=>Q _ q rfl);have S:=h.far;have d:=(Ab.refl (fun k=>k=w.heap.size+1) j).p7 1 f;have u:=h.A.f8.size;have C:=c.size;have R:Ab (fun _=>False) w (j.setCell ⟨w.heap.size+1,1,none⟩ f):=by refine ⟨d.os.trans (c.os.trans h.A.f8.os),d.tape.trans (c.tape.trans h.A.f8.tape),d.output.trans (c.output.trans h.A.f8.output),Nat.le_trans u (Nat.le_trans C d.size),fun k b _=>?_⟩;rw [d.block k (Nat.lt_of_lt_of_le b (Nat.le_trans u C)) (by omega),c.block k (Nat.lt_of_lt_of_le b u) (fun q=>by have:=(l.lt k q).1;omega)];exact h.A.f8.block k b (fun q=>q)
 have e:∀i,i<n.length→n≠[]:=fun i a e=>by subst e;simp at a
 have b:∀o,n≠[]→(j.setCell ⟨w.heap.size+1,1,none⟩ f).cell? ⟨g,o,none⟩=p.cell? ⟨g,o,none⟩:=fun o t=>by have T:=h.gl t;exact World.cell?_of_block ((d.block g (by omega) (by omega)).trans (c.block g (by omega) (fun q=>by have:=(l.lt g q).1;omega)))
 refine ⟨⟨?_,M.f8 d (by omega),⟨L,Ac B d (Ap B r (by decide))⟩,R⟩,N.f8 d (by omega),?_,?_,h.far,h.gl⟩
 ·have:=r.set 1 f;simpa using this
 ·exact Ac (Am h.row c (GS l (by decide))) d (Ap (Am h.row c (GS l (by decide))) r (by decide))
 ·exact ⟨fun t=>by have:=h.gl t;have:=d.size;omega,fun i a=>(b _ (e i a)).trans (h.ln.c0 i a),fun i a=>(b _ (e i a)).trans (h.ln.c1 i a),fun i a=>(b _ (e i a)).trans (h.ln.c2 i a),fun i a=>(b _ (e i a)).trans (h.ln.c3 i a),fun i a=>(b _ (e i a)).trans (h.ln.c4 i a),fun i a=>(b _ (e i a)).trans (h.ln.c5 i a)⟩
theorem QF.quiet{w:World}{s:ByteArray}{v:Value}{p d f:Int}{m g i:Nat}{e:List Ln}{r j k l n o:Nat}{c:Value}{b:List Nat}{t u:World}(h:QF w s v p d m g i e r j k l n o f c b t)(a:Ab (fun _=>False) t u):QF w s v p d m g i e r j k l n o f c b u:=
 ⟨h.A.quiet a,h.bx.f8 a (fun q=>q),Ac h.row a (fun _ _ q=>q),h.ln.f8 a,h.far,h.gl⟩
def WV(w:World)(e:Ending)(g:World):Prop:=
 (∃(s:ByteArray) (c:Option Addr) (f d:Nat) (b a:Int),e=.returned (.agg #[.string s,.slice c f d,.int .i64 b,.int .i64 a])∧A4 0 s.data.toList=some 0∧s.size≤2400∧BL<+:s.data.toList)∧Ab (fun _=>False) w g
theorem I6(lv:Value)(b:List Ln)(w:World)(hl:Lk lv b w)(c2:∀l∈b,l.Ok):
 Calls Tryz.prog 10 #[lv] w fun e w'=>WV w e w':=by
 obtain ⟨a,e5,rfl,f7,a7⟩:=hl;have d9:=Aa a7;have d8:=Aa c2;clear a7 c2;go_enter Tryz.func10,Tryz.ntmps10;go_wp2;go_loopw [4] (fun i wr=>∃(f:Nat) (s:ByteArray) (v:Value) (E A:Int) (m:Nat),i=.int .i64 f∧f≤4∧m≤60*f∧dJ (PF w s v E A m wr)∧dJ (L2 b f s.data.toList)) (fun i _=>4-(intOf i).toNat)
 case atStart=>
  refine ⟨0,{data:=#[]},.slice none 0 0,0,0,0,rfl,by omega,by omega,⟨?_,?_,⟨[],World.ownsRow_nil _ _ _ _⟩,((Ab.refl _ _).alloc _).alloc _⟩,⟨rfl,by simp,by omega,fun _=>rfl⟩⟩
  ·have:=Ar.new (w.alloc (.cells L6 25)) L6 25;simpa using this
  ·exact (Ar.new w L6 25).alloc _
 case round=>
  obtain ⟨f,s,v,E,A,m,rfl,f8,hm,o,T0⟩:=hrel;by_cases hf:f<4
  ·have e8:=Co b f;have L:s.size≤2400:=by have:=T0.o.len;rw [Bd];omega
   have B:=o.o.o.cell 0;have C:=o.o.o.frozen;have r:=Ae o.o.o;simp only [aU,aS] at B;go_wp2;go_cut [] (fun wx=>∃s1:ByteArray,PF w s1 v E A m wx∧s1.data.toList=s.data.toList++[102,110,32]++KK f++[40])
   case first=>
    go_region_with (go_at_call 26;refine (C2 f hf _).mono ?_;rintro e w' ⟨⟨u,rfl,P,g3⟩,j⟩;have j:=j.symm;subst j);all_goals
     go_wp2_with fail;go_meet
     case rel=>exact ⟨_,(o.o.set _).quiet (by repeat (first | exact Ab.refl _ _ | refine Ab.drew ?_ | refine Ab.drewN ?_ _ | refine Ab.alloc ?_ _)),by simp [P]⟩
   case rest=>
    obtain ⟨s1,I,e1⟩:=hcut;have T1:dJ (J1 b f 0 s1.data.toList):=by rw [e1];exact T0.o.fn
    have I:=Aa I;clear o T0 e1 B C r L;go_wp2_with fail;go_loopw [5] (fun i wr=>∃(k:Nat) (s:ByteArray),i=.int .i64 k∧k≤f % 3∧dJ (PF w s v E A m wr)∧dJ (J1 b f k s.data.toList)) (fun i _=>f % 3-(intOf i).toNat)
    case atStart=>exact ⟨0,s1,rfl,by omega,I,T1⟩
    case round=>
     clear I T1;obtain ⟨k,s,rfl,W,I,T1⟩:=hrel;have L:s.size≤2400:=by have:=T1.o.len;rw [Bd];omega
     have B:=I.o.o.cell 0;have C:=I.o.o.frozen;have r:=Ae I.o.o;simp only [aU,aS] at B;obtain ⟨q,hq⟩:∃q,f % 3=q:=⟨_,rfl⟩;rw [hq] at W;have HQ:=Aa hq;have g0:q≤2:=by omega
     clear hq;by_cases f3:k<q
     ·have e9:f≠0:=by have:=HQ.o;omega
      go_wp2_with (go_at_call 27;refine (BP f hf _).mono ?_;rw [HQ.o];rintro e w' ⟨rfl,j⟩;have j:=j.symm;subst j);go_region_with (go_at_call 28;refine (BR k (by omega) _).mono ?_;rintro e w' ⟨⟨u,rfl,P,f5⟩,j⟩;have j:=j.symm;subst j);all_goals
       go_wp2_with fail;go_roundw
       case rel=>exact ⟨k+1,_,by go_num,by have:=HQ.o;omega,(I.o.set _).quiet (by repeat (first | exact Ab.refl _ _ | refine Ab.drew ?_ | refine Ab.drewN ?_ _ | refine Ab.alloc ?_ _)),by show J1 _ _ _ _;rw [show (s++({data:=#[32]}:ByteArray)++u).data.toList=s.data.toList++[32]++B8 k from by simp [P]];exact T1.o.name e9⟩
       case measure=>have:=HQ.o;simp [intOf];omega
     ·go_wp2_with (go_at_call 27;refine (BP f hf _).mono ?_;rw [HQ.o];rintro e w' ⟨rfl,j⟩;have j:=j.symm;subst j);have d:=Aa (I.o.set (s++{data:=#[41,32,123]}));have O:dJ (FB b f (15+7*q) (s++({data:=#[41,32,123]}:ByteArray)).data.toList):=by show FB _ _ _ _;rw [show (s++({data:=#[41,32,123]}:ByteArray)).data.toList=s.data.toList++[41,32,123] from by simp];exact (T1.o.close (by omega)).mono (by omega)
      generalize (s++({data:=#[41,32,123]}:ByteArray))=s2 at d O⊢;clear I T1 B C r L f3;go_loopw [6] (fun i wr=>∃(k:Nat) (s:ByteArray),i=.int .i64 k∧k≤4∧dJ (PF w s v E A m wr)∧dJ (FB b f (15+7*k) s.data.toList)) (fun i _=>4-(intOf i).toNat)
      case atStart=>exact ⟨q,s2,rfl,by omega,d,O⟩
      case round=>
       clear d O;obtain ⟨k,s,rfl,W,d,O⟩:=hrel;have L:s.size≤2460:=by have:=O.o.len;rw [Bd];omega
       have B:=d.o.o.cell 0;have C:=d.o.o.frozen;have r:=Ae d.o.o;simp only [aU,aS] at B;by_cases f2:k<4
       ·go_wp2;go_region_with (go_at_call 28;refine (BR k (by omega) _).mono ?_;rintro e w' ⟨⟨u,rfl,P,f5⟩,j⟩;have j:=j.symm;subst j);all_goals
         go_wp2_with fail;go_roundw
         case rel=>exact ⟨k+1,_,by go_num,by omega,(d.o.set _).quiet (by repeat (first | exact Ab.refl _ _ | refine Ab.drew ?_ | refine Ab.drewN ?_ _ | refine Ab.alloc ?_ _)),by show FB _ _ _ _;rw [show (s++({data:=#[32,118,97,114,32]}:ByteArray)++u++({data:=#[59]}:ByteArray)).data.toList=s.data.toList++([32,118,97,114,32]++B8 k++[59]) from by simp [P]];exact (O.o.more (n:=7) (K0 k) (by simp [CF])).mono (by omega)⟩
         case measure=>simp [intOf];omega
       ·go_wp2;have b9:k=4:=by omega
        have J:dJ (FB b f (43+36*ME b f 0) s.data.toList):=by rw [b9] at O;exact O.o
        clear O B C r L f2 W b9;go_loopw [7] (fun i wr=>∃(k:Nat) (s:ByteArray) (v:Value) (E A:Int) (m:Nat),i=.int .i64 k∧k≤60∧m≤60*f+k∧dJ (PF w s v E A m wr)∧dJ (FB b f (43+36*ME b f k) s.data.toList)) (fun i _=>60-(intOf i).toNat)
        case atStart=>exact ⟨0,s,v,E,A,m,rfl,by omega,by omega,d,J⟩
        case round=>
         clear d J;obtain ⟨k,s,v,E,A,m,rfl,W,hm,d,J⟩:=hrel;by_cases a6:k<b.length∧k<60
         ·obtain ⟨y,f1⟩:=a6;have a7:∃g a1,a=some ⟨g,a1,none⟩∧B9 g a1 b w:=by
           rcases d9.o with h0 | h1
           ·rw [h0] at y;simp at y
           ·exact h1
          obtain ⟨g,a1,ha,hR⟩:=a7;subst ha;have N:=Aa (hR.f8 d.o.f8);have d0:=N.o.c0 k y;have K:=N.o.c1 k y;have d2:=N.o.c2 k y;have d3:=N.o.c3 k y;have d4:=N.o.c4 k y;have d5:=N.o.c5 k y;have lg:g<wr.heap.size:=N.o.lt (fun e=>by rw [e] at y;simp at y);have b5:=d8.o b[k] (List.getElem_mem _);have hB:=GN b f k y;have HB:=Aa hB;have HG:=Aa hR.lt;clear hR hB;obtain ⟨M,c0⟩:∃l,b[k]=l:=⟨_,rfl⟩;rw [c0] at d0 K d2 d3 d4 d5 b5 HB;go_wp2_with fail;refine (I3 M b5 _).mono ?_;rintro e w2 ⟨av,a3,rfl,hI,e7,e6,b6⟩;have S:=Aa (d.o.quiet b6);have R2:=Aa (N.o.f8 b6);have HI:=Aa hI;obtain ⟨T,V,U,rfl⟩:=Ad hI;clear hI b6 d N d0 K d2 d3 d4 d5 lg;unfold L9;by_cases a5:AL M.a0 4=f
          ·have b8:(((AL M.a0 4:Nat):Int) !=(f:Int))=false:=by simp [a5]
           obtain ⟨Z,e0⟩:∃p,AL M.a0 4=p:=⟨_,rfl⟩;obtain ⟨D,e1⟩:∃p,AL M.a1 10=p:=⟨_,rfl⟩;obtain ⟨Q,e2⟩:∃p,AL M.a2 4=p:=⟨_,rfl⟩;obtain ⟨R,e3⟩:∃p,AL M.a3 4=p:=⟨_,rfl⟩;obtain ⟨G,e4⟩:∃p,AL M.a4 4=p:=⟨_,rfl⟩;have b1:D<10:=by rw [←e1];exact A1 _ _ (by omega)
           have b2:Q<4:=by rw [←e2];exact A1 _ _ (by omega)
           have b3:R<4:=by rw [←e3];exact A1 _ _ (by omega)
           have b4:G<4:=by rw [←e4];exact A1 _ _ (by omega)
           rw [e0] at b8;rw [e0,e1,e2,e3,e4];have E0:=Aa e0;have E1:=Aa e1;have d7:=Aa a5;clear e0 e1 e2 e3 e4 a5;have Y:=S.o.o.cell 2;have o3:=S.o.o.cell 3;have C:=S.o.o.frozen;have r:=Ae S.o.o;simp only [aU,aS,aT] at Y o3;have hA:=(Ab.refl (fun _=>False) w2).alloc (.cells #[.int .i64 Z,.int .i64 D,.int .i64 Q,.int .i64 R,.int .i64 G,.int .i64 G,.int .i64 0,.slice T V U] 39);have c3:∀k,v.ownBlock=some k→k≠w2.heap.size:=by intro k W e;obtain ⟨xs,X⟩:=S.o.row;have:=(X.lt k W).2;omega
           have F:dJ (QF w s v E A m g a1 b w2.heap.size Z D Q R G 0 (.slice T V U) a3 (w2.alloc (.cells #[.int .i64 Z,.int .i64 D,.int .i64 Q,.int .i64 R,.int .i64 G,.int .i64 G,.int .i64 0,.slice T V U] 39))):=
            ⟨S.o.quiet hA,Ar.new w2 _ _,Ax (Ac HI.o hA (fun _ _ q=>q)) (Nat.zero_le _),R2.o.f8 hA,by omega,fun hn=>by have:=HG.o hn;omega⟩
           clear S R2 HI hA;have K:=F.o.bx.cell 1;simp only [aU,aS,aT] at K;go_upto_if 73 with fail;generalize w2.alloc (.cells #[.int .i64 Z,.int .i64 D,.int .i64 Q,.int .i64 R,.int .i64 G,.int .i64 G,.int .i64 0,.slice T V U] 39)=w4 at F K⊢;have a2:=Aa c3;generalize w2.heap.size=sb at F a2 K⊢;clear Y o3 C r c3;go_cut [] (fun wx=>∃a8 a0,QF w s v a8 A m g a1 b sb Z D Q R G a0 (.slice T V U) a3 wx)
           case first=>
            by_cases h0:D=0
            ·have b0:((D:Int)==0)=true:=by simp [h0]
             have Y:=F.o.A.o.cell 2;have C:=F.o.A.o.frozen;have r:=Ae F.o.A.o;have d6:=F.o.bx.cell 6;have df:=F.o.bx.frozen;have ld:=Ae F.o.bx;have f0:=F.o.far;simp only [aU,aS,aT] at Y d6;clear h0;go_wp2;go_meet
             case rel=>exact ⟨_,_,(F.o.F (F.o.A.set2 _)).y6 a2.o _⟩
            ·have b0:((D:Int)==0)=false:=by simp;omega
             go_wp2;go_meet
             case rel=>exact ⟨_,_,F.o⟩
           case rest=>
            obtain ⟨a8,a0,c⟩:=hcut;have H:=Aa c;clear c F K;have K:=H.o.bx.cell 1;simp only [aU,aS,aT] at K;go_upto_if 83 with fail;go_cut [] (fun wx=>∃a9 a0,QF w s v a8 a9 m g a1 b sb Z D Q R G a0 (.slice T V U) a3 wx)
            case first=>
             by_cases h0:D=8
             ·have b0:((D:Int)==8)=true:=by simp [h0]
              have Y:=H.o.A.o.cell 3;have C:=H.o.A.o.frozen;have r:=Ae H.o.A.o;have d6:=H.o.bx.cell 6;have df:=H.o.bx.frozen;have ld:=Ae H.o.bx;have f0:=H.o.far;simp only [aU,aS,aT] at Y d6;clear h0;go_wp2;go_meet
              case rel=>exact ⟨_,_,(H.o.F (H.o.A.set3 _)).y6 a2.o _⟩
             ·have b0:((D:Int)==8)=false:=by simp;omega
              go_wp2;go_meet
              case rel=>exact ⟨_,_,H.o⟩
            case rest=>
             obtain ⟨a9,a0,c⟩:=hcut;clear H K;obtain ⟨xs,X⟩:=c.A.row;obtain ⟨va,vl,vc,rfl⟩:=Ad X;have o1:=c.A.o.cell 1;have C:=c.A.o.frozen 1;have r:=Ae c.A.o;have m0:=c.bx.cell 0;have m1:=c.bx.cell 1;have m2:=c.bx.cell 2;have m3:=c.bx.cell 3;have m4:=c.bx.cell 4;have m5:=c.bx.cell 5;have m6:=c.bx.cell 6;have m7:=c.bx.cell 7;have lb:=Ae c.bx;simp only [aU,aS,aT] at o1 m0 m1 m2 m3 m4 m5 m6 m7;have NO:=Aa (Ap X c.A.o (by decide));have f6:=c.A.f8.size;have Q2:=Aa c;clear c;obtain ⟨i1,hi,c4,c5,c6⟩:=info_parts Tryz.infoSm;go_wp2_with (at_builtin;refine wpList_append_own _ rfl _ _ 23 rfl w.heap.size 39 i1 (.agg KT) 8 80 Tryz.underlying23 hi c4 c5 c6 rfl (by decide) _ _ _ rfl (X.alloc _) ⟨wc.heap.size,0,none⟩ 1 1 [.int .i64 Z,.int .i64 D,.int .i64 Q,.int .i64 R,.int .i64 G,.int .i64 G,.int .i64 a0,.slice T V U] rfl rfl (AN rfl _ _) (fun x hx=>by simp at hx;rcases hx with rfl | rfl | rfl | rfl | rfl | rfl | rfl | rfl<;>rfl) (by unfold maxLen;omega) (by omega) (by simp;omega) ?_;intro v' w5 b7 a4 f4;have q1:w5.cell? ⟨w.heap.size+1,1,none⟩=some (.slice va vl vc):=(World.cell?_of_block (a4.block (w.heap.size+1) (by simp;omega) (fun h=>NO.o _ h.symm rfl))).trans (by rw [←o1];exact World.cell?_of_block (Below.heap_alloc _ _ _ r));have q2:w5.frozen? ⟨w.heap.size+1,1,none⟩=false:=(World.frozen?_of_block (a4.block (w.heap.size+1) (by simp;omega) (fun h=>NO.o _ h.symm rfl))).trans (by rw [←C];exact World.frozen?_of_block (Below.heap_alloc _ _ _ r));obtain ⟨c7,c9,c8,rfl⟩:=Ad b7);have z:=Aa (Q2.o.grow a2.o ((Ab.refl _ _).alloc _) b7 a4);generalize w5.setCell ⟨w.heap.size+1,1,none⟩ (.slice c7 c9 c8)=w6 at z⊢;clear Q2 X o1 C r m0 m1 m2 m3 m4 m5 m6 m7 lb NO f6 b7 a4 f4 q1 q2 hi c4 c5 c6 a2;have B:=z.o.A.o.cell 0;have C:=z.o.A.o.frozen;have r:=Ae z.o.A.o;have m0:=z.o.bx.cell 0;have m1:=z.o.bx.cell 1;have m2:=z.o.bx.cell 2;have m3:=z.o.bx.cell 3;have m4:=z.o.bx.cell 4;have m5:=z.o.bx.cell 5;have m6:=z.o.bx.cell 6;have m7:=z.o.bx.cell 7;have d5:=z.o.ln.c5 k y;have lg:g<w6.heap.size:=z.o.ln.lt (fun e=>by rw [e] at y;simp at y);simp only [aU,aS,aT,c0] at B m0 m1 m2 m3 m4 m5 m6 m7 d5;have L:s.size≤4603:=by have:=J.o.len;have:=Co b f;have:ME b f k≤k:=Nat.le_trans List.countP_le_length (by simp;omega);rw [Bd];omega
             refine L1 ?_;refine I8 _ g a1 b.length e5 (w.heap.size+1) sb k Z D Q R G a0 M.a5 T V U a3 s w6 z.o.row e7 e6 b1 b2 b3 b4 b5.k5 y L B (C 0) r m0 m1 m2 m3 m4 m5 m6 m7 d5 lg ?_;intro t u w7 ht P c1;have Q7:=Aa (z.o.quiet c1);have g2:=F3 P;have g1:=F0 ht;have T5:dJ (FB b f (43+36*ME b f (k+1)) (s++({data:=#[32]}:ByteArray)++u).data.toList):=by show FB _ _ _ _;rw [show (s++({data:=#[32]}:ByteArray)++u).data.toList=s.data.toList++([32]++u.data.toList) from by simp];exact (J.o.more (n:=36) (by rw [P,ht];exact Al (i:=0) rfl (K2 _ _ (KY _ _ _ _ _ _))) (by have:=Bd u;simp only [List.length_append,List.length_cons,List.length_nil];omega)).mono (by rw [HB.o,if_pos d7.o];omega)
             clear B C r m0 m1 m2 m3 m4 m5 m6 m7 d5 lg ht P c1;go_wp2_with fail;go_roundw
             case rel=>exact ⟨k+1,_,.slice c7 c9 c8,a8,a9,m+1,by go_num,by omega,by omega,Q7.o.A.set _,T5⟩
             case measure=>simp [intOf];omega
          ·have b8:(((AL M.a0 4:Nat):Int) !=(f:Int))=true:=by simp;omega
           go_wp2_with fail;go_roundw
           case rel=>exact ⟨k+1,s,v,E,A,m,by go_num,by omega,by omega,S.o.quiet (by repeat (first | exact Ab.refl _ _ | refine Ab.drew ?_ | refine Ab.drewN ?_ _ | refine Ab.alloc ?_ _)),by show FB _ _ _ _;rw [HB.o,if_neg a5];exact J.o⟩
           case measure=>simp [intOf];omega
         ·have L:s.size≤4603:=by have:=J.o.len;have:=Co b (f+1);have:=FV b f;have:=EE b f k a6 W;rw [Bd];omega
          have B:=d.o.o.cell 0;have C:=d.o.o.frozen;have r:=Ae d.o.o;simp only [aU,aS] at B;have T4:dJ (L2 b (f+1) (s++({data:=#[32,125,10]}:ByteArray)).data.toList):=by show L2 _ _ _;rw [show (s++({data:=#[32,125,10]}:ByteArray)).data.toList=s.data.toList++[32,125,10] from by simp];have h1:=FV b f;have h2:=EE b f k a6 W;have h3:=J.o.len;exact ⟨Al J.o.run rfl,by simp only [List.length_append,List.length_cons,List.length_nil];omega,fun _=>J.o.head.trans (List.prefix_append _ _),fun h=>by omega⟩
          by_cases y:k<b.length
          ·have f1:¬k<60:=fun h=>a6 ⟨y,h⟩
           go_wp2;go_roundw
           case rel=>exact ⟨f+1,_,v,E,A,m,by go_num,by omega,by omega,d.o.set _,T4⟩
           case measure=>simp [intOf];omega
          ·go_wp2;go_roundw
           case rel=>exact ⟨f+1,_,v,E,A,m,by go_num,by omega,by omega,d.o.set _,T4⟩
           case measure=>simp [intOf];omega
  ·have f9:f=4:=by omega
   have e8:=Co b f;have B:=o.o.o.cell 0;have o1:=o.o.o.cell 1;have Y:=o.o.o.cell 2;have o3:=o.o.o.cell 3;have r0:=o.o.t8.cell 0;have r1:=o.o.t8.cell 1;have r2:=o.o.t8.cell 2;have r3:=o.o.t8.cell 3;have rf:=o.o.t8.frozen;have r:=Ae o.o.o;have lr:=Ae o.o.t8;obtain ⟨xs,X⟩:=o.o.row;obtain ⟨va,vl,vc,rfl⟩:=Ad X;simp only [aU,aS,aT] at B o1 Y o3 r0 r1 r2 r3;have L:s.size≤2400:=by have:=T0.o.len;rw [Bd];omega
   go_wp2;refine bodyPost_ret (v:=.agg #[.string s,.slice va vl vc,.int .i64 E,.int .i64 A]) (by simp [results,Tryz.results10,go_sem,r0,r1,r2,r3]) rfl ⟨⟨s,va,vl,vc,E,A,rfl,T0.o.run,L,T0.o.head (by omega)⟩,?_⟩;iterate 4 refine Ab.set_far ?_ (Nat.le_refl _)
   exact o.o.f8
end Go.Proofs.YtegmjgjkcdbmkaaGreatDoor
