/- One of the texts of the proof: KpE. -/
import Derived.Test.YtegmjgjkcdbmkaaGreatDoorS29
set_option maxRecDepth 100000
set_option maxHeartbeats 4000000
namespace Go.Proofs.YtegmjgjkcdbmkaaGreatDoor
open Go.RowKit
theorem DF(s:ByteArray):s.size=s.data.toList.length:=by simp
structure WE(ls:List Ln)(f k:Nat)(l:List UInt8):Prop where
 run:∃j,j≤1∧Es 0 l=some j
 len:l.length≤60*f+36*Pz ls f+8+2*k
 head:(f=0∧k=0∧l=[102,110,32,109,97,105,110,40])∨Rn<+:l
theorem Zd.fn{a:List Ln}{f:Nat}{l:List UInt8}(h:Zd a f l):WE a f 0 (l++[102,110,32]++II f++[40]):=by
 obtain ⟨j,_,c⟩:=Rg f;have d:=J5 f;refine ⟨⟨0,by omega,An (An (An h.run (j:=0) rfl) c) rfl⟩,?_,?_⟩
 ·have:=h.len;simp only [rV,rW,List.length_nil];omega
 ·by_cases b:f=0
  ·subst b;rw [h.nil rfl];exact .inl ⟨rfl,rfl,rfl⟩
  ·refine .inr ?_;rw [List.append_assoc,List.append_assoc];exact (h.head (by omega)).trans (List.prefix_append _ _)
theorem WE.name{a:List Ln}{f k v:Nat}{l:List UInt8}(h:WE a f k l)(d:f≠0):WE a f (k+1) (l++[32]++Cx v):=by
 obtain ⟨j,_,e⟩:=h.run;refine ⟨⟨1,by omega,An (An e (j:=0) rfl) (Fz v 0 (by omega))⟩,?_,?_⟩
 ·have:=h.len;simp only [rV,rW,List.length_nil,Gz];omega
 ·rcases h.head with ⟨b,_⟩ | c
  ·exact absurd b d
  ·refine .inr ?_;rw [List.append_assoc];exact c.trans (List.prefix_append _ _)
structure Pc(ls:List Ln)(f k:Nat)(l:List UInt8):Prop where
 run:Es 0 l=some 0
 len:l.length≤60*f+36*Pz ls f+k
 head:Rn<+:l
theorem WE.close{a:List Ln}{f k:Nat}{l:List UInt8}(h:WE a f k l)(e:k≤2):Pc a f 15 (l++[41,32,123]):=by
 obtain ⟨j,_,d⟩:=h.run;refine ⟨An d rfl,?_,?_⟩
 ·have:=h.len;simp only [rV,rW,List.length_nil];omega
 ·rcases h.head with ⟨_,_,b⟩ | c
  ·rw [b];exact ⟨[32,123],rfl⟩
  ·exact c.trans (List.prefix_append _ _)
theorem Pc.more{a:List Ln}{f k n:Nat}{l x:List UInt8}(h:Pc a f k l)(b:Es 0 x=some 0)(c:x.length≤n):Pc a f (k+n) (l++x):=by refine ⟨An h.run b,?_,h.head.trans (List.prefix_append _ _)⟩;have:=h.len;simp only [rV];omega
theorem Pc.mono{a:List Ln}{f k n:Nat}{l:List UInt8}(h:Pc a f k l)(b:k≤n):Pc a f n l:=⟨h.run,rO h.len (by omega),h.head⟩
theorem XK(v:Nat):Es 0 ([32,118,97,114,32]++Cx v++[59])=some 0:=An (An (i:=0) rfl (Fz v 0 (by omega))) rfl
structure QF(w:World)(s:ByteArray)(v:Value)(pl ca:Int)(xs:List (Sm×Nat))(g off:Nat)(ls:List Ln)(sb p0 p1 p2 p3 p4:Nat)(num:Int)(av:Value)(args:List Nat)(wx:World):Prop where
 pf:JJ w s v pl ca xs wx
 bx:Ak sb #[.int .i64 p0,.int .i64 p1,.int .i64 p2,.int .i64 p3,.int .i64 p4,.int .i64 p4,.int .i64 num,av] 39 wx
 row:BT w.heap.size wx av args
 ln:Hm g off ls wx
 far:w.heap.size+2≤sb
 gl:ls≠[]→g<w.heap.size
theorem Hm.set{g l b i:Nat}{c:List Ln}{d:World}{u:Value}(h:Hm g l c d)(m:c≠[]→g≠b):Hm g l c (d.setCell ⟨b,i,none⟩ u):=by
 have j:=(Ab.refl (fun k=>k=b) d).d8 i u;have k:∀o,c≠[]→(d.setCell ⟨b,i,none⟩ u).cell? ⟨g,o,none⟩=d.cell? ⟨g,o,none⟩:=fun o f=>rM (j.block g (h.lt f) (m f))
 have e:∀i,i<c.length→c≠[]:=fun i a e=>by subst e;simp at a
 exact ⟨fun f=>rP (h.lt f) j.size,fun i a=>(k _ (e i a)).trans (h.c0 i a),fun i a=>(k _ (e i a)).trans (h.c1 i a),fun i a=>(k _ (e i a)).trans (h.c2 i a),fun i a=>(k _ (e i a)).trans (h.c3 i a),fun i a=>(k _ (e i a)).trans (h.c4 i a),fun i a=>(k _ (e i a)).trans (h.c5 i a)⟩
theorem QF.cR{w:World}{s t:ByteArray}{v y:Value}{D A r d j:Int}{E z:List (Sm×Nat)}{g l:Nat}{f:List Ln}{x m n o p q:Nat}{c:Value}{b:List Nat}{a:World}{i:Nat}{u:Value}(h:QF w s v D A E g l f x m n o p q j c b a)(C:JJ w t y r d z (a.setCell ⟨w.heap.size+1,i,none⟩ u)):QF w t y r d z g l f x m n o p q j c b (a.setCell ⟨w.heap.size+1,i,none⟩ u):=by have e:=(Ab.refl (fun k=>k=w.heap.size+1) a).d8 i u;have F:=h.far;refine ⟨C,h.bx.O e (by omega),Ac h.row e (Aj h.row h.pf.o (by decide)),h.ln.set (fun B=>by have:=h.gl B;omega),h.far,h.gl⟩
theorem JJ.other{w:World}{s:ByteArray}{v:Value}{e d:Int}{f:List (Sm×Nat)}{b i:Nat}{u:Value}{g:Array Value}{a:World}(h:JJ w s v e d f a)(n:w.heap.size+2≤b)(j:∀k,v.ownBlock=some k→k≠b)(m:Ak b g 39 a):JJ w s v e d f (a.setCell ⟨b,i,none⟩ u):=by have c:=(Ab.refl (fun k=>k=b) a).d8 i u;exact ⟨h.o.O c (by omega),h.l7.O c (by omega),h.row.O c j (fun _ _ l=>Aj l m (by decide)),h.O.set_far (by omega)⟩
theorem QF.bG{w:World}{s:ByteArray}{v:Value}{r f y:Int}{t:List (Sm×Nat)}{g j:Nat}{i:List Ln}{a l m o p q:Nat}{e:Value}{d:List Nat}{c:World}(h:QF w s v r f t g j i a l m o p q y e d c)(b:∀k,v.ownBlock=some k→k≠a)(n:Int):QF w s v r f t g j i a l m o p q n e d (c.setCell ⟨a,6,none⟩ (.int .i64 n)):=by have x:=(Ab.refl (fun k=>k=a) c).d8 6 (.int .i64 n);have u:=h.far;refine ⟨h.pf.other u b h.bx,?_,Ac h.row x (Aj h.row h.bx (by decide)),h.ln.set (fun b=>by have:=h.gl b;omega),h.far,h.gl⟩;have:=h.bx.set 6 (.int .i64 n);simpa using this
theorem Tryz.infoSm:(Tryz.prog.info? 39).map (fun i=>(i.zero,i.size,i.bytes))=some (some (.agg Xs),8,80):=by kernel_rfl
theorem QF.grow{w:World}{s:ByteArray}{v f:Value}{O E H:Int}{u:List (Sm×Nat)}{g I:Nat}{t:List Ln}{D J K L M N:Nat}{l:Value}{p:List Nat}{m W j:World}(h:QF w s v O E u g I t D J K L M N H l p m)(T:∀k,v.ownBlock=some k→k≠D)(R:Ab (fun _=>False) m W)
 {n:List ((Sm×Nat)×Value)}(a0:n.map (·.1)=u)(r:m.ownsRow w.heap.size 39 8 v n.length (n.flatMap fun y=>Wu y.1 y.2))(V:∀y,y∈n→BT w.heap.size m y.2 y.1.1.args)(x:Sm×Nat)(Y:x.1.args=p)
 (F:j.ownsRow w.heap.size 39 8 f (n.length+1) ((n.flatMap fun y=>Wu y.1 y.2)++Wu x l))(S:W.grownBy j v.ownBlock):QF w s f O E (u++[x]) g I t D J K L M N H l p (j.setCell ⟨w.heap.size+1,1,none⟩ f):=by
 have c:Ab (fun k=>v.ownBlock=some k) m j:=Ab.grown (R.mono (fun _ _ q=>q.elim)) S (fun k b=>.inl b);have z:=h.pf.o.O c (fun q=>Aj r h.pf.o (by decide) _ q rfl);have P:=h.pf.l7.O c (fun q=>Aj r h.pf.l7 (by decide) _ q rfl);have Q:=h.bx.O c (fun q=>T _ q rfl);have a1:=h.far;have d:=(Ab.refl (fun k=>k=w.heap.size+1) j).d8 1 f;have C:=h.pf.O.size;have G:=c.size;have U:Ab (fun _=>False) w (j.setCell ⟨w.heap.size+1,1,none⟩ f):=by refine ⟨d.os.trans (c.os.trans h.pf.O.os),d.tape.trans (c.tape.trans h.pf.O.tape),d.output.trans (c.output.trans h.pf.O.output),rO C (rO G d.size),fun k b _=>?_⟩;rw [d.block k (rP b (rO C G)) (by omega),c.block k (rP b C) (fun q=>by have:=(r.lt k q).1;omega)];exact h.pf.O.block k b (fun q=>q)
 have e:∀i,i<t.length→t≠[]:=fun i a e=>by subst e;simp at a
 have b:∀o,t≠[]→(j.setCell ⟨w.heap.size+1,1,none⟩ f).cell? ⟨g,o,none⟩=m.cell? ⟨g,o,none⟩:=fun o B=>by have a2:=h.gl B;exact rM ((d.block g (by omega) (by omega)).trans (c.block g (by omega) (fun q=>by have:=(r.lt g q).1;omega)))
 have A:∀{l:Value} {p:List Nat},BT w.heap.size m l p→BT w.heap.size (j.setCell ⟨w.heap.size+1,1,none⟩ f) l p:=fun q=>Ac (Av q c (D6 r (by decide))) d (Aj (Av q c (D6 r (by decide))) z (by decide))
 have X:J2 w.heap.size (j.setCell ⟨w.heap.size+1,1,none⟩ f) f (u++[x]):=by
  refine ⟨n++[(x,l)],by simp [a0],?_,fun y Z=>?_⟩
  ·have:=Ac F d (Aj F z (by decide));simpa using this
  ·rcases List.mem_append.1 Z with q | q
   ·exact A (V y q)
   ·rw [List.mem_singleton.1 q,Y];exact A h.row
 refine ⟨⟨?_,P.O d (by omega),X,U⟩,Q.O d (by omega),?_,?_,h.far,h.gl⟩
 ·have:=z.set 1 f;simpa using this
 ·exact A h.row
 ·exact ⟨fun B=>by have:=h.gl B;have:=d.size;omega,fun i a=>(b _ (e i a)).trans (h.ln.c0 i a),fun i a=>(b _ (e i a)).trans (h.ln.c1 i a),fun i a=>(b _ (e i a)).trans (h.ln.c2 i a),fun i a=>(b _ (e i a)).trans (h.ln.c3 i a),fun i a=>(b _ (e i a)).trans (h.ln.c4 i a),fun i a=>(b _ (e i a)).trans (h.ln.c5 i a)⟩
theorem QF.quiet{w:World}{s:ByteArray}{v:Value}{o d f:Int}{u:List (Sm×Nat)}{g i:Nat}{e:List Ln}{p j k l m n:Nat}{c:Value}{b:List Nat}{r t:World}(h:QF w s v o d u g i e p j k l m n f c b r)(a:Ab (fun _=>False) r t):QF w s v o d u g i e p j k l m n f c b t:=
 ⟨h.pf.quiet a,h.bx.O a (fun q=>q),Ac h.row a (fun _ _ q=>q),h.ln.O a,h.far,h.gl⟩
def aP(a:List Ln)(w:World)(e:Ending)(b:World):Prop:=
 (∃(s:ByteArray) (v:Value),e=.returned (.agg #[.string s,v,.int .i64 ((DS (Hd a 4):Nat):Int),.int .i64 ((DT (Hd a 4):Nat):Int)])∧s.data.toList=tA a 4∧Es 0 s.data.toList=some 0∧s.size≤2400∧Rn<+:s.data.toList∧J2 w.heap.size b v (Ch (Hd a 4) 0 0))∧Ab (fun _=>False) w b
theorem Qm(lv:Value)(b:List Ln)(w:World)(hl:Wy lv b w)(g5:∀l∈b,l.Ok):
 Calls Tryz.prog 10 #[lv] w fun e w'=>aP b w e w':=by
 obtain ⟨a,i8,rfl,k3,a6⟩:=hl;have i6:=Aa a6;have i4:=Aa g5;clear a6 g5;go_enter Tryz.func10,Tryz.ntmps10;go_wp2;go_loopw [4] (fun i wr=>∃(f:Nat) (s:ByteArray) (v:Value),i=.int .i64 f∧f≤4∧dN (JJ w s v ((DS (Hd b f):Nat):Int) ((DT (Hd b f):Nat):Int) (Ch (Hd b f) 0 0) wr)∧dN (Zd b f s.data.toList)∧dN (s.data.toList=tA b f)) (fun i _=>4-(intOf i).toNat)
 case atStart=>
  refine ⟨0,{data:=#[]},.slice none 0 0,rfl,by omega,⟨?_,?_,⟨[],rfl,World.ownsRow_nil _ _ _ _,fun _ q=>by cases q⟩,((Ab.refl _ _).alloc _).alloc _⟩,⟨rfl,by simp,by omega,fun _=>rfl⟩,rfl⟩
  ·have:=Ak.new (w.alloc (.cells ZW 25)) ZW 25;simpa [Hd,DS,DT] using this
  ·exact (Ak.new w ZW 25).alloc _
 case round=>
  obtain ⟨f,s,v,rfl,k4,j,T0,E0⟩:=hrel;obtain ⟨F,a5⟩:∃p:Int,((DS (Hd b f):Nat):Int)=p:=⟨_,rfl⟩;obtain ⟨A,a4⟩:∃p:Int,((DT (Hd b f):Nat):Int)=p:=⟨_,rfl⟩;obtain ⟨M,a0⟩:∃p,Ch (Hd b f) 0 0=p:=⟨_,rfl⟩;rw [a5,a4,a0] at j;have a2:=Aa a5;have a1:=Aa a4;have a3:=Aa a0;clear a5 a4 a0;by_cases hf:f<4
  ·have i9:=J3 b f;have P:s.size≤2400:=by have:=T0.o.len;rw [DF];omega
   have B:=j.o.o.cell 0;have C:=j.o.o.frozen;have y:=Ae j.o.o;simp only [dM,dJ] at B;go_wp2;go_cut [] (fun wx=>∃s1:ByteArray,JJ w s1 v F A M wx∧s1.data.toList=s.data.toList++[102,110,32]++II f++[40])
   case first=>
    go_region_with (go_at_call 26;refine (I4 f hf _).mono ?_;rintro e w' ⟨⟨u,rfl,J,k9⟩,o⟩;have o:=o.symm;subst o);all_goals
     go_wp2_with fail;go_meet
     case rel=>exact ⟨_,(j.o.set _).quiet (by repeat (first | exact Ab.refl _ _ | refine Ab.drew ?_ | refine Ab.drewN ?_ _ | refine Ab.alloc ?_ _)),by simp [J]⟩
   case rest=>
    obtain ⟨s1,K,e1⟩:=hcut;have T1:dN (WE b f 0 s1.data.toList):=by rw [e1];exact T0.o.fn
    have E1:dN (s1.data.toList=tB b f 0):=by show _=_;rw [e1,E0.o];simp [tB]
    have K:=Aa K;clear j T0 E0 e1 B C y P;go_wp2_with fail;go_loopw [5] (fun i wr=>∃(k:Nat) (s:ByteArray),i=.int .i64 k∧k≤f % 3∧dN (JJ w s v F A M wr)∧dN (WE b f k s.data.toList)∧dN (s.data.toList=tB b f k)) (fun i _=>f % 3-(intOf i).toNat)
    case atStart=>exact ⟨0,s1,rfl,by omega,K,T1,E1⟩
    case round=>
     clear K T1 E1;obtain ⟨k,s,rfl,W,K,T1,E1⟩:=hrel;have P:s.size≤2400:=by have:=T1.o.len;rw [DF];omega
     have B:=K.o.o.cell 0;have C:=K.o.o.frozen;have y:=Ae K.o.o;simp only [dM,dJ] at B;obtain ⟨q,hq⟩:∃q,f % 3=q:=⟨_,rfl⟩;rw [hq] at W;have Z:=Aa hq;have k6:q≤2:=by omega
     clear hq;by_cases j5:k<q
     ·have j1:f≠0:=by have:=Z.o;omega
      go_wp2_with (go_at_call 27;refine (Eh f hf _).mono ?_;rw [Z.o];rintro e w' ⟨rfl,o⟩;have o:=o.symm;subst o);go_region_with (go_at_call 28;refine (Ei k (by omega) _).mono ?_;rintro e w' ⟨⟨u,rfl,J,j8⟩,o⟩;have o:=o.symm;subst o);all_goals
       go_wp2_with fail;go_roundw
       case rel=>exact ⟨k+1,_,by go_num,by have:=Z.o;omega,(K.o.set _).quiet (by repeat (first | exact Ab.refl _ _ | refine Ab.drew ?_ | refine Ab.drewN ?_ _ | refine Ab.alloc ?_ _)),by show WE _ _ _ _;rw [show (s++({data:=#[32]}:ByteArray)++u).data.toList=s.data.toList++[32]++Cx k from by simp [J]];exact T1.o.name j1,by show _=_;rw [Xz,←E1.o];simp [J]⟩
       case measure=>have:=Z.o;simp [intOf];omega
     ·go_wp2_with (go_at_call 27;refine (Eh f hf _).mono ?_;rw [Z.o];rintro e w' ⟨rfl,o⟩;have o:=o.symm;subst o);have d:=Aa (K.o.set (s++{data:=#[41,32,123]}));have U:dN (Pc b f (15+7*q) (s++({data:=#[41,32,123]}:ByteArray)).data.toList):=by show Pc _ _ _ _;rw [show (s++({data:=#[41,32,123]}:ByteArray)).data.toList=s.data.toList++[41,32,123] from by simp];exact (T1.o.close (by omega)).mono (by omega)
      have g0:k=f % 3:=by have:=Z.o;omega
      have Y:dN ((s++({data:=#[41,32,123]}:ByteArray)).data.toList=tC b f q):=by show _=_;rw [←Z.o,XB,←g0,←E1.o];simp
      generalize (s++({data:=#[41,32,123]}:ByteArray))=s2 at d U Y⊢;clear K T1 E1 B C y P j5 g0;go_loopw [6] (fun i wr=>∃(k:Nat) (s:ByteArray),i=.int .i64 k∧k≤4∧q≤k∧dN (JJ w s v F A M wr)∧dN (Pc b f (15+7*k) s.data.toList)∧dN (s.data.toList=tC b f k)) (fun i _=>4-(intOf i).toNat)
      case atStart=>exact ⟨q,s2,rfl,by omega,by omega,d,U,Y⟩
      case round=>
       clear d U Y;obtain ⟨k,s,rfl,W,j7,d,U,Y⟩:=hrel;have P:s.size≤2460:=by have:=U.o.len;rw [DF];omega
       have B:=d.o.o.cell 0;have C:=d.o.o.frozen;have y:=Ae d.o.o;simp only [dM,dJ] at B;by_cases j4:k<4
       ·go_wp2;go_region_with (go_at_call 28;refine (Ei k (by omega) _).mono ?_;rintro e w' ⟨⟨u,rfl,J,j8⟩,o⟩;have o:=o.symm;subst o);all_goals
         go_wp2_with fail;go_roundw
         case rel=>exact ⟨k+1,_,by go_num,by omega,by omega,(d.o.set _).quiet (by repeat (first | exact Ab.refl _ _ | refine Ab.drew ?_ | refine Ab.drewN ?_ _ | refine Ab.alloc ?_ _)),by show Pc _ _ _ _;rw [show (s++({data:=#[32,118,97,114,32]}:ByteArray)++u++({data:=#[59]}:ByteArray)).data.toList=s.data.toList++([32,118,97,114,32]++Cx k++[59]) from by simp [J]];exact (U.o.more (n:=7) (XK k) (by simp [Gz])).mono (by omega),by show _=_;rw [XA b f k (by have:=Z.o;omega),←Y.o];simp [J]⟩
         case measure=>simp [intOf];omega
       ·go_wp2;have c8:k=4:=by omega
        have N:dN (Pc b f (43+36*JQ b f 0) s.data.toList):=by rw [c8] at U;exact U.o
        have E3:dN (s.data.toList=tD b f 0):=by rw [c8] at Y;rw [XC];exact Y
        have L:dN (JJ w s v ((DS (Hd b f++Hj b f 0):Nat):Int) ((DT (Hd b f++Hj b f 0):Nat):Int) (Ch (Hd b f++Hj b f 0) 0 0) wr):=by rw [VY,List.append_nil,a2.o,a1.o,a3.o];exact d
        clear U Y d B C y P j4 W c8 j7 a2 a1 a3;go_loopw [7] (fun i wr=>∃(k:Nat) (s:ByteArray) (v:Value),i=.int .i64 k∧k≤60∧dN (JJ w s v ((DS (Hd b f++Hj b f k):Nat):Int) ((DT (Hd b f++Hj b f k):Nat):Int) (Ch (Hd b f++Hj b f k) 0 0) wr)∧dN (Pc b f (43+36*JQ b f k) s.data.toList)∧dN (s.data.toList=tD b f k)) (fun i _=>60-(intOf i).toNat)
        case atStart=>exact ⟨0,s,v,rfl,by omega,L,N,E3⟩
        case round=>
         clear L N E3;obtain ⟨k,s,v,rfl,W,d,N,E3⟩:=hrel;obtain ⟨V,c0⟩:∃l,Hd b f++Hj b f k=l:=⟨_,rfl⟩;have j0:V.length≤60*f+k:=by rw [←c0,rV];have:=MU b f;have:=RI b f k;omega
         rw [c0] at d;have c3:=Aa c0;obtain ⟨F,a5⟩:∃p:Nat,DS V=p:=⟨_,rfl⟩;obtain ⟨A,a4⟩:∃p:Nat,DT V=p:=⟨_,rfl⟩;obtain ⟨M,a0⟩:∃p,Ch V 0 0=p:=⟨_,rfl⟩;have k5:F≤300:=by have:DS V≤V.length:=List.countP_le_length;omega
         have k2:A≤300:=by have:DT V≤V.length:=List.countP_le_length;omega
         have l0:M.length≤300:=by rw [←a0,Iu];omega
         rw [a5,a4,a0] at d;have a2:=Aa a5;have a1:=Aa a4;have a3:=Aa a0;clear a5 a4 a0 c0 j0;by_cases b6:k<b.length∧k<60
         ·obtain ⟨r,j3⟩:=b6;have a6:∃g a7,a=some ⟨g,a7,none⟩∧Hm g a7 b w:=by
           rcases i6.o with H | h1
           ·rw [H] at r;simp at r
           ·exact h1
          obtain ⟨g,a7,ha,hR⟩:=a6;subst ha;have T:=Aa (hR.O d.o.O);have d0:=T.o.c0 k r;have O:=T.o.c1 k r;have d2:=T.o.c2 k r;have d3:=T.o.c3 k r;have d4:=T.o.c4 k r;have d5:=T.o.c5 k r;have lg:g<wr.heap.size:=T.o.lt (fun e=>by rw [e] at r;simp at r);have c9:=i4.o b[k] (rQ _);have hB:=Sq b f k r;have HB:=Aa hB;have b9:=Aa (VX b f k r);have HG:=Aa hR.lt;clear hR hB;obtain ⟨D,g1⟩:∃l,b[k]=l:=⟨_,rfl⟩;rw [g1] at d0 O d2 d3 d4 d5 c9 HB b9;go_wp2_with fail;refine (PW D c9 _).mono ?_;rintro e w2 ⟨av,rfl,hI,d7⟩;have f5:=LY D;have f4:=NZ D;obtain ⟨b0,c7⟩:∃l,Fa D=l:=⟨_,rfl⟩;rw [c7] at hI f5 f4;have h9:=Aa c7;clear c7;have i7:=Aa d.o.O.size;have L:=Aa (d.o.quiet d7);have R2:=Aa (T.o.O d7);have HI:=Aa hI;obtain ⟨aa,al,ac,rfl⟩:=Ad hI;clear hI d7 d T d0 O d2 d3 d4 d5 lg;unfold Z8;by_cases b5:AK D.a0 4=f
          ·have f9:(((AK D.a0 4:Nat):Int) !=(f:Int))=false:=by simp [b5]
           obtain ⟨X,e0⟩:∃p,AK D.a0 4=p:=⟨_,rfl⟩;obtain ⟨c,e1⟩:∃p,AK D.a1 10=p:=⟨_,rfl⟩;obtain ⟨R,e2⟩:∃p,AK D.a2 4=p:=⟨_,rfl⟩;obtain ⟨S,e3⟩:∃p,AK D.a3 4=p:=⟨_,rfl⟩;obtain ⟨E,e4⟩:∃p,AK D.a4 4=p:=⟨_,rfl⟩;have b1:c<10:=by rw [←e1];exact Bz _ _ (by omega)
           have b2:R<4:=by rw [←e2];exact Bz _ _ (by omega)
           have b3:S<4:=by rw [←e3];exact Bz _ _ (by omega)
           have b4:E<4:=by rw [←e4];exact Bz _ _ (by omega)
           rw [e0] at f9;rw [e0,e1,e2,e3,e4];have c4:=Aa b5;obtain ⟨sm,e5⟩:∃s:Sm,s=⟨X,c,R,S,E,E,b0,AK D.a5 5⟩:=⟨_,rfl⟩;have f1:dN (Qt D=sm):=by show _=_;rw [e5];unfold Qt;rw [e0,e1,e2,e3,e4,h9.o]
           have b8:=Aa e5;clear e0 e1 e2 e3 e4 b5 e5;have o2:=L.o.o.cell 2;have o3:=L.o.o.cell 3;have C:=L.o.o.frozen;have y:=Ae L.o.o;simp only [dM,dJ,dK] at o2 o3;have hA:=(Ab.refl (fun _=>False) w2).alloc (.cells #[.int .i64 X,.int .i64 c,.int .i64 R,.int .i64 S,.int .i64 E,.int .i64 E,.int .i64 0,.slice aa al ac] 39);have g9:∀k,v.ownBlock=some k→k≠w2.heap.size:=by intro k W e;obtain ⟨ys,_,hr,_⟩:=L.o.row;have:=(hr.lt k W).2;omega
           have G:dN (QF w s v F A M g a7 b w2.heap.size X c R S E 0 (.slice aa al ac) b0 (w2.alloc (.cells #[.int .i64 X,.int .i64 c,.int .i64 R,.int .i64 S,.int .i64 E,.int .i64 E,.int .i64 0,.slice aa al ac] 39))):=
            ⟨L.o.quiet hA,Ak.new w2 _ _,Ao (Ac HI.o hA (fun _ _ q=>q)) i7.o,R2.o.O hA,by omega,fun hn=>by have:=HG.o hn;omega⟩
           clear L R2 HI hA;have O:=G.o.bx.cell 1;simp only [dM,dJ,dK] at O;go_upto_if 73 with fail;generalize w2.alloc (.cells #[.int .i64 X,.int .i64 c,.int .i64 R,.int .i64 S,.int .i64 E,.int .i64 E,.int .i64 0,.slice aa al ac] 39)=w4 at G O⊢;have a9:=Aa g9;generalize w2.heap.size=sb at G a9 O⊢;clear o2 o3 C y g9;go_cut [] (fun wx=>∃c2 Q:Nat,(c2=if c=0 then F+1 else F)∧(Q=if c=0 then F+1 else 0)∧QF w s v c2 A M g a7 b sb X c R S E Q (.slice aa al ac) b0 wx)
           case first=>
            by_cases H:c=0
            ·have c6:((c:Int)==0)=true:=by simp [H]
             have o2:=G.o.pf.o.cell 2;have C:=G.o.pf.o.frozen;have y:=Ae G.o.pf.o;have d6:=G.o.bx.cell 6;have df:=G.o.bx.frozen;have ld:=Ae G.o.bx;have j2:=G.o.far;simp only [dM,dJ,dK] at o2 d6;have a8:=Aa H;clear H;go_wp2;go_meet
             case rel=>exact ⟨F+1,F+1,by rw [if_pos a8.o],by rw [if_pos a8.o],(G.o.cR (G.o.pf.set2 _)).bG a9.o _⟩
            ·have c6:((c:Int)==0)=false:=by simp;omega
             go_wp2;go_meet
             case rel=>exact ⟨F,0,by rw [if_neg H],by rw [if_neg H],G.o⟩
           case rest=>
            obtain ⟨c2,h8,g6,g2,m⟩:=hcut;have i5:=Aa g6;have i2:=Aa g2;clear g6 g2;have I:=Aa m;clear m G O;have O:=I.o.bx.cell 1;simp only [dM,dJ,dK] at O;go_upto_if 83 with fail;go_cut [] (fun wx=>∃c5 Q:Nat,(c5=if c=8 then A+1 else A)∧(Q=if c=8 then A+1 else h8)∧QF w s v c2 c5 M g a7 b sb X c R S E Q (.slice aa al ac) b0 wx)
            case first=>
             by_cases H:c=8
             ·have c6:((c:Int)==8)=true:=by simp [H]
              have o2:=I.o.pf.o.cell 3;have C:=I.o.pf.o.frozen;have y:=Ae I.o.pf.o;have d6:=I.o.bx.cell 6;have df:=I.o.bx.frozen;have ld:=Ae I.o.bx;have j2:=I.o.far;simp only [dM,dJ,dK] at o2 d6;have a8:=Aa H;clear H;go_wp2;go_meet
              case rel=>exact ⟨A+1,A+1,by rw [if_pos a8.o],by rw [if_pos a8.o],(I.o.cR (I.o.pf.set3 _)).bG a9.o _⟩
             ·have c6:((c:Int)==8)=false:=by simp;omega
              go_wp2;go_meet
              case rel=>exact ⟨A,h8,by rw [if_neg H],by rw [if_neg H],I.o⟩
            case rest=>
             obtain ⟨c5,Q,f6,g3,m⟩:=hcut;have i0:=Aa f6;have i3:=Aa g3;clear f6 g3;clear I O;obtain ⟨ys,e6,hr,g8⟩:=m.pf.row;have j9:ys.length≤300:=by have:=congrArg List.length e6;rw [rX] at this;omega
             have f3:=Aa e6;have f0:=Aa g8;clear e6 g8;obtain ⟨va,vl,vc,rfl⟩:=Ad hr;have o1:=m.pf.o.cell 1;have C:=m.pf.o.frozen 1;have y:=Ae m.pf.o;have m0:=m.bx.cell 0;have m1:=m.bx.cell 1;have m2:=m.bx.cell 2;have m3:=m.bx.cell 3;have m4:=m.bx.cell 4;have m5:=m.bx.cell 5;have m6:=m.bx.cell 6;have m7:=m.bx.cell 7;have lb:=Ae m.bx;simp only [dM,dJ,dK] at o1 m0 m1 m2 m3 m4 m5 m6 m7;have NO:=Aa (Aj hr m.pf.o (by decide));have k0:=m.pf.O.size;have Q2:=Aa m;clear m;obtain ⟨i1,hi,h5,h6,h7⟩:=info_parts Tryz.infoSm;go_wp2_with (at_builtin;refine wpList_append_own _ rfl _ _ 23 rfl w.heap.size 39 i1 (.agg Xs) 8 80 Tryz.underlying23 hi h5 h6 h7 rfl (by decide) _ _ _ rfl (hr.alloc _) ⟨wc.heap.size,0,none⟩ 1 1 [.int .i64 X,.int .i64 c,.int .i64 R,.int .i64 S,.int .i64 E,.int .i64 E,.int .i64 Q,.slice aa al ac] rfl rfl (A5 rfl _ _) (fun x hx=>by simp at hx;rcases hx with rfl | rfl | rfl | rfl | rfl | rfl | rfl | rfl<;>rfl) (by unfold maxLen;omega) (by omega) (by simp;omega) ?_;intro v' w5 d8 c1 j6;have q1:w5.cell? ⟨w.heap.size+1,1,none⟩=some (.slice va vl vc):=(rM (c1.block (w.heap.size+1) (by simp;omega) (fun h=>NO.o _ h.symm rfl))).trans (by rw [←o1];exact rM (Below.heap_alloc _ _ _ y));have q2:w5.frozen? ⟨w.heap.size+1,1,none⟩=false:=(rS (c1.block (w.heap.size+1) (by simp;omega) (fun h=>NO.o _ h.symm rfl))).trans (by rw [←C];exact rS (Below.heap_alloc _ _ _ y));obtain ⟨e7,e9,e8,rfl⟩:=Ad d8);have z:=Aa (Q2.o.grow a9.o ((Ab.refl _ _).alloc _) f3.o hr f0.o (sm,Q) (by rw [b8.o]) (by rw [b8.o];exact d8) c1);clear f3 f0 j9;generalize w5.setCell ⟨w.heap.size+1,1,none⟩ (.slice e7 e9 e8)=w6 at z⊢;clear Q2 hr o1 C y m0 m1 m2 m3 m4 m5 m6 m7 lb NO k0 d8 c1 j6 q1 q2 hi h5 h6 h7 a9;have B:=z.o.pf.o.cell 0;have C:=z.o.pf.o.frozen;have y:=Ae z.o.pf.o;have m0:=z.o.bx.cell 0;have m1:=z.o.bx.cell 1;have m2:=z.o.bx.cell 2;have m3:=z.o.bx.cell 3;have m4:=z.o.bx.cell 4;have m5:=z.o.bx.cell 5;have m6:=z.o.bx.cell 6;have m7:=z.o.bx.cell 7;have d5:=z.o.ln.c5 k r;have lg:g<w6.heap.size:=z.o.ln.lt (fun e=>by rw [e] at r;simp at r);simp only [dM,dJ,dK,g1] at B m0 m1 m2 m3 m4 m5 m6 m7 d5;have P:s.size≤4603:=by have:=N.o.len;have:=J3 b f;have:JQ b f k≤k:=rO List.countP_le_length (by simp;omega);rw [DF];omega
             refine M7 ?_;refine VB _ g a7 b.length i8 (w.heap.size+1) sb k X c R S E Q D.a5 aa al ac b0 s w6 (Ao z.o.row (rR _)) f5 f4 b1 b2 b3 b4 c9.k5 r P B (C 0) y m0 m1 m2 m3 m4 m5 m6 m7 d5 lg ?_;intro t u w7 ht J g4;have Q7:=Aa (z.o.quiet g4);have k8:=RQ J;have k7:=RM ht;have T5:dN (Pc b f (43+36*JQ b f (k+1)) (s++({data:=#[32]}:ByteArray)++u).data.toList):=by show Pc _ _ _ _;rw [show (s++({data:=#[32]}:ByteArray)++u).data.toList=s.data.toList++([32]++u.data.toList) from by simp];exact (N.o.more (n:=36) (by rw [J,ht];exact An (i:=0) rfl (XS _ _ (Xy _ _ _ _ _ _))) (by have:=DF u;simp only [rV,rW,List.length_nil];omega)).mono (by rw [HB.o,if_pos c4.o];omega)
             have b7:Hd b f++Hj b f (k+1)=V++[sm]:=by rw [b9.o,if_pos c4.o,f1.o,←List.append_assoc,c3.o]
             have E5:dN ((s++({data:=#[32]}:ByteArray)++u).data.toList=tD b f (k+1)):=by show _=_;unfold tD;rw [b9.o,if_pos c4.o,List.flatMap_append,←List.append_assoc,show tC b f 4++(Hj b f k).flatMap (fun s=>CI (Ye s))=s.data.toList from E3.o.symm,f1.o,List.flatMap_cons,List.flatMap_nil,TC,b8.o];simp [J,ht]
             have P5:dN (JJ w (s++({data:=#[32]}:ByteArray)++u) (.slice e7 e9 e8) ((DS (Hd b f++Hj b f (k+1)):Nat):Int) ((DT (Hd b f++Hj b f (k+1)):Nat):Int) (Ch (Hd b f++Hj b f (k+1)) 0 0) (w7.setCell ⟨w.heap.size+1,0,none⟩ (.string (s++{data:=#[32]}++u)))):=by
              rw [b7,UI,UJ,Tc,a2.o,a1.o,a3.o];have k1:sm.kind=c:=by rw [b8.o]
              have en:(if sm.kind=0 then 0+F+1 else if sm.kind=8 then 0+A+1 else 0)=Q:=by
               rw [i3.o,i2.o,k1];by_cases q0:c=0
               ·simp [q0]
               ·simp [q0]
              rw [en,k1,←i5.o,←i0.o];exact Q7.o.pf.set _
             clear B C y m0 m1 m2 m3 m4 m5 m6 m7 d5 lg ht J g4 b7;go_wp2_with fail;go_roundw
             case rel=>exact ⟨k+1,_,.slice e7 e9 e8,by go_num,by omega,P5,T5,E5⟩
             case measure=>simp [intOf];omega
          ·have f9:(((AK D.a0 4:Nat):Int) !=(f:Int))=true:=by simp;omega
           have b7:Hj b f (k+1)=Hj b f k:=by rw [b9.o,if_neg b5,List.append_nil]
           have f2:=Aa b7;clear b7;go_wp2_with fail;go_roundw
           case rel=>exact ⟨k+1,s,v,by go_num,by omega,by rw [f2.o,c3.o,a2.o,a1.o,a3.o];exact L.o.quiet (by repeat (first | exact Ab.refl _ _ | refine Ab.drew ?_ | refine Ab.drewN ?_ _ | refine Ab.alloc ?_ _)),by show Pc _ _ _ _;rw [HB.o,if_neg b5];exact N.o,by unfold tD;rw [f2.o];exact E3⟩
           case measure=>simp [intOf];omega
         ·have P:s.size≤4603:=by have:=N.o.len;have:=J3 b (f+1);have:=Q6 b f;have:=Ns b f k b6 W;rw [DF];omega
          have B:=d.o.o.cell 0;have C:=d.o.o.frozen;have y:=Ae d.o.o;simp only [dM,dJ] at B;have T4:dN (Zd b (f+1) (s++({data:=#[32,125,10]}:ByteArray)).data.toList):=by show Zd _ _ _;rw [show (s++({data:=#[32,125,10]}:ByteArray)).data.toList=s.data.toList++[32,125,10] from by simp];have h1:=Q6 b f;have h2:=Ns b f k b6 W;have h3:=N.o.len;exact ⟨An N.o.run rfl,by simp only [rV,rW,List.length_nil];omega,fun _=>N.o.head.trans (List.prefix_append _ _),fun h=>by omega⟩
          have d9:=Xt b f k b6 W;have E4:dN ((s++({data:=#[32,125,10]}:ByteArray)).data.toList=tA b (f+1)):=by show _=_;rw [←Y0];have e3:=E3.o;unfold tD at e3⊢;rw [d9] at e3;rw [←e3];simp
          have P4:dN (JJ w (s++({data:=#[32,125,10]}:ByteArray)) v ((DS (Hd b (f+1)):Nat):Int) ((DT (Hd b (f+1)):Nat):Int) (Ch (Hd b (f+1)) 0 0) (wr.setCell ⟨w.heap.size+1,0,none⟩ (.string (s++{data:=#[32,125,10]})))):=by rw [OI,←d9,c3.o,a2.o,a1.o,a3.o];exact d.o.set _
          clear d9;by_cases r:k<b.length
          ·have j3:¬k<60:=fun h=>b6 ⟨r,h⟩
           go_wp2;go_roundw
           case rel=>exact ⟨f+1,_,v,by go_num,by omega,P4,T4,E4⟩
           case measure=>simp [intOf];omega
          ·go_wp2;go_roundw
           case rel=>exact ⟨f+1,_,v,by go_num,by omega,P4,T4,E4⟩
           case measure=>simp [intOf];omega
  ·have f8:f=4:=by omega
   have i9:=J3 b f;have B:=j.o.o.cell 0;have o1:=j.o.o.cell 1;have o2:=j.o.o.cell 2;have o3:=j.o.o.cell 3;have r0:=j.o.l7.cell 0;have r1:=j.o.l7.cell 1;have r2:=j.o.l7.cell 2;have r3:=j.o.l7.cell 3;have rf:=j.o.l7.frozen;have y:=Ae j.o.o;have lr:=Ae j.o.l7;have a6:=j.o.row;obtain ⟨va,vc,rfl⟩:=a6.form;simp only [dM,dJ,dK] at B o1 o2 o3 r0 r1 r2 r3;have P:s.size≤2400:=by have:=T0.o.len;rw [DF];omega
   go_wp2;have h4:=a3.o;have g7:=a2.o;have f7:=a1.o;rw [f8] at h4 g7 f7;have ew:Ab (fun k=>k=w.heap.size) wr ((((wr.setCell ⟨w.heap.size,0,none⟩ (.string s)).setCell ⟨w.heap.size,1,none⟩ (.slice va M.length vc)).setCell ⟨w.heap.size,2,none⟩ (.int .i64 F)).setCell ⟨w.heap.size,3,none⟩ (.int .i64 A)):=((((Ab.refl _ _).d8 _ _).d8 _ _).d8 _ _).d8 _ _;refine bodyPost_ret (v:=.agg #[.string s,.slice va M.length vc,.int .i64 F,.int .i64 A]) (by simp [results,Tryz.results10,go_sem,r0,r1,r2,r3]) rfl ⟨⟨s,.slice va M.length vc,by rw [g7,f7],by rw [←f8];exact E0.o,T0.o.run,P,T0.o.head (by omega),?_⟩,?_⟩
   ·rw [h4];exact a6.s9 ew j.o.l7 (by decide) (by decide)
   ·iterate 4 refine Ab.set_far ?_ (rN _)
    exact j.o.O
end Go.Proofs.YtegmjgjkcdbmkaaGreatDoor
