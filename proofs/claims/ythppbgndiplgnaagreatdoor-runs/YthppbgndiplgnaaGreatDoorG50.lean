/- One of the texts of the proof of runs_card_holds: MaT MbC RwF RwG. -/
import Derived.Test.YthppbgndiplgnaaGreatDoorG49
import Derived.Test.YthppbgndiplgnaaGreatDoorG48
import Derived.Test.YthppbgndiplgnaaGreatDoorShelf
import Derived.Sort.OwnSorted
set_option maxRecDepth 100000
set_option maxHeartbeats 40000000
namespace Go.Proofs.YthppbgndiplgnaaGreatDoor
open Go.RowKit Go.Maps Go.Sort
theorem CD.start(W:World)(B:Nat)(c:Value)(d e b:Nat)(a:ByteArray)(l:B≤W.heap.size):
 CD (W.heap.size+1+1) W.heap.size (W.heap.size+1) B c d e b ⟨⟨[],a.data.toList,[],[]⟩,[],1⟩ (.slice none 0 0) (.slice none 0 0) a (((W.alloc (.map #[] 0)).alloc (.map #[] 0)).alloc (.cells #[c,.int .i64 d,.int .i64 e,.int .i64 b,.string a,.slice none 0 0,.slice none 0 0,.int .i64 1,.map (some W.heap.size),.map (some (W.heap.size+1))] 84)):=by
 have g:DM 163 UX W.heap.size [] (W.alloc (.map #[] 0)):=DM.none _ _ W;have h:DM 166 TI (W.heap.size+1) [] ((W.alloc (.map #[] 0)).alloc (.map #[] 0)):=by have:=DM.none 166 TI (W.alloc (.map #[] 0));simpa using this
 have j:=((Ab.refl (fun _=>False) (W.alloc (.map #[] 0))).alloc (.map #[] 0)).alloc (.cells #[c,.int .i64 d,.int .i64 e,.int .i64 b,.string a,.slice none 0 0,.slice none 0 0,.int .i64 1,.map (some W.heap.size),.map (some (W.heap.size+1))] 84);have k:=(Ab.refl (fun _=>False) ((W.alloc (.map #[] 0)).alloc (.map #[] 0))).alloc (.cells #[c,.int .i64 d,.int .i64 e,.int .i64 b,.string a,.slice none 0 0,.slice none 0 0,.int .i64 1,.map (some W.heap.size),.map (some (W.heap.size+1))] 84);have f:=Ar.new ((W.alloc (.map #[] 0)).alloc (.map #[] 0)) #[c,.int .i64 d,.int .i64 e,.int .i64 b,.string a,.slice none 0 0,.slice none 0 0,.int .i64 1,.map (some W.heap.size),.map (some (W.heap.size+1))] 84;have i:((W.alloc (.map #[] 0)).alloc (.map #[] 0)).heap.size=W.heap.size+1+1:=by simp
 rw [i] at f;exact ⟨f,rfl,bE _ _ _ _,bE _ _ _ _,g.f8 j (fun q=>q),h.f8 k (fun q=>q),by omega,by omega⟩
theorem TV{P n m}(h:n=0∨(Bc P 41 m).Yi≠1):Gr P n m=(Bc P 41 m,n):=by
 cases n with
 | zero=>rfl
 | succ n=> unfold Gr;rw [cT (h.resolve_left (by omega))]
theorem Uf(B fv b t o P h g w)(hp:BB B w fv P)(J:Gi P)(hB:B≤w.heap.size)(hm:b<P.length)(Z:List ByteArray→List (Tg×Tg)→List (Nat×Nat)→Prop)
 (d5:∀(mb pm em:Nat) (m:Mc) (W:World),CM mb pm em B fv b t o m W→BB B W fv P→BM P 0 m→En P m.c→(∀k,k<B→W.heap[k]? =w.heap[k]?)→Calls Tryz.prog 25 #[.pointer (some ⟨mb,0,none⟩)] W fun e M=>∃v l,e=.returned v∧AB W.heap.size M v l∧Z l m.c.Ys m.c.Yr∧Ab (fun _=>False) W M):
 Calls Tryz.prog 10 #[.agg #[fv,.int .i64 b,.int .i64 t,.int .i64 o],.string h,.int .i64 g] w fun e M=>∃v l,e=.returned (.agg #[.int .i64 (OD P b (Cd g) h.data.toList).1.Yi,.int .i64 ((Cd g-(OD P b (Cd g) h.data.toList).2:Nat):Int),v])∧AB B M v l∧Z l (OD P b (Cd g) h.data.toList).1.c.Ys (OD P b (Cd g) h.data.toList).1.c.Yr∧Below B w M:=by
 have a1:=En.run J (MK g) hm h.data.toList;unfold OD at a1⊢;obtain ⟨C,A,rfl,f5⟩:=hp.form (by omega);obtain ⟨R,Q⟩:∃R,Bu P ⟨⟨[],h.data.toList,[],[]⟩,[],1⟩ b [] 0=R:=⟨_,rfl⟩;obtain ⟨V,hV⟩:∃V,Gr P (Cd g) R=V:=⟨_,rfl⟩;rw [Q,hV] at a1;rw [Q,hV];have e3:=Aa a1;have G:=Aa hV;clear a1;have c7:=Aa d5;clear d5;have e9:=@run_makeMap Tryz.prog;have e8:=MK g;have f3:min (max g 0) 5000=((Cd g:Nat):Int):=by unfold Cd;split<;>(try split)<;>omega
 obtain ⟨d2,b3⟩:=BM.start J (n:=Cd g) (f:=b) (ch:=h.data.toList) e8 hm;obtain ⟨W,y⟩:∃W,(w.alloc (.cells #[.slice (some ⟨C,0,none⟩) P.length A,.int .i64 b,.int .i64 t,.int .i64 o] 50)).alloc (.cells #[.int .i64 0,.int .i64 0,.slice none 0 0] 24)=W:=⟨_,rfl⟩;have c9:W.heap.size=w.heap.size+1+1:=by rw [←y];simp
 have L:=CD.start W B (.slice (some ⟨C,0,none⟩) P.length A) b t o h (by omega);have hO:Ab (fun _=>False) w (((W.alloc (.map #[] 0)).alloc (.map #[] 0)).alloc (.cells #[.slice (some ⟨C,0,none⟩) P.length A,.int .i64 b,.int .i64 t,.int .i64 o,.string h,.slice none 0 0,.slice none 0 0,.int .i64 1,.map (some W.heap.size),.map (some (W.heap.size+1))] 84)):=by rw [←y];exact (by repeat (first | exact Ab.refl _ _ | refine Ab.drew ?_ | refine Ab.drewN ?_ _ | refine Ab.alloc ?_ _))
 have d0:Ar (w.heap.size+1) #[.int .i64 0,.int .i64 0,.slice none 0 0] 24 W:=by rw [←y];have:=Ar.new (w.alloc (.cells #[.slice (some ⟨C,0,none⟩) P.length A,.int .i64 b,.int .i64 t,.int .i64 o] 50)) #[.int .i64 0,.int .i64 0,.slice none 0 0] 24;simpa using this
 have b8:=Aa (Ar.f8 (X:=fun _=>False) (w':=(((W.alloc (.map #[] 0)).alloc (.map #[] 0)).alloc (.cells #[.slice (some ⟨C,0,none⟩) P.length A,.int .i64 b,.int .i64 t,.int .i64 o,.string h,.slice none 0 0,.slice none 0 0,.int .i64 1,.map (some W.heap.size),.map (some (W.heap.size+1))] 84))) d0 (by repeat (first | exact Ab.refl _ _ | refine Ab.drew ?_ | refine Ab.drewN ?_ _ | refine Ab.alloc ?_ _)) (fun q=>q));have a4:=Aa (hp.p6 hO);rw [Q] at b3;have a9:=(Hv (W.heap.size+1+1) W.heap.size (W.heap.size+1) B _ b t o P (Cd g) ⟨⟨[],h.data.toList,[],[]⟩,[],1⟩ b 0 0 [] (.slice none 0 0) _ ⟨_,_,_,L⟩ a4.o J d2 (by simp) hm (fun v hv=>dC hv bU) (by simp) (bE _ _ _ _));rw [Q] at a9;have b9:=Aa a9;have Y:=Aa b3;have HO:=Aa hO;have a6:dJ (CM (W.heap.size+1+1) W.heap.size (W.heap.size+1) B _ b t o ⟨⟨[],h.data.toList,[],[]⟩,[],1⟩ _):=⟨_,_,_,L⟩;subst y;rw [c9] at*;clear L hO d0 hp d2 b3 c9 a9 Q hV;generalize Cd g=s at*;go_enter Tryz.func10,Tryz.ntmps10;go_wp2_with fail;refine b9.o.mono ?_;rintro e w2 ⟨rfl,u,d⟩;clear e9 b9;have a5:=Aa J;have a2:=Aa (d.Y6 a6.o a4.o);have b5:=Aa (d.l9 a6.o b8.o (by decide) (by decide) (by decide));have c0:=Aa ((Ci.s8 HO.o).trans d);have N:=Aa (KD _ _ _ B _ b t o P s _ w2 u a2.o J Y.o);have c4:=Aa (Y.o.norm 41);have a7:=Aa u;have d7:=Aa Y.o.Yl;clear u d a6 a4 b8 HO J Y;go_wp2_with fail;refine N.o.mono ?_;rintro e w3 ⟨rfl,u,d⟩;have c5:=Aa (d.Y6 a7.o a2.o);have b6:=Aa (d.l9 a7.o b5.o (by decide) (by decide) (by decide));have c2:=Aa (c0.o.trans d);have c6:=Aa u;clear u d a7 a2 b5 c0 N;have d1:R.u8.length≤40:=d7.o;go_wp2_with fail;go_loopw [9] (fun i wr=>∃(k:Nat) (c:Mc),k≤s∧c.u8.length≤40∧i=.int .i64 k∧dJ (CM (w.heap.size+1+1+1+1) (w.heap.size+1+1) (w.heap.size+1+1+1) B (.slice (some ⟨C,0,none⟩) P.length A) b t o (Bc P 41 c) wr)∧dJ (BM P (s-k) (Bc P 41 c))∧dJ (Gr P (s-k) c=V)∧dJ (BB B wr (.slice (some ⟨C,0,none⟩) P.length A) P)∧dJ (Ar (w.heap.size+1) #[.int .i64 0,.int .i64 0,.slice none 0 0] 24 wr)∧dJ (Ci (w.heap.size+1+1+1+1) (w.heap.size+1+1) (w.heap.size+1+1+1) B w wr)) (fun i _=>s-(intOf i).toNat)
 case atStart=>exact ⟨0,R,by omega,d1,rfl,c6,c4,G,c5,b6,c2⟩
 case round=>
  clear c6 c4 G c5 b6 c2 d1;obtain ⟨k,c,hk,f1,rfl,F,T,G,HP,HB,E⟩:=hrel;have f0:wr.cell? ⟨w.heap.size+1+1+1+1,7,none⟩=some (.int .i64 (Bc P 41 c).Yi)∧w.heap.size+1+1+1+1<wr.heap.size:=by obtain ⟨_,_,_,q⟩:=F.o;have S:=q.l9.cell 7;simp only [Iy,aU,aS,aT] at S;exact ⟨S,Ae q.l9⟩
  obtain ⟨S,lm⟩:=f0;by_cases a0:(Bc P 41 c).Yi=1∧k<s
  ·obtain ⟨O,f2⟩:=a0;obtain ⟨f,r,hf⟩:∃f r,(Bc P 41 c).u8=f::r:=by
    cases hq:(Bc P 41 c).u8 with
    | nil=>exact dC hq (T.o.run O)
    | cons f r=>exact ⟨f,r,rfl⟩
   have b4:=Jf 41 c (by omega) O f r hf;obtain ⟨j,D⟩:∃j,s-k=j+1:=⟨s-k-1,by omega⟩;have hI:=T.o;rw [D] at hI;have c8:=Aa (RT (w.heap.size+1+1+1+1) (w.heap.size+1+1) (w.heap.size+1+1+1) B _ b t o P j (Bc P 41 c) f r wr F.o HP.o a5.o hI hf b4);have U:=Aa (hI.step a5.o hf b4);have x:=G.o;rw [D] at x;unfold Gr at x;rw [cU O] at x;have e4:=Aa x;have e7:j=s-(k+1):=by omega
   rw [O] at S;generalize FE P (Bc P 41 c)=m2 at*;clear x hI O hf b4 G T;go_wp2_with fail;refine c8.o.mono ?_;rintro e w4 ⟨rfl,u,d⟩;have a3:=Aa (d.Y6 F.o HP.o);have b7:=Aa (d.l9 F.o HB.o (by decide) (by decide) (by decide));have c3:=Aa (E.o.trans d);have N:=Aa (KD _ _ _ B _ b t o P j _ w4 u a3.o a5.o U.o);have a8:=Aa u;clear u d c8 F HP HB E;go_wp2_with fail;refine N.o.mono ?_;rintro e w5 ⟨rfl,u,d⟩;have e1:=Aa (d.Y6 a8.o a3.o);have d6:=Aa (d.l9 a8.o b7.o (by decide) (by decide) (by decide));have d8:=Aa (c3.o.trans d);have e2:=Aa u;have d9:=Aa (U.o.norm 41);have e6:=U.o.Yl;clear u d a8 a3 b7 c3 N U;subst e7;go_wp2_with fail;go_roundw
   case rel=>exact ⟨k+1,m2,by omega,e6,by go_num,e2,d9,e4,e1,d6,d8⟩
   case measure=>simp [intOf];omega
  ·have x:=G.o;have L:s-k=0∨(Bc P 41 c).Yi≠1:=by
    by_cases q:(Bc P 41 c).Yi=1
    ·left;have:=fun p=>a0 ⟨q,p⟩
     omega
    ·exact .inr q
   rw [TV L] at x;subst x;have e5:(((Bc P 41 c).Yi:Int)==1)=false∨((((Bc P 41 c).Yi:Int)==1)=true∧k=s):=by
    by_cases q:(Bc P 41 c).Yi=1
    ·right;have:=fun p=>a0 ⟨q,p⟩
     exact ⟨by simp [q],by omega⟩
    ·left;simp;omega
   clear L a0;have d4:∀j,j<B→wr.heap[j]? =w.heap[j]? :=fun j D=>E.o.block j (by omega) (by rintro (q | q | q | ⟨q,_⟩)<;>omega)
   have HC:=Aa (fun (W:World) (y:Ab (fun _=>False) wr W)=>c7.o _ _ _ _ W (F.o.p6 y) (HP.o.p6 y) (T.o.less (bI _)) e3.o (fun j D=>by rw [y.block j (by have:=E.o.size;omega) (fun q=>q)];exact d4 j D));have d3:s-(s-k)=k:=by omega
   have e0:=Aa d3;have f4:=E.o.size;clear d3 c7;rcases e5 with c1 | ⟨c1,rfl⟩
   all_goals
    go_wp2_with fail;refine (HC.o _ (by repeat (first | exact Ab.refl _ _ | refine Ab.drew ?_ | refine Ab.drewN ?_ _ | refine Ab.alloc ?_ _))).mono ?_;rintro e w6 ⟨v6,l6,rfl,u1,u2,u3⟩;obtain ⟨ya,yl,yc,rfl⟩:=Ad u1;have U3:=Aa (Ab.trans (X:=fun _=>False) (a:=wr) (by repeat (first | exact Ab.refl _ _ | refine Ab.drew ?_ | refine Ab.drewN ?_ _ | refine Ab.alloc ?_ _)) u3);have U2:=Aa u2;have U1:=Aa (Ax u1 (show B≤_ by omega));have f6:w6.cell? ⟨w.heap.size+1+1+1+1,7,none⟩=some (.int .i64 (Bc P 41 c).Yi):=(aW (U3.o.block _ lm (fun q=>q))).trans S;have z:=Ar.f8 HB.o U3.o (fun q=>q);have b0:=z.cell 0;have b1:=z.cell 1;have b2:=z.cell 2;have bz:=z.frozen;have lb:=Ae z;simp only [aU,aS,aT] at b0 b1 b2;have BX:=Aa z;clear u1 u2 u3 z;go_wp2_with fail;have K:Ab (fun k=>k=w.heap.size+1) w6 (((w6.setCell ⟨w.heap.size+1,0,none⟩ (.int .i64 (Bc P 41 c).Yi)).setCell ⟨w.heap.size+1,1,none⟩ (.int .i64 k)).setCell ⟨w.heap.size+1,2,none⟩ (.slice ya yl yc)):=(((Ab.refl _ w6).p7 0 _).p7 1 _).p7 2 _;refine bC (v:=.agg #[.int .i64 (Bc P 41 c).Yi,.int .i64 k,.slice ya yl yc]) (by simp [results,Tryz.results10,go_sem,b0,b1,b2]) rfl ⟨_,by first | rfl | rw [e0.o],l6,Ac U1.o K (Ap U1.o BX.o (by decide)),U2.o,?_⟩;have H:=E.o;have I:=U3.o;refine ⟨K.os.trans (I.os.trans H.os),K.tape.trans (I.tape.trans H.tape),K.output.trans (I.output.trans H.output),bJ H.size (bJ I.size K.size),fun j D=>?_⟩;rw [K.block j (by have:=H.size;have:=I.size;omega) (by omega),I.block j (by have:=H.size;omega) (fun q=>q)];exact d4 j D
theorem Ab.grow{X:Nat→Prop}(w b):Ab X w (grow w b):=
 ⟨rfl,rfl,rfl,by simp,fun k a _=>heap_grow_old _ _ a⟩
theorem Xu(w)(a:Lib.TabIs Tryz.prog w "internal/strconv.uint64pow10" .u64 Lib.pow10Tab):Rf w:=by
 intro n W h d;have f:Lib.TabIs Tryz.prog W "internal/strconv.uint64pow10" .u64 Lib.pow10Tab:=by
  unfold Lib.TabIs World.var? at a⊢;cases b:Tryz.prog.globalNamed "internal/strconv.uint64pow10" with
  | none=>rw [b] at a;cases a
  | some g=>
    rw [b] at a;simp only [Option.bind_some] at a⊢;have c:g<w.heap.size:=by
     rcases cJ g w.heap.size with q | q
     ·exact q
     ·rw [Array.getElem?_eq_none q] at a;cases a
    rw [d.block g c (fun q=>q)];exact a
 refine (Tryz.strconv_Itoa (n:Int) (by omega) (by omega) W f).mono ?_;rintro e j ⟨rfl,k,i,rfl⟩;refine ⟨?_,((Ab.refl _ W).drewN k).trans (Ab.grow _ _)⟩;have:Lib.itoa (n:Int)=Lib.decDigits n:=by unfold Lib.itoa;simp
 rw [this];rfl
theorem Xa:Wv:=by
 intro B g c l W H N;obtain ⟨O,G⟩:=H;rcases G with ⟨q,_⟩ | ⟨M,K,L,q,D,m,i,j,z,A⟩
 ·cases q
 cases q;have J:(l.map (fun b=>b.data.toList)).map encStr=l.map Value.string:=by rw [List.map_map];exact List.map_congr_left (fun b _=>by simp [encStr])
 have f:(l.map (fun b=>b.data.toList)).length=l.length:=by simp
 have C:Holds encStr W g 0 (l.map (fun b=>b.data.toList)).toArray:=holds_of_block m (by rw [f,J];simpa using A);have E:g<W.heap.size:=lt_of_block m;have r:=Tryz.slices_Sort_string g 0 c (l.map (fun b=>b.data.toList)) W C E (by rw [f];omega);rw [f] at r;refine r.mono ?_;rintro e P ⟨rfl,n,t,rfl⟩;obtain ⟨d,p⟩:∃d,(l.map (fun b=>b.data.toList)).mergeSort (fun x y=>decide (x≤y))=d:=⟨_,rfl⟩;have o:d.Perm (l.map (fun b=>b.data.toList)):=by rw [←p];exact List.mergeSort_perm _ _
 have I:d.Pairwise (fun x y=>decide (x≤y)=true):=by rw [←p];exact List.pairwise_mergeSort (fun a b c i j=>by simp only [cQ] at*;exact List.le_trans i j) (fun a b=>by simp only [Bool.or_eq_true,cQ];exact List.le_total a b) _
 rw [p];refine ⟨rfl,d.map (fun s=>⟨s.toArray⟩),?_,?_,?_,Ab.grown (Ab.refl _ W) (grownBy_sorted _) (fun k F=>by cases F;exact .inl rfl)⟩
 ·have h:=ownsRow_sorted (w:=W) (base:=B) (n:=n) (os:=t) (ts:=d) (ss:=l.map (fun b=>b.data.toList)) o.length_eq D m (by rw [f];exact i) j z;rw [f] at h;unfold AB;have u:(d.map (fun s=>(⟨s.toArray⟩:ByteArray))).length=l.length:=by rw [bW,o.length_eq,f]
  have v:(d.map (fun s=>(⟨s.toArray⟩:ByteArray))).map Value.string=d.map encStr:=by rw [List.map_map];rfl
  rw [u,v];exact h
 ·have h:=o.map (fun s=>(⟨s.toArray⟩:ByteArray));rw [List.map_map] at h;have e:l.map ((fun s=>(⟨s.toArray⟩:ByteArray)) ∘ fun b=>b.data.toList)=l:=by
   conv=>rhs;rw [←List.map_id l]
   exact List.map_congr_left (fun b _=>by simp)
  rw [e] at h;exact h
 ·rw [List.pairwise_map];refine I.imp (fun {a b} h=>?_);simp only [cQ] at h;unfold IN;simp only [decide_eq_false_iff_not];exact h
abbrev Td:Array Value:=#[.int .i64 0,.int .i64 0,.slice none 0 0]
def Nh(a:Nat)(b:World):Prop:=∀W:World,(∀k,k<a→W.heap[k]? =b.heap[k]?)→Rf W
theorem Ur(s c:ByteArray)(k:Int)(b p:Nat)(w:World)(h:Calls Tryz.prog 9 #[.string s] (w.alloc (.cells Td 24)) fun e f=>e=.returned (.tuple #[.slice none 0 0,Vq,.int .i64 b,.int .i64 p])∧Below (w.alloc (.cells Td 24)).heap.size (w.alloc (.cells Td 24)) f)(t:b≠0):
 Calls Tryz.prog 4 #[.string s,.string c,.int .i64 k] w fun e f=>e=.returned (.tuple #[.agg #[.int .i64 0,.int .i64 0,.slice none 0 0],.int .i64 b,.int .i64 p])∧Below w.heap.size w f:=by
 have u:((b:Int) !=0)=true:=by simp;omega
 have i:=Aa h;clear h;go_enter Tryz.func4,Tryz.ntmps4;go_wp2_with fail;refine i.o.mono ?_;rintro e g ⟨rfl,d⟩;have o:=d.size;simp at o;have n:Below w.heap.size w g:=((Below.refl _ _).alloc (aV _) _).trans (d.mono (by simp));have a:Ar w.heap.size #[.int .i64 0,.int .i64 0,.slice none 0 0] 24 g:=by show g.heap[w.heap.size]? =_;rw [d.block _ (by simp)];exact heap_alloc_new w _
 have j:=a.cell 0;have l:=a.cell 1;have m:=a.cell 2;have r:=a.frozen;simp only [aU,aS,aT] at j l m;have q:=Ae a;clear d a i;go_wp2;refine bC (v:=.tuple #[.agg #[.int .i64 0,.int .i64 0,.slice none 0 0],.int .i64 b,.int .i64 p]) (by simp [results,Tryz.results4,go_sem,j,l,m,q]) rfl ⟨rfl,?_⟩;exact (((n.setCell (p:=⟨w.heap.size,0,none⟩) (aV _) _).setCell (p:=⟨w.heap.size,1,none⟩) (aV _) _).setCell (p:=⟨w.heap.size,2,none⟩) (aV _) _).alloc (by simp;omega) _
theorem RQ(h:Nat)(x:World)(I:Nh h x)(a:List TF)(G:GoodP a)(B:Nat)(f:Value)(p i:Nat)(c:ByteArray)(b:Int)(w:World)(O:BB B w f (Bs (CC a) a 0 0))(F:B≤w.heap.size)(U:h≤B)(H:∀k,k<h→w.heap[k]? =x.heap[k]?):
 Calls Tryz.prog 10 #[.agg #[f,.int .i64 (vx (CC a) Br:Nat),.int .i64 p,.int .i64 i],.string c,.int .i64 b] w fun e g=>∃v l,e=.returned (.agg #[.int .i64 ((Em (Gm a 0 0) (CC a) (vx (CC a) Br) (Cd b) c.data.toList).Yi:Nat),.int .i64 ((Em (Gm a 0 0) (CC a) (vx (CC a) Br) (Cd b) c.data.toList).m8:Nat),v])∧AB B g v l∧
  LD (Bs (CC a) a 0 0) l (Em (Gm a 0 0) (CC a) (vx (CC a) Br) (Cd b) c.data.toList).c.Ys (Em (Gm a 0 0) (CC a) (vx (CC a) Br) (Cd b) c.data.toList).c.Yr∧(Em (Gm a 0 0) (CC a) (vx (CC a) Br) (Cd b) c.data.toList).c.Ys.length+(Em (Gm a 0 0) (CC a) (vx (CC a) Br) (Cd b) c.data.toList).c.Yr.length≤140000∧Below B w g:=by
 have M:=FC (fn:=CC a) a 0 0;have N:vx (CC a) Br<(Bs (CC a) a 0 0).length:=by have:=(CP (l:=CC a) (s:=Br) G.YM.main).1;rw [M];simpa [CC] using this
 refine (Uf B f (vx (CC a) Br) p i (Bs (CC a) a 0 0) c b w O G.ZU F N (fun l u r=>LD (Bs (CC a) a 0 0) l u r∧u.length+r.length≤140000) (fun P Q y m W J K t o L=>?_)).mono ?_
 ·refine (RR P Q y B f _ p i (Bs (CC a) a 0 0) m W J K G.ZU G.aF (I W (fun k q=>by rw [L k (by omega),H k q])) Xa o.pt o.en (by have:=t.pl;omega) (by omega)).mono ?_;rintro e g ⟨v,l,V,S,rfl,j,d,n,z,A,C,D,E⟩;exact ⟨v,l,rfl,j,⟨Wi G.aK o d n z A C D,by have:=t.pl;omega⟩,E⟩
 ·rintro e g ⟨v,l,rfl,j,d,n⟩;obtain ⟨T,R,X⟩:=Wh G.px (vx (CC a) Br) (Cd b) c.data.toList;rw [R] at d⊢;simp only at d⊢;refine ⟨v,l,?_,j,d.1,d.2,n⟩;rw [show Cd b-(Em (Gm a 0 0) (CC a) (vx (CC a) Br) (Cd b) c.data.toList).left=(Em (Gm a 0 0) (CC a) (vx (CC a) Br) (Cd b) c.data.toList).m8 by omega]
theorem Sm(x:Nat)(K:World)(hI:Nh x K)(s m:ByteArray)(o:Int)(b:List TF)(J:Nat)(G:GoodP b)(hT:∀t,t∈b→∀u,u∈t.Yg→Nb 4000 u)(w:World)(Z:Below x K w)(hB:x≤w.heap.size)
 (hR:Calls Tryz.prog 9 #[.string s] (w.alloc (.cells Td 24)) fun e p=>∃(g n V:Nat) (a:Option Addr) (l c:Nat) (U:Nat→Prop),e=.returned (.tuple #[.slice (some ⟨g,0,none⟩) n V,.agg #[.slice a l c,.int .i64 J],.int .i64 0,.int .i64 0])∧DF 4000 U p (.slice a l c) b∧(∀k,U k→k<p.heap.size)∧Below (w.alloc (.cells Td 24)).heap.size (w.alloc (.cells Td 24)) p):
 Calls Tryz.prog 4 #[.string s,.string m,.int .i64 o] w fun e p=>∃d h f l,e=.returned (.tuple #[.agg #[.int .i64 ((Em (Gm b 0 0) (CC b) (vx (CC b) Br) (Cd o) m.data.toList).Yi:Nat),.int .i64 ((Em (Gm b 0 0) (CC b) (vx (CC b) Br) (Cd o) m.data.toList).m8:Nat),.slice d h f],.int .i64 0,.int .i64 0])∧AB w.heap.size p (.slice d h f) l∧
  LD (Bs (CC b) b 0 0) l (Em (Gm b 0 0) (CC b) (vx (CC b) Br) (Cd o) m.data.toList).c.Ys (Em (Gm b 0 0) (CC b) (vx (CC b) Br) (Cd o) m.data.toList).c.Yr∧(Em (Gm b 0 0) (CC b) (vx (CC b) Br) (Cd o) m.data.toList).c.Ys.length+(Em (Gm b 0 0) (CC b) (vx (CC b) Br) (Cd o) m.data.toList).c.Yr.length≤140000∧Below w.heap.size w p:=by
 have M:=Aa hR;have HG:=Aa Z;have HI:=Aa hI;have b3:=Aa G;have b5:=Aa (G.aG hT);clear hR Z hI G hT;obtain ⟨S,D⟩:∃S,Em (Gm b 0 0) (CC b) (vx (CC b) Br) (Cd o) m.data.toList=S:=⟨_,rfl⟩;rw [D];have HS:=Aa D;clear D;generalize a4:(fun (e:Ending) (p:World)=>∃d h f l,e=.returned (.tuple #[.agg #[.int .i64 (S.Yi:Nat),.int .i64 (S.m8:Nat),.slice d h f],.int .i64 0,.int .i64 0])∧AB w.heap.size p (.slice d h f) l∧LD (Bs (CC b) b 0 0) l S.c.Ys S.c.Yr∧S.c.Ys.length+S.c.Yr.length≤140000∧Below w.heap.size w p)=Po;have HP:=Aa a4;clear a4;go_enter Tryz.func4,Tryz.ntmps4;go_wp2_with fail;refine M.o.mono ?_;rintro e L ⟨g,n,V,a,l,c,U,rfl,a5,hu,A⟩;have hz:=A.size;simp at hz;have a0:=Aa (((Below.refl w.heap.size w).alloc (aV _) (.cells Td 24)).trans (A.mono (by simp)));have C:Ar w.heap.size Td 24 L:=by show L.heap[w.heap.size]? =_;rw [A.block _ (by simp)];exact heap_alloc_new w _
 have a7:=Aa C;have b6:=Aa a5;have b8:=Aa hu;have i:=Aa ((Ab.refl (fun _=>False) L).alloc (.cells #[.slice a l c,.int .i64 J] 44));have l2:=Ae C;clear A C M a5 hu;go_wp2_with (first
  | (go_at_call 11;refine (V9 4000 U (.slice a l c) b J _ (b6.o.f8 i.o (fun _ _ q=>q)) (fun k F=>by have:=b8.o k F;have:=i.o.size;omega) b5.o).mono ?_;rintro e w4 ⟨fv,rfl,a3,a2⟩;have b4:=Aa a3;have y:=Aa a2;clear a3 a2)
  | (go_at_call 10;refine (RQ x K HI.o b b3.o _ fv _ _ m o w4 b4.o y.o.size (by have:=i.o.size;omega) (fun k F=>by rw [y.o.block k (by have:=i.o.size;omega) (fun q=>q),i.o.block k (by omega) (fun q=>q),a0.o.block k (by omega)];exact HG.o.block k F)).mono ?_;rw [HS.o];rintro e j ⟨v,ll,rfl,H,a6,a1,E⟩;have a9:=Aa a1;clear a1;obtain ⟨d,h,f,rfl⟩:=Ad H;have N:=Aa H;have b7:=Aa a6;have a8:=Aa E;have r:Ar w.heap.size Td 24 j:=(by show j.heap[w.heap.size]? =_;rw [E.block _ (by have:=i.o.size;omega)];exact (a7.o.f8 i.o (fun q=>q)).f8 y.o (fun q=>q));have B:=Aa r;have O:=r.cell 0;have P:=r.cell 1;have Q:=r.cell 2;have bf:=r.frozen;simp only [aU,aS,aT] at O P Q;clear H a6 E r))
 have R:Ar w.heap.size #[.int .i64 (S.Yi:Nat),.int .i64 0,.slice none 0 0] 24 (j.setCell ⟨w.heap.size,0,none⟩ (.int .i64 (S.Yi:Nat))):=B.o.set 0 _;have T:Ar w.heap.size #[.int .i64 (S.Yi:Nat),.int .i64 (S.m8:Nat),.slice none 0 0] 24 ((j.setCell ⟨w.heap.size,0,none⟩ (.int .i64 (S.Yi:Nat))).setCell ⟨w.heap.size,1,none⟩ (.int .i64 (S.m8:Nat))):=R.set 1 _;have z:Ar w.heap.size #[.int .i64 (S.Yi:Nat),.int .i64 (S.m8:Nat),.slice d h f] 24 (((j.setCell ⟨w.heap.size,0,none⟩ (.int .i64 (S.Yi:Nat))).setCell ⟨w.heap.size,1,none⟩ (.int .i64 (S.m8:Nat))).setCell ⟨w.heap.size,2,none⟩ (.slice d h f)):=T.set 2 _;have I:Ab (fun k=>k=w.heap.size) j (((j.setCell ⟨w.heap.size,0,none⟩ (.int .i64 (S.Yi:Nat))).setCell ⟨w.heap.size,1,none⟩ (.int .i64 (S.m8:Nat))).setCell ⟨w.heap.size,2,none⟩ (.slice d h f)):=(((Ab.refl _ j).p7 0 _).p7 1 _).p7 2 _;have W:=z.cell 0;have X:=z.cell 1;have Y:=z.cell 2;simp only [aU,aS,aT] at W X Y;have R9:dJ (AB w.heap.size (((j.setCell ⟨w.heap.size,0,none⟩ (.int .i64 (S.Yi:Nat))).setCell ⟨w.heap.size,1,none⟩ (.int .i64 (S.m8:Nat))).setCell ⟨w.heap.size,2,none⟩ (.slice d h f)) (.slice d h f) ll):=Ac (Ax N.o (by have:=i.o.size;omega)) I (Ap N.o B.o (by decide));have F9:dJ (Below w.heap.size w (((j.setCell ⟨w.heap.size,0,none⟩ (.int .i64 (S.Yi:Nat))).setCell ⟨w.heap.size,1,none⟩ (.int .i64 (S.m8:Nat))).setCell ⟨w.heap.size,2,none⟩ (.slice d h f))):=(a0.o.trans ((i.o.Yv (by omega) (fun _ q=>q.elim)).trans ((y.o.Yv (by have:=i.o.size;omega) (fun _ q=>q.elim)).trans (a8.o.mono (by have:=i.o.size;omega))))).trans (I.Yv (by have:=Ae B.o;omega) (fun _ q=>by omega));clear R T z I O P Q bf;generalize (((j.setCell ⟨w.heap.size,0,none⟩ (.int .i64 (S.Yi:Nat))).setCell ⟨w.heap.size,1,none⟩ (.int .i64 (S.m8:Nat))).setCell ⟨w.heap.size,2,none⟩ (.slice d h f))=W9 at*;refine bC (v:=.tuple #[.agg #[.int .i64 (S.Yi:Nat),.int .i64 (S.m8:Nat),.slice d h f],.int .i64 0,.int .i64 0]) (by simp [results,Tryz.results4,go_sem,W,X,Y]) rfl ?_;have hp:=HP.o;subst hp;exact ⟨d,h,f,ll,rfl,R9.o,b7.o,a9.o,F9.o⟩
theorem OG(l B v r u s n p o w)(b:AB B w (.slice r u s) l)(c:AB v w (.slice n p o) l)(G:l.length≤1000000):
 Calls Tryz.prog 8 #[.slice r u s,.slice n p o] w fun e E=>e=.returned (.bool true)∧Ab (fun _=>False) w E:=by
 have A:=Ah b;have C:=Ah c;subst A;subst C;have g:=Aa b;have h:=Aa c;clear b c;go_enter Tryz.func8,Tryz.ntmps8;go_wp2;go_loopw [5] (fun i wr=>∃k:Nat,k≤l.length∧i=.int .i64 k∧dJ (Ab (fun _=>False) w wr)) (fun i _=>l.length-(intOf i).toNat)
 case atStart=>exact ⟨0,by omega,rfl,Ab.refl _ _⟩
 case round=>
  obtain ⟨k,F,rfl,a⟩:=hrel;by_cases z:k<l.length
  ·obtain ⟨x,rfl⟩:=As g.o (by omega);obtain ⟨y,rfl⟩:=As h.o (by omega);have d:=Ac g.o a.o (fun _ _ q=>q);have f:=Ac h.o a.o (fun _ _ q=>q);have j:=d.cellAt k (by omega);have m:=f.cellAt k (by omega);rw [bY,aY z] at j m;simp only [Option.map_some] at j m;have H:=(d.lt x rfl).2;have I:=(f.lt y rfl).2;clear d f;generalize l[k]=t at*;have D:=Aa (a.o.drew);go_wp2_with fail;go_region;all_goals
    go_wp2_with fail;go_round
    case rel=>exact ⟨k+1,by omega,by go_num,D⟩
    case measure=>simp [intOf];omega
  ·have e:k=l.length:=by omega
   subst e;go_wp2;go_ret;exact ⟨rfl,a.o⟩
end Go.Proofs.YthppbgndiplgnaaGreatDoor
