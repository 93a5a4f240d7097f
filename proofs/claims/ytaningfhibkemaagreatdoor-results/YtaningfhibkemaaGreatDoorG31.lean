/- Part of the proof: LtB LtC LtD LtE. -/
import Derived.Test.YtaningfhibkemaaGreatDoorG21
import Derived.Laws.OwnMore
namespace Go.Proofs.YtaningfhibkemaaGreatDoor
open Go.RowKit Go.Proofs.Tryz
open Option renaming none->Z,some->T
open Value renaming int->G,slice->Y
open IntKind renaming i64->A
theorem Tryz.infoRowS:(Tryz.prog.info? 51).map (fun i=>(i.zero,i.size,i.bytes))=T (T (Y Z 0 0),1,24):=by kernel_rfl
abbrev TM(B n:Nat)(w:World)(v:Value):Prop:=w.ownsRow B 51 1 v n (List.replicate n (Y Z 0 0))
theorem TM.rows{B n w v}(h:TM B n w v):Em B w v (List.replicate n []):=
 ⟨List.replicate n (Y Z 0 0),by simp,by rw[List.length_replicate];exact h,fun i h a=>by simp only[List.getElem_replicate];exact iB _ _ _ _⟩
theorem NO(B n:Nat)(w:World)(d:B<=w.heap.size)(p:n<=20000):∃a,(Instr.makeSlice 27 (G A (n:Int)) (G A (n:Int))).run prog w=.ok (Y (T ⟨w.heap.size,0,Z⟩) n n) a/\TM B n a (Y (T ⟨w.heap.size,0,Z⟩) n n)/\O kJ w a:=by
 obtain⟨m,f,i,j,l⟩:=info_parts Tryz.infoRowS;obtain⟨o,h,b,c⟩:=run_makeSlice_full (P:=prog) w B 27 51 m (Y Z 0 0) 1 underlying27 f i j .i64 .i64 n (by omega) (by rw[l];omega) (by unfold maxLen;omega) d;refine⟨o,h,?_,O.grown (O.refl _ w) c (fun k g=>by cases g)⟩;have e:(madeCells (Value.slice Z 0 0).cells (n*1)).toList=List.replicate n (Y Z 0 0):=by rw[Nat.mul_one];exact toList_madeCells_one _ n
 rw[e]at b;exact b
theorem GX{b d:Type}(g:b->List d)(m:Nat):∀(l:List b),(∀x,x∈l->(g x).length<=m)->(l.flatMap g).length<=l.length*m
 |[],_=>by simp
 |a::l,h=>by have e:=h a (.head _);have f:=GX g m l (fun x c=>h x (.tail _ c));rw[List.flatMap_cons,gW,gU,Nat.succ_mul];omega
theorem YG{P:List PFn}{e pn b:Nat}(a:AnHy P e pn b):(Iv P pn).length<=20000:=by have c:=GX (fun f=>(List.range (As P f).t8.length).map (vN f)) 12 (List.range P.length) (fun f _=>by rw[iT,List.length_range];exact a.ok.ok.t8 f);have d:=GX (fun n=>(List.range 4).map (pN (n+1))) 4 (List.range pn) (fun n _=>by rw[iT,List.length_range];exact gS _);have g:=a.ok.dC;have h:=a.ok.lp;rw[List.length_range]at c d;unfold Iv Yv;rw[iT,gW];omega
structure OY(sb pb cn:Nat)(nv ev:Value)(nm:List ByteArray)(w wr:World):Prop where
 bx:W sb #[.pointer (T ⟨pb,0,Z⟩),nv,Y Z 0 0,ev,.bool false] 88 wr
 nr:Au w.heap.size wr nv nm
 en:TM w.heap.size cn wr ev
 sb:w.heap.size<=sb
 o:O kJ w wr
theorem OY.push{c i l f g nm w wr}(b:OY c i l f g nm w wr){Wz x a d}(k:O kJ wr Wz)(s:Wz.grownBy a f.ownBlock)(t:a.ownsRow w.heap.size 9 1 d (nm.length+1) (nm.map .string++[.string x])):OY c i l d g (nm++[x]) w (a.setCell ⟨c,1,Z⟩ d)/\W c #[.pointer (T ⟨i,0,Z⟩),f,Y Z 0 0,g,.bool false] 88 a/\O kJ w a:=by
 have h:O (fun k=>f.ownBlock=T k) wr a:=(k.mono (fun _ _ q=>q.elim)).grown s (fun _ q=>.inl q);have r:O kJ w a:=b.o.thn h (fun j n q=>by have:=(World.ownsRow.lt b.nr j q).1;omega);have e:=b.bx.d8 h (fun q=>Am b.nr b.bx (by decide) _ q rfl);have p:O (fun k=>k=c) a (a.setCell ⟨c,1,Z⟩ d):=(O.refl _ a).t9 1 _;have m:=Ac b.en h (fun j n=>Gz b.en b.nr (by decide) j n);have o:Au w.heap.size a d (nm++[x]):=by unfold Au;rw[gW,jZ];exact t
 exact⟨⟨e.set 1 _,Ac o p (Am o e (by decide)),Ac m p (Am m e (by decide)),b.sb,r.cO 1 _ b.sb⟩,e,r⟩
theorem Gt.flagB{B a r p f g o s w}(h:Gt B a r p f g o s w)(b:Bool):Gt B a r p f g o ⟨s.cells,s.ents,b⟩ (w.setCell ⟨a,4,Z⟩ (.bool b))/\O (fun k=>k=a) w (w.setCell ⟨a,4,Z⟩ (.bool b)):=by
 have c:O (fun k=>k=a) w (w.setCell ⟨a,4,Z⟩ (.bool b)):=(O.refl _ w).t9 4 _;have t:∀{v d},Em B w v d->Em B (w.setCell ⟨a,4,Z⟩ (.bool b)) v d:=fun{v d} q=>by obtain⟨u,e,n,m⟩:=q;exact⟨u,e,Ac n c (Am n h.bx (by decide)),fun j i l=>Ac (m j i l) c (Am (m j i l) h.bx (by decide))⟩
 exact⟨⟨h.bx.set 4 _,Ac h.nr c (Am h.nr h.bx (by decide)),h.nl,t h.cl,t h.en,h.sb,h.ne,h.ln,h.sh⟩,c⟩
theorem Ww{d z c n:Nat}{y:Value}{o:List ByteArray}{w wc a:World}(b:OY d z c y (Y (T ⟨w.heap.size,0,Z⟩) c c) o w wc)(E:o.length=n)(L:n<=20000)(I:TM w.heap.size n a (Y (T ⟨wc.heap.size,0,Z⟩) n n))(p:O kJ wc a):
 Gt w.heap.size d z y (Y (T ⟨wc.heap.size,0,Z⟩) n n) (Y (T ⟨w.heap.size,0,Z⟩) c c) o ⟨List.replicate n [],List.replicate c [],false⟩ (a.setCell ⟨d,2,Z⟩ (Y (T ⟨wc.heap.size,0,Z⟩) n n)):=by
 have f:=b.bx.d8 p id;have i:O (fun k=>k=d) a (a.setCell ⟨d,2,Z⟩ (Y (T ⟨wc.heap.size,0,Z⟩) n n)):=(O.refl _ a).t9 2 _;have B:∀{v m},Em w.heap.size a v m->Em w.heap.size (a.setCell ⟨d,2,Z⟩ (Y (T ⟨wc.heap.size,0,Z⟩) n n)) v m:=fun{v m} q=>by obtain⟨K,e,x,t⟩:=q;exact⟨K,e,Ac x i (Am x f (by decide)),fun j r s=>Ac (t j r s) i (Am (t j r s) f (by decide))⟩
 have u:=Ac b.nr p (fun _ _ q=>q);refine⟨f.set 2 _,Ac u i (Am u f (by decide)),by omega,B I.rows,B (TM.rows (Ac b.en p (fun _ _ q=>q))),b.sb,fun g h F H=>?_,by rw[List.length_replicate];exact E.symm,fun l C=>?_⟩
 .cases F;cases H;have:=Ae b.bx;have:=b.sb;show wc.heap.size≠w.heap.size;omega
 .obtain rfl:=List.eq_of_mem_replicate C;exact⟨iF _,List.Pairwise.nil⟩
theorem Wt(P:List PFn)(g f:Nat)(b:Bool):Ra P g f ⟨List.replicate (Iv P g).length [],List.replicate f [],b⟩ where
 cl:=List.length_replicate
 cs:=fun l d=>by obtain rfl:=List.eq_of_mem_replicate d;exact List.Pairwise.nil
 ci:=fun i l c a _ x e=>by obtain rfl:=List.eq_of_mem_replicate (List.mem_of_getElem? a);cases e
 el:=List.length_replicate
 es:=fun l d=>by obtain rfl:=List.eq_of_mem_replicate d;exact List.Pairwise.nil
 ei:=fun i l a x e=>by obtain rfl:=List.eq_of_mem_replicate (List.mem_of_getElem? a);cases e
theorem Fx{P:Program}{b:Array Oper}{Q:Exit->Act->World->Prop}{S C:World->Prop}(i d:Nat){e:Oper}{v:Value}{k:Nat}{g:Array Bool}{t:Array Value}{j:List Deferred}{w:World}(o:b[i]? =T e)(F:∀w,S w->C w)(m:S w)
 (h:wpAnyH P .any b Q S k (g.setIfInBounds i true) ⟨t.setIfInBounds d v,j⟩ w)(p:∀w,C w->(execOp (Act.mk t j).eval e).run P w=.ok (.value v) w)(n:e.dst=T d)(q:Region.wanted e (yielded b t)=true)(f:(Region.noSelect b && Region.free .any b g i && (Region.ready .any b g).contains i)=true)
 (l:∀c a w,Q (.panic c) (a.put e.dst v) w->Q (.panic c) a w):wpAnyH P .any b Q S (k+1) g ⟨t,j⟩ w:=by
 simp only[Bool.and_eq_true]at f;exact wpAnyH_take o f.1.1 f.1.2 f.2 l (.inl ⟨q,fun w z=>p w (F w z)⟩) m (by rw[n];exact h)
