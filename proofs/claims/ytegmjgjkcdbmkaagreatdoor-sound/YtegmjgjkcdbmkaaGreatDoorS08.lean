/- One of the texts of the proof: MaA MaB MaC MaD MaE MaI. -/
import Derived.Test.YtegmjgjkcdbmkaaGreatDoorS06
import Derived.DeepKeys4
set_option maxRecDepth 100000
set_option maxHeartbeats 4000000
namespace Go.Proofs.YtegmjgjkcdbmkaaGreatDoor
open Go.RowKit Go.Maps
def Zc(t:Tg):Prop:=t.kind≤2∧t.aV≤200000∧t.aX≤200000
def oG(p:Tg×Tg):Value:=.agg #[.int .i64 p.1.kind,.int .i64 p.1.aV,.int .i64 p.1.aX,.int .i64 p.2.kind,.int .i64 p.2.aV,.int .i64 p.2.aX]
def nO(p:Nat×Nat):Value:=.agg #[.int .i64 p.1,.int .i64 p.2]
theorem ZT:laidOutB Tryz.prog=true:=by kernel_rfl
theorem kS:Keyed Tryz.prog 197:=Keyed.of_law (deep_law_laid ZT (m:=5) (by omega) (of_decide_eq_true (by kernel_rfl)) (by kernel_rfl) (by rw [Tryz.underlying197]))
theorem kR:Keyed Tryz.prog 200:=Keyed.of_law (deep_law_laid ZT (m:=5) (by omega) (of_decide_eq_true (by kernel_rfl)) (by kernel_rfl) (by rw [Tryz.underlying200]))
theorem iQ{n:Nat}(h:n≤200000):(Lit.int .i64 (n:Int)).wf=true:=WalkArith.wf_i64 (by omega)
theorem jS:∃m,Tryz.prog.types.size=m+5:=by have h:5≤Tryz.prog.types.size:=of_decide_eq_true (by kernel_rfl);exact Nat.exists_eq_add_of_le' h
theorem nU{P k i c d s t q r u v}(b:P.underlying k=some (.struct #[{name:=c,type:=i,offset:=0,embedded:=false,tag:=u,pkgPath:=s,byteOffset:=q},{name:=d,type:=i,offset:=1,embedded:=false,tag:=v,pkgPath:=t,byteOffset:=r}]))(o:P.underlying i=some (.int .i64))(g:(c != "_")=true)(h:(d != "_")=true)
 (p:P.keyType k=true)(j:P.cellsOf k=2)(n:P.cellsOf i=1)(a:∃m,P.types.size=m+5){x y}(e:(Lit.int .i64 x).wf=true)(f:(Lit.int .i64 y).wf=true):∃l,keyOf P k (.agg #[.int .i64 x,.int .i64 y])=some l:=by
 obtain ⟨m,a⟩:=a;unfold keyOf;rw [b];simp [p,Value.formed,j,a,Program.keyLits,b,o,n,e,f,Value.cells,g,h]
theorem pB{p}(a:p.1≤200000)(b:p.2≤200000):∃l,keyOf Tryz.prog 200 (nO p)=some l:=
 nU Tryz.underlying200 Tryz.underlying3 (by decide) (by decide) (by kernel_rfl) (by kernel_rfl) (by kernel_rfl) jS (iQ a) (iQ b)
theorem jW{P:Program}{c d i:TypeId}{f g h z A B:String}{j k l:Nat}{C D E:String}(w:P.underlying c=some (.struct #[{name:=f,type:=d,offset:=0,embedded:=false,tag:=C,pkgPath:=z,byteOffset:=j},{name:=g,type:=i,offset:=1,embedded:=false,tag:=D,pkgPath:=A,byteOffset:=k},{name:=h,type:=i,offset:=2,embedded:=false,tag:=E,pkgPath:=B,byteOffset:=l}]))
 (y:P.underlying d=some (.int .i64))(x:P.underlying i=some (.int .i64))(q:(f != "_")=true)(r:(g != "_")=true)(s:(h != "_")=true)(t:P.cellsOf c=3)(u:P.cellsOf d=1)(v:P.cellsOf i=1)(m:Nat){a b e:Int}(n:(Lit.int .i64 a).wf=true)(o:(Lit.int .i64 b).wf=true)(p:(Lit.int .i64 e).wf=true):
 P.keyLits (m+2) c [.int .i64 a,.int .i64 b,.int .i64 e]=some [.int .i64 a,.int .i64 b,.int .i64 e]:=by
 unfold Program.keyLits;rw [w];simp only;rw [if_pos ⟨by rw [t];rfl,by rw [←Array.all_toList];simp only [List.all_cons,List.all_nil,q,r,s,Bool.and_self]⟩];simp [Program.keyLits,y,x,u,v,n,o,p]
theorem oU{P k c d i v w U V s t u W X Y S T D E F Z t2 u1 u2 u3}(e:P.underlying k=some (.struct #[{name:=v,type:=c,offset:=0,embedded:=false,tag:=Z,pkgPath:=U,byteOffset:=S},{name:=w,type:=c,offset:=3,embedded:=false,tag:=t2,pkgPath:=V,byteOffset:=T}]))
 (p:P.underlying c=some (.struct #[{name:=s,type:=d,offset:=0,embedded:=false,tag:=u1,pkgPath:=W,byteOffset:=D},{name:=t,type:=i,offset:=1,embedded:=false,tag:=u2,pkgPath:=X,byteOffset:=E},{name:=u,type:=i,offset:=2,embedded:=false,tag:=u3,pkgPath:=Y,byteOffset:=F}]))
 (r:P.underlying d=some (.int .i64))(q:P.underlying i=some (.int .i64))(O:(v != "_")=true)(Q:(w != "_")=true)(f:(s != "_")=true)(g:(t != "_")=true)(h:(u != "_")=true)
 (R:P.keyType k=true)(j:P.cellsOf k=6)(a:P.cellsOf c=3)(n:P.cellsOf d=1)(o:P.cellsOf i=1)(b:∃m,P.types.size=m+5){x y z A B C}(G:(Lit.int .i64 x).wf=true)(H:(Lit.int .i64 y).wf=true)(I:(Lit.int .i64 z).wf=true)(J:(Lit.int .i64 A).wf=true)(K:(Lit.int .i64 B).wf=true)(L:(Lit.int .i64 C).wf=true):
 ∃l,keyOf P k (.agg #[.int .i64 x,.int .i64 y,.int .i64 z,.int .i64 A,.int .i64 B,.int .i64 C])=some l:=by
 obtain ⟨m,b⟩:=b;have M:=jW p r q f g h a n o (m+3) G H I;have N:=jW p r q f g h a n o (m+3) J K L;unfold keyOf;rw [e];simp only;rw [if_pos (by simp [R,Value.formed,j,e]),b];unfold Program.keyLits;rw [e];simp only;rw [if_pos ⟨by rw [j];rfl,by rw [←Array.all_toList];simp only [List.all_cons,List.all_nil,O,Q,Bool.and_self]⟩];simp [a,Value.cells,M,N]
theorem pC{p}(a:Zc p.1)(b:Zc p.2):∃l,keyOf Tryz.prog 197 (oG p)=some l:=
 oU Tryz.underlying197 Tryz.underlying179 Tryz.underlying177 Tryz.underlying3 (by decide) (by decide) (by decide) (by decide) (by decide) (by kernel_rfl) (by kernel_rfl) (by kernel_rfl) (by kernel_rfl) (by kernel_rfl) jS (iQ (by have:=a.1;omega)) (iQ a.2.1) (iQ a.2.2) (iQ (by have:=b.1;omega)) (iQ b.2.1) (iQ b.2.2)
def hZ{a:Type}(k:TypeId)(mk:a→Value)(b:Nat)(l:List a)(w:World):Prop:=
 ∃(n:Nat) (D:DataW Unit),n≤l.length∧w.ownsMap Tryz.prog k unitElem b n D∧∀x,Maps.has D x=true↔∃p,p∈l∧keyOf Tryz.prog k (mk p)=some x
theorem hZ.none{a:Type}(k:TypeId)(mk:a→Value)(w:World):hZ k mk w.heap.size [] (w.alloc (.map #[] 0)):=
 ⟨0,.map [],rN _,World.ownsMap_made w _ _ _,fun x=>by simp [Maps.has_eq]⟩
theorem hZ.lt{a k}{mk:a→Value}{b l w}(h:hZ k mk b l w):b<w.heap.size:=by obtain ⟨n,D,_,h,_⟩:=h;exact h.lt
theorem hZ.O{j k}{mk:j→Value}{b l}{X:Nat→Prop}{w w'}(h:hZ k mk b l w)(g:Ab X w w')(i:¬X b):hZ k mk b l w':=by obtain ⟨n,D,e,⟨d,c,a,r⟩,f⟩:=h;exact ⟨n,D,e,⟨d,c,by rw [g.block b (lt_of_block a) i];exact a,r⟩,f⟩
theorem hZ.ne{g k}{mk:g→Value}{b c l w}(h:hZ k mk b l w){d t e}(a:w.heap[c]? =some (.cells d t e)):b≠c:=by obtain ⟨n,D,m,⟨j,i,f,r⟩,o⟩:=h;rintro rfl;rw [f] at a;cases a
theorem hZ.add{i:Type}{k t e:TypeId}{mk:i→Value}{b:Nat}{l:List i}{w:World}{p:i}{x:Lit}(h:hZ k mk b l w)(K:Keyed Tryz.prog k)(u:Tryz.prog.underlying t=some (.map k e))(z:l.length≤300000)(a:keyOf Tryz.prog k (mk p)=some x):
 ∃f,(Instr.mapUpdate t (.map (some b)) (mk p) (.agg #[])).run Tryz.prog w=.ok () f∧hZ k mk b (p::l) f∧Ab (fun k=>k=b) w f:=by
 obtain ⟨n,D,v,j,m⟩:=h;obtain ⟨f,s,o,r⟩:=World.ownsMap.store j K u (by unfold maxLen;omega) a unitElem_mk;refine ⟨f,s,⟨n+1,_,by simp;omega,o,fun y=>?_⟩,(Ab.refl _ w).grown r.grown (fun k a=>.inl (by cases a;rfl))⟩;by_cases g:y=x
 ·subst g;rw [Maps.has_put_same j.isMap (K.key a)];simp only [true_iff];exact ⟨p,by simp,a⟩
 ·rw [Maps.has_put_other g,m];constructor
  ·rintro ⟨q,c,d⟩;exact ⟨q,rT _ c,d⟩
  ·rintro ⟨q,c,d⟩;rcases List.mem_cons.1 c with rfl | c
   ·rw [a] at d;cases d;exact absurd rfl g
   ·exact ⟨q,c,d⟩
abbrev pG(v:Vl):Value:=.agg #[.int .i64 v.kind,.int .i64 v.bG]
def lA(c:Cl):List Value:=[.int .i64 c.nm.kind,.int .i64 c.nm.aV,.int .i64 c.nm.aX,.int .i64 c.v.kind,.int .i64 c.v.bG]
def nC(m:List Cl):List Value:=(m.map lA).flatten
def nR(f:Ue):List Value:=[.int .i64 f.fn,.int .i64 f.base,.int .i64 f.next,.int .i64 f.answer]
def kG(l:List Ue):List Value:=(l.reverse.map nR).flatten
theorem qR(m:List Cl):∀c,c∈m.map lA→c.length=5:=by intro c a;obtain ⟨i,_,rfl⟩:=List.mem_map.1 a;rfl
theorem qS(m:List Ue):∀c,c∈m.map nR→c.length=4:=by intro c a;obtain ⟨i,_,rfl⟩:=List.mem_map.1 a;rfl
theorem pL(m){i j}(a:i<m.length)(b:j<5):(nC m)[i*5+j]? =(lA m[i])[j]? :=by unfold nC;rw [Cz (qR m) (by simpa using a) b,List.getElem_map]
theorem nI(m c):nC (m++[c])=nC m++lA c:=by unfold nC;simp
theorem lE(l){i j}(b:i<l.length)(a:j<4):(kG l)[(l.length-1-i)*4+j]? =(nR l[i])[j]? :=by unfold kG;rw [Cz (qS l.reverse) (by simp;omega) a,List.getElem_map,List.getElem_reverse];congr 3;omega
theorem jB(l f):kG (f::l)=kG l++nR f:=by unfold kG;simp
theorem oO(m){i}(a:i<m.length)(v):((nC m).set (i*5+3) (.int .i64 v.kind)).set (i*5+4) (.int .i64 v.bG)=nC (m.set i ⟨m[i].nm,v⟩):=by
 unfold nC;rw [iN (qR m) (by simpa using a) (by decide),iN (i:=i) ?_ (by simpa using a) (by decide)]
 ·congr 1;apply List.ext_getElem
  ·simp
  ·intro k d f;simp only [List.getElem_set,List.getElem_map];split
   ·rename_i e;subst e;simp [lA]
   ·rename_i e;rfl
 ·intro c b;obtain ⟨k,g,rfl⟩:=List.mem_iff_getElem.1 b;rw [List.getElem_set];split
  ·rw [List.length_set];simp [lA]
  ·rw [List.getElem_map];rfl
def qP(d e b B:Nat)(w:World)(k:Nat):Prop:=k=d∨k=e∨k=b∨(B≤k∧∃a t c,w.heap[k]? =some (.cells a t c)∧(t=184∨t=176))
def FR(b c a B:Nat)(w d:World):Prop:=Ab (qP b c a B w) w d
theorem FR.refl(b c a B w):FR b c a B w w:=Ab.refl _ _
theorem FR.trans{g j f B:Nat}{a b c:World}(h:FR g j f B a b)(k:FR g j f B b c):FR g j f B a c:=by
 refine ⟨k.os.trans h.os,k.tape.trans h.tape,k.output.trans h.output,rO h.size k.size,fun i l d=>?_⟩;have e:=h.block i l d;rw [k.block i (rP l h.size) ?_,e];rintro (q | q | q | ⟨o,m,t,n,q,r⟩)
 ·exact d (.inl q)
 ·exact d (.inr (.inl q))
 ·exact d (.inr (.inr (.inl q)))
 ·rw [e] at q;exact d (.inr (.inr (.inr ⟨o,m,t,n,q,r⟩)))
theorem FR.bC{d e c B a b}(h:Ab (fun _=>False) a b):FR d e c B a b:=h.mono (fun _ _ q=>q.elim)
def jC(e:Value)(f i b:Nat)(a:ByteArray)(g j:Value)(d h c:Nat):Array Value:=
 #[e,.int .i64 f,.int .i64 i,.int .i64 b,.string a,g,j,.int .i64 d,.map (some h),.map (some c)]
structure I3(mb pm em B:Nat)(fv:Value)(mn pn cn:Nat)(m:Mc)(mv rv:Value)(ch:ByteArray)(w:World):Prop where
 s9:Ak mb (jC fv mn pn cn ch mv rv m.bM pm em) 121 w
 qV:ch.data.toList=m.c.ch
 aY:w.ownsRow B 184 5 mv m.c.aY.length (nC m.c.aY)
 e9:w.ownsRow B 176 4 rv m.bS.length (kG m.bS)
 cU:hZ 197 oG pm m.c.cU w
 bN:hZ 200 nO em m.c.bN w
 lb:B≤mb
 ne:pm≠em
def TN(e h c B:Nat)(d:Value)(f i b:Nat)(m:Mc)(w:World):Prop:=∃g j a,I3 e h c B d f i b m g j a w
theorem I3.i9{f j d B g k c e i l m b w n}(h:I3 f j d B e g k c m i l b w)(a:Ab (fun _=>False) w n):I3 f j d B e g k c m i l b n:=
 ⟨h.s9.O a (fun q=>q),h.qV,Ac h.aY a (fun _ _ q=>q),Ac h.e9 a (fun _ _ q=>q),h.cU.O a (fun q=>q),h.bN.O a (fun q=>q),h.lb,h.ne⟩
theorem TN.i9{d f b B e g a c m w i}(h:TN d f b B c e g a m w)(k:Ab (fun _=>False) w i):TN d f b B c e g a m i:=by obtain ⟨l,n,j,h⟩:=h;exact ⟨l,n,j,h.i9 k⟩
theorem I3.cP{d e c B B' s v g j u x m f w}(h:I3 d e c B j s v g m u x f w){k i t l}(b:w.heap[k]? =some (.cells i t l))(n:t≠121)(o:t≠184)(p:t≠176):¬qP d e c B' w k:=by
 rintro (q | q | q | ⟨_,y,A,z,q,r⟩)
 ·subst q;have a:=h.s9;unfold Ak at a;rw [b] at a;simp only [Option.some.injEq,Obj.cells.injEq] at a;exact n a.2.1
 ·exact h.cU.ne b q.symm
 ·exact h.bN.ne b q.symm
 ·rw [b] at q;simp only [Option.some.injEq,Obj.cells.injEq] at q;rw [←q.2.1] at r;exact r.elim o p
theorem FR.s9{e f c B p q i b j m a t w g}(o:FR e f c B w g)(h:TN e f c B j p q i m w)(d:Ak b a t w)(k:t≠121)(l:t≠184)(n:t≠176):Ak b a t g:=by obtain ⟨s,u,r,h⟩:=h;exact d.O o (h.cP d k l n)
theorem FR.row{c d b B a x y j l m e f v n i w g}(s:FR c d b B w g)(h:TN c d b B l x y j m w)(u:w.ownsRow a e f v n i)(o:e≠121)(p:e≠184)(r:e≠176):g.ownsRow a e f v n i:=by obtain ⟨D,E,z,h⟩:=h;exact Av u s (fun k A C q t=>h.cP t o p r q)
theorem I3.wrote{a d b B g l e f j n m m' o ch' w}(h:I3 a d b B f g l e m j n o w)(i x)(p:jC f g l e ch' j n m'.bM d b=(jC f g l e o j n m.bM d b).setIfInBounds i x)(r:ch'.data.toList=m'.c.ch)(u:m'.c.aY=m.c.aY)(v:m'.c.cU=m.c.cU)(s:m'.c.bN=m.c.bN)(t:m'.bS=m.bS):
 I3 a d b B f g l e m' j n ch' (w.setCell ⟨a,i,none⟩ x)∧FR a d b B w (w.setCell ⟨a,i,none⟩ x):=by
 have c:Ab (fun k=>k=a) w (w.setCell ⟨a,i,none⟩ x):=(Ab.refl _ _).d8 i _;refine ⟨⟨by rw [p];exact h.s9.set i x,r,?_,?_,?_,?_,h.lb,h.ne⟩,c.mono (fun _ _ q=>.inl q)⟩
 ·rw [u];exact Ac h.aY c (Aj h.aY h.s9 (by decide))
 ·rw [t];exact Ac h.e9 c (Aj h.e9 h.s9 (by decide))
 ·rw [v];exact h.cU.O c (h.cU.ne h.s9)
 ·rw [s];exact h.bN.O c (h.bN.ne h.s9)
def Mc.hold(m:Mc)(c:Nat)(v:Vl):Mc:={m with c:={m.c with aY:=m.c.aY.set c ⟨(DB m.c.aY c).nm,v⟩}}
theorem I3.hold{b j d B u x r g n p s l m o w}(h:I3 b j d B s u x r m (.slice (some ⟨g,0,none⟩) n p) l o w){c}(t:c<m.c.aY.length)(v):
 I3 b j d B s u x r (m.hold c v) (.slice (some ⟨g,0,none⟩) n p) l o ((w.setCell ⟨g,c*5+3,none⟩ (.int .i64 v.kind)).setCell ⟨g,c*5+3+1,none⟩ (.int .i64 v.bG))∧FR b j d B w ((w.setCell ⟨g,c*5+3,none⟩ (.int .i64 v.kind)).setCell ⟨g,c*5+3+1,none⟩ (.int .i64 v.bG)):=by
 have F:=Aq h.aY;subst F;obtain ⟨y,f⟩:=J9 h.aY;have C:g≠b:=Aj h.aY h.s9 (by decide) g rfl;have D:∀k,l.ownBlock=some k→k≠g:=Aj h.e9 f (by decide);have z:=(h.aY.lt g rfl).1;have a:Ab (fun k=>k=g) w ((w.setCell ⟨g,c*5+3,none⟩ (.int .i64 v.kind)).setCell ⟨g,c*5+3+1,none⟩ (.int .i64 v.bG)):=((Ab.refl _ _).d8 _ _).d8 _ _;have A:FR b j d B w ((w.setCell ⟨g,c*5+3,none⟩ (.int .i64 v.kind)).setCell ⟨g,c*5+3+1,none⟩ (.int .i64 v.bG)):=a.mono (fun k _ q=>by subst q;exact .inr (.inr (.inr ⟨z,y,_,_,f,.inl rfl⟩)));have i:=((h.aY.stored (c*5+3) (.int .i64 v.kind)).1.stored (c*5+3+1) (.int .i64 v.bG)).1;have e:=oO m.c.aY t v;rw [←WM t] at e;have i:World.ownsRow _ B 184 5 _ m.c.aY.length (((nC m.c.aY).set (c*5+3) (.int .i64 v.kind)).set (c*5+4) (.int .i64 v.bG)):=i;rw [e] at i;have E:(m.hold c v).c.aY.length=m.c.aY.length:=by simp [Mc.hold]
 refine ⟨⟨h.s9.O a (fun q=>C q.symm),h.qV,?_,Ac h.e9 a D,h.cU.O a (h.cU.ne f),h.bN.O a (h.bN.ne f),h.lb,h.ne⟩,A⟩;rw [E];exact i
theorem I3.cell{d s l B r t k g n i o u m f w}(h:I3 d s l B o r t k m (.slice (some ⟨g,0,none⟩) n i) u f w){c}(a:c<m.c.aY.length):
 (∀j,j<5→w.cell? ⟨g,c*5+j,none⟩=(lA (DB m.c.aY c))[j]?)∧(∀j,w.frozen? ⟨g,j,none⟩=false)∧n=m.c.aY.length∧g<w.heap.size∧g≠d:=by
 have q:=Aq h.aY;subst q;obtain ⟨v,b⟩:=J9 h.aY;refine ⟨fun j p=>?_,fun j=>AE b j,rfl,Ae b,Aj h.aY h.s9 (by decide) g rfl⟩;have e:=h.aY.cellAt (c*5+j) (by omega);rw [e,pL m.c.aY a p,WM a]
def iB(m:List Cl):Prop:=∀i (h:i<m.length),Zc m[i].nm
theorem iB.at_{m}(h:iB m){i}(a:i<m.length):Zc (DB m i).nm:=by rw [WM a];exact h i a
theorem iJ{o B k e}{mk:o→Value}{b i n l v m w}(h:w.ownsRow B e i v n m)(d:hZ k mk b l w):∀j,v.ownBlock=some j→¬j=b:=by
 intro j a q;subst q;rcases h.2 with ⟨g,_⟩ | ⟨s,p,r,f,_,c,_⟩
 ·rw [g] at a;simp [Value.ownBlock] at a
 ·rw [f] at a;simp [Value.ownBlock] at a;subst a;exact d.ne c rfl
theorem jF(m:Mc)(a i:Nat)(v:Vl):(DB (m.hold a v).c.aY i).nm=(DB m.c.aY i).nm:=by
 unfold Mc.hold DB;simp only [List.getElem?_set];by_cases e:a=i
 ·subst e;by_cases h:a<m.c.aY.length
  ·simp [h]
  ·simp [h]
 ·simp [e]
theorem I3.rL{f d e B k o i j n r m g w}(h:I3 f d e B j k o i m n r g w)(p)(s:Zc p.1)(t:Zc p.2)(v:m.c.cU.length≤300000):
 ∃b,(Instr.mapUpdate 116 (.map (some d)) (oG p) (.agg #[])).run Tryz.prog w=.ok () b∧I3 f d e B j k o i {m with c:={m.c with cU:=p::m.c.cU}} n r g b∧FR f d e B w b:=by
 obtain ⟨l,u⟩:=pC s t;obtain ⟨b,x,y,a⟩:=h.cU.add kS Tryz.underlying116 v u;exact ⟨b,x,⟨h.s9.O a (fun q=>h.cU.ne h.s9 q.symm),h.qV,Ac h.aY a (iJ h.aY h.cU),Ac h.e9 a (iJ h.e9 h.cU),y,h.bN.O a (fun q=>h.ne q.symm),h.lb,h.ne⟩,a.mono (fun _ _ q=>.inr (.inl q))⟩
theorem iA(D E O B fv mn pn cn m a v w)(h:TN D E O B fv mn pn cn m w)(ht:iB m.c.aY)(x:a<m.c.aY.length)(hv:Pm 200000 m.c.aY.length v)(hl:m.c.cU.length≤300000)(b1:m.c.aY.length≤200000):
 Calls Tryz.prog 79 #[.pointer (some ⟨D,0,none⟩),.int .i64 a,pG v] w fun e w'=>e=.returned (.tuple #[])∧TN D E O B fv mn pn cn {m with c:=m.c.set a v} w'∧FR D E O B w w':=by
 obtain ⟨V,W⟩:∃V,{m with c:=m.c.set a v}=V:=⟨_,rfl⟩;rw [W];have K:=Aa W;clear W;obtain ⟨mv,rv,ch,h⟩:=h;obtain ⟨xa,xl,xc,rfl⟩:=Ad h.aY;obtain ⟨g,rfl⟩:=AA h.aY (by omega);obtain ⟨b,r,rfl,a9,a8⟩:=h.cell x;have F:=h.s9.cell 5;have G:=h.s9.cell 8;have lr:=Ae h.s9;simp only [jC,dM,dJ,dK] at F G;have i:=r (a*5+3);have f4:=r (a*5+4);have j:=b 0 (by decide);have k:=b 1 (by decide);have l:=b 2 (by decide);have c3:=b 3 (by decide);have c4:=b 4 (by decide);simp only [lA,dJ,dK,Nat.add_zero] at j k l c3 c4;have a7:(a:Int)<(m.c.aY.length:Int):=by omega
 obtain ⟨a0,f2⟩:=h.hold x v;have U:=((Ab.refl (fun _=>False) ((w.setCell ⟨g,a*5+3,none⟩ (.int .i64 v.kind)).setCell ⟨g,a*5+3+1,none⟩ (.int .i64 v.bG))).alloc (.cells #[.int .i64 v.kind,.int .i64 v.bG] 182)).drew;have h2:=a0.i9 U;have L:=Aa (Ak.new ((w.setCell ⟨g,a*5+3,none⟩ (.int .i64 v.kind)).setCell ⟨g,a*5+3+1,none⟩ (.int .i64 v.bG)) #[.int .i64 v.kind,.int .i64 v.bG] 182);have a5:((w.setCell ⟨g,a*5+3,none⟩ (.int .i64 v.kind)).setCell ⟨g,a*5+3+1,none⟩ (.int .i64 v.bG)).heap.size=w.heap.size:=by simp
 rw [a5] at L;have M:=Aa (Ak.O L.o ((Ab.refl (fun _=>False) _).drew) (fun q=>q));have H:=Aa (f2.trans (FR.bC U));have d:=Aa h2;clear h h2 a0 f2 b r U L a5;unfold pG;go_enter Tryz.func79,Tryz.ntmps79;go_wp2_with fail;go_region;clear j k l c3 c4 i f4 F G;generalize (((World.setCell w _ _).setCell _ _).alloc _).drew=W2 at*;have s:(m.hold a v).c.aY.length=m.c.aY.length:=by simp [Mc.hold]
 obtain ⟨b,r,_,b0,_⟩:=d.o.cell (c:=a) (by rw [s];exact x);have F:=d.o.s9.cell 5;have G:=d.o.s9.cell 8;have b3:=Ae d.o.s9;have e3:=M.o.cell 0;have e4:=M.o.cell 1;have le:=Ae M.o;have j:=b 0 (by decide);have k:=b 1 (by decide);have l:=b 2 (by decide);simp only [jC,lA,dM,dJ,dK,Nat.add_zero] at F G j k l e3 e4;have a2:=jF m a a v;have X:=ht.at_ x;rw [a2] at j k l;obtain ⟨N,S⟩:∃N,(DB m.c.aY a).nm=N:=⟨_,rfl⟩;rw [S] at j k l X;have Z:=Aa S;have n:=Aa (((Ab.refl (fun _=>False) W2).alloc (.cells #[.int .i64 N.kind,.int .i64 N.aV,.int .i64 N.aX] 179)));have a4:(m.hold a v).c.cU.length≤300000:=hl;clear b r a2 S;rcases hv with ⟨z,n0⟩ | ⟨A,n1⟩ | ⟨C,Y⟩
 ·have d1:((v.kind:Int)==1)=false:=by simp [z]
  have d2:((v.kind:Int)==2)=false:=by simp [z]
  have f:{m with c:=m.c.set a v}=m.hold a v:=by unfold Mc.hold Co.set;simp [z]
  have o:=Aa f;clear s z n0 f;go_wp2_with fail;go_end0;refine ⟨rfl,?_,H.o.trans (FR.bC n.o)⟩;rw [←K.o,o.o];exact ⟨_,_,_,d.o.i9 n.o⟩
 ·obtain ⟨w3,t,p,i⟩:=(d.o.i9 (n.o.drew)).rL (N,⟨2,v.bG,0⟩) X ⟨by simp,by simp only;omega,by simp⟩ a4;have f:{m with c:=m.c.set a v}={(m.hold a v) with c:={(m.hold a v).c with cU:=(N,⟨2,v.bG,0⟩)::(m.hold a v).c.cU}}:=by unfold Mc.hold Co.set;simp [A,Z.o]
  have o:=Aa f;have d1:((v.kind:Int)==1)=true:=by simp [A]
  have d2:((v.kind:Int)==2)=false:=by simp [A]
  have J:=Aa p;have I:=Aa ((H.o.trans (FR.bC (n.o.drew))).trans i);have t:(Instr.mapUpdate 116 (.map (some E)) (.agg #[.int .i64 N.kind,.int .i64 N.aV,.int .i64 N.aX,.int .i64 2,.int .i64 v.bG,.int .i64 0]) (.agg #[])).run Tryz.prog _=.ok () w3:=t;clear s A n1 f p i;go_wp2_with fail;go_region;go_wp2_with fail;go_end0;refine ⟨rfl,?_,I.o⟩;rw [←K.o,o.o];exact ⟨_,_,_,J.o⟩
 ·have a1:v.bG<(m.hold a v).c.aY.length:=by rw [s];exact Y
  obtain ⟨y,_,_,_,_⟩:=d.o.cell (c:=v.bG) a1;have P:=y 0 (by decide);have Q:=y 1 (by decide);have R:=y 2 (by decide);simp only [lA,dJ,dK,Nat.add_zero] at P Q R;have a3:=jF m a v.bG v;have a6:=ht.at_ Y;rw [a3] at P Q R;obtain ⟨u,T⟩:∃u,(DB m.c.aY v.bG).nm=u:=⟨_,rfl⟩;rw [T] at P Q R a6;obtain ⟨w3,t,p,i⟩:=(d.o.i9 (n.o.drew)).rL (N,u) X a6 a4;have f:{m with c:=m.c.set a v}={(m.hold a v) with c:={(m.hold a v).c with cU:=(N,u)::(m.hold a v).c.cU}}:=by unfold Mc.hold Co.set;simp [C,Z.o,T]
  have o:=Aa f;have d1:((v.kind:Int)==1)=false:=by simp [C]
  have d2:((v.kind:Int)==2)=true:=by simp [C]
  have J:=Aa p;have I:=Aa ((H.o.trans (FR.bC (n.o.drew))).trans i);have b2:(v.bG:Int)<(m.c.aY.length:Int):=by omega
  unfold oG at t;simp only at t;clear s C Y a1 f p i y T a3;go_wp2_with fail;go_region;go_wp2_with fail;go_end0;refine ⟨rfl,?_,I.o⟩;rw [←K.o,o.o];exact ⟨_,_,_,J.o⟩
theorem lG(h k j B s v y o m x z a w)(f:I3 h k j B s v y o m x z a w):
 Calls Tryz.prog 87 #[.pointer (some ⟨h,0,none⟩)] w fun e A=>e=.returned (.bool (Pv m.c.ch).1)∧(∃n,I3 h k j B s v y o {m with c:={m.c with ch:=(Pv m.c.ch).2}} x z n A)∧FR h k j B w A:=by
 have I:=Ae f.s9;have E:=f.s9.cell 4;have F:=f.s9.frozen;simp only [jC,dM,dJ,dK] at E;have d:=f.qV;cases g:m.c.ch with
 | nil=>
   rw [g] at d;have D:a.toList.isEmpty=true:=by rw [ByteArray.toList_eq,d];rfl
   have t:{m with c:={m.c with ch:=(Pv m.c.ch).2}}=m:=by obtain ⟨⟨_,_,_,_⟩,_,_⟩:=m;simp only at g;subst g;rfl
   rw [g] at t;rw [t];have i:=Aa f;clear f d;simp only [Pv];go_enter Tryz.func87,Tryz.ntmps87;go_wp2;go_ret;exact ⟨rfl,⟨_,i.o⟩,FR.refl _ _ _ _ _⟩
 | cons b l=>
   rw [g] at d;have D:a.toList.isEmpty=false:=by rw [ByteArray.toList_eq,d];rfl
   have H:0<a.size:=by have:a.data.toList.length=a.size:=Array.length_toList;rw [d] at this;simp at this;omega
   have G:((a[0].toNat:Int)==49)=(b==49):=by
    have e:a[0]=b:=by
     have:a.data.toList[0]? =some b:=by rw [d];rfl
     rw [Array.getElem?_toList] at this;have:=(Array.getElem?_eq_some_iff.1 this).2;exact this
    rw [e,Bool.eq_iff_iff];simp only [beq_iff_eq];constructor
    ·intro q;have:b.toNat=49:=by omega
     exact UInt8.toNat_inj.1 (by simpa using this)
    ·intro q;subst q;rfl
   have u:(a.extract 1 a.size).data.toList=l:=by
    rw [ByteArray.data_extract,Array.toList_extract,d];have:a.size=l.length+1:=by have:a.data.toList.length=a.size:=Array.length_toList;rw [d] at this;simpa using this.symm
    simp [this]
   obtain ⟨p,r⟩:=f.wrote (m':={m with c:={m.c with ch:=l}}) (ch':=a.extract 1 a.size) 4 (.string (a.extract 1 a.size)) rfl u rfl rfl rfl rfl;have i:=Aa p;have C:=Aa r;simp only [Pv];clear f p r d u;go_enter Tryz.func87,Tryz.ntmps87;go_wp2;go_ret;exact ⟨rfl,⟨_,i.o⟩,C.o⟩
theorem TN.holds{d o j B n p i k m w}(h:TN d o j B k n p i m w){a}(c:a<m.c.aY.length):
 ∃g f,w.cell? ⟨d,5,none⟩=some (.slice (some ⟨g,0,none⟩) m.c.aY.length f)∧g<w.heap.size∧d<w.heap.size∧(∀a,a<m.c.aY.length→w.cell? ⟨g,a*5+3,none⟩=some (.int .i64 (DB m.c.aY a).v.kind)∧w.cell? ⟨g,a*5+4,none⟩=some (.int .i64 (DB m.c.aY a).v.bG)∧w.cell? ⟨g,a*5,none⟩=some (.int .i64 (DB m.c.aY a).nm.kind)∧w.cell? ⟨g,a*5+1,none⟩=some (.int .i64 (DB m.c.aY a).nm.aV)∧w.cell? ⟨g,a*5+2,none⟩=some (.int .i64 (DB m.c.aY a).nm.aX)):=by
 obtain ⟨s,t,r,h⟩:=h;obtain ⟨u,v,q,rfl⟩:=Ad h.aY;obtain ⟨g,rfl⟩:=AA h.aY (by omega);obtain ⟨_,_,rfl,l,_⟩:=h.cell c;have e:=h.s9.cell 5;simp only [jC,dM,dJ,dK] at e;exact ⟨g,q,e,l,Ae h.s9,fun a c=>by obtain ⟨b,_⟩:=h.cell c;exact ⟨b 3 (by decide),b 4 (by decide),b 0 (by decide),b 1 (by decide),b 2 (by decide)⟩⟩
theorem iE(f o k B l n p j m a w)(h:TN f o k B l n p j m w)(c:a<m.c.aY.length)(b:(DB m.c.aY a).v.kind=2):
 Calls Tryz.prog 119 #[.pointer (some ⟨f,0,none⟩),.int .i64 a] w fun e q=>e=.returned (.tuple #[.int .i64 (DB m.c.aY a).v.bG,.bool true])∧Ab (fun _=>False) w q:=by
 obtain ⟨g,t,A,y,z,d⟩:=h.holds c;obtain ⟨r,i,_⟩:=d a c;have x:(a:Int)<(m.c.aY.length:Int):=by omega
 have s:w.cell? ⟨g,a*5+3+1,none⟩=some (.int .i64 (DB m.c.aY a).v.bG):=i;have v:(((DB m.c.aY a).v.kind:Int) !=2)=false:=by simp [b]
 have u:(((DB m.c.aY a).v.kind:Int)==2)=true:=by simp [b]
 clear h d b;generalize DB m.c.aY a=C at*;go_enter Tryz.func119,Tryz.ntmps119;go_wp2;go_ret2;exact ⟨rfl,(by repeat (first | exact Ab.refl _ _ | refine Ab.drew ?_ | refine Ab.drewN ?_ _ | refine Ab.alloc ?_ _))⟩
theorem iS(c i d B n q r j m a w)(h:TN c i d B n q r j m w)(o:a<m.c.aY.length)(x:(DB m.c.aY a).v.kind≠2):
 Calls Tryz.prog 119 #[.pointer (some ⟨c,0,none⟩),.int .i64 a] w fun e s=>e=.returned (.tuple #[.int .i64 0,.bool false])∧TN c i d B n q r j {m with bM:=3} s∧FR c i d B w s:=by
 obtain ⟨g,E,M,J,K,p⟩:=h.holds o;obtain ⟨z,v,_⟩:=p a o;have I:(a:Int)<(m.c.aY.length:Int):=by omega
 have A:w.cell? ⟨g,a*5+3+1,none⟩=some (.int .i64 (DB m.c.aY a).v.bG):=v;have G:(((DB m.c.aY a).v.kind:Int) !=2)=true:=by simp;omega
 have F:(((DB m.c.aY a).v.kind:Int)==2)=false:=by simp;omega
 obtain ⟨L,N,D,b⟩:=h;have y:=b.s9.cell 7;have H:=b.s9.frozen 7;simp only [jC,dM,dJ,dK] at y;obtain ⟨k,l⟩:=b.wrote (m':={m with bM:=3}) 7 (.int .i64 3) rfl b.qV rfl rfl rfl rfl;have f:=((Ab.refl (fun _=>False) (w.setCell ⟨c,7,none⟩ (.int .i64 3))).alloc (.cells #[.int .i64 (DB m.c.aY a).v.kind,.int .i64 (DB m.c.aY a).v.bG] 182));have t:=Aa (k.i9 f);have u:=Aa (l.trans (FR.bC f));clear b p x k l f;generalize DB m.c.aY a=C at*;go_enter Tryz.func119,Tryz.ntmps119;go_wp2;go_ret2;first | exact ⟨rfl,⟨_,_,_,t.o⟩,u.o⟩ | trace_state
theorem nX(a c b B:Nat)(f:Value)(g i d:Nat)(m:Mc)(p q:Nat)(w:World)(h:TN a c b B f g i d m w)(t:q<m.c.aY.length)(k:(DB m.c.aY q).v.kind≠2):
 Calls Tryz.prog 83 #[.pointer (some ⟨a,0,none⟩),.int .i64 p,.int .i64 q] w fun e o=>e=.returned (.tuple #[])∧TN a c b B f g i d {m with bM:=3} o∧FR a c b B w o:=by
 have j:=Aa (iS a c b B f g i d m q w h t k);clear h k;go_enter Tryz.func83,Tryz.ntmps83;go_wp2_with fail;refine j.o.mono ?_;rintro e u ⟨rfl,l,n⟩;have r:=Aa l;have s:=Aa n;clear l n j;go_wp2_with fail;go_end0;exact ⟨rfl,r.o,s.o⟩
theorem mU(a c b B:Nat)(f:Value)(g i d:Nat)(m:Mc)(p q:Nat)(w:World)(h:TN a c b B f g i d m w)(t:p<m.c.aY.length)(k:(DB m.c.aY p).v.kind≠2):
 Calls Tryz.prog 84 #[.pointer (some ⟨a,0,none⟩),.int .i64 p,.int .i64 q] w fun e o=>e=.returned (.tuple #[])∧TN a c b B f g i d {m with bM:=3} o∧FR a c b B w o:=by
 have j:=Aa (iS a c b B f g i d m p w h t k);clear h k;go_enter Tryz.func84,Tryz.ntmps84;go_wp2_with fail;refine j.o.mono ?_;rintro e u ⟨rfl,l,n⟩;have r:=Aa l;have s:=Aa n;clear l n j;go_wp2_with fail;go_end0;exact ⟨rfl,r.o,s.o⟩
theorem nZ(a c b B:Nat)(f:Value)(g i d:Nat)(m:Mc)(p q:Nat)(k:Nat)(w:World)(h:TN a c b B f g i d m w)(u:q<m.c.aY.length)(l:(DB m.c.aY q).v.kind≠2):
 Calls Tryz.prog 82 #[.pointer (some ⟨a,0,none⟩),.int .i64 p,.int .i64 q,.int .i64 k] w fun e r=>e=.returned (.tuple #[])∧TN a c b B f g i d {m with bM:=3} r∧FR a c b B w r:=by
 have j:=Aa (iS a c b B f g i d m q w h u l);clear h l;go_enter Tryz.func82,Tryz.ntmps82;go_wp2_with fail;refine j.o.mono ?_;rintro e x ⟨rfl,n,o⟩;have s:=Aa n;have t:=Aa o;clear n o j;go_wp2_with fail;exact bodyPost_ret (v:=.tuple #[]) (by simp [results,Tryz.results82,go_sem]) rfl ⟨rfl,s.o,t.o⟩
theorem mQ(a d b B j k l i m p q w)(h:TN a d b B j k l i m w)(F:iB m.c.aY)(r:LJ 200000 m.c.aY)(P:m.c.cU.length≤300000)(Q:m.c.aY.length≤200000)(D:p<m.c.aY.length)(E:q<m.c.aY.length)(z:(DB m.c.aY q).v.kind=2):
 Calls Tryz.prog 83 #[.pointer (some ⟨a,0,none⟩),.int .i64 p,.int .i64 q] w fun e K=>e=.returned (.tuple #[])∧TN a d b B j k l i {m with c:=m.c.set p (DB m.c.aY (DB m.c.aY q).v.bG).v} K∧FR a d b B w K:=by
 obtain ⟨n,A⟩:∃n,(DB m.c.aY q).v.bG=n:=⟨_,rfl⟩;have H:=(r.at_ E).2;have C:n<m.c.aY.length:=by rcases H with ⟨e,_⟩ | ⟨e,_⟩ | ⟨_,e⟩<;>omega
 have o:=Aa (iE a d b B j k l i m q w h E z);rw [A] at o⊢;have G:=(r.at_ C).2;have f:=Aa (fun (W:World) (O:Ab (fun _=>False) w W)=>iA a d b B j k l i m p (DB m.c.aY n).v W (h.i9 O) F D G P Q);have L:=Aa h;have X:(n:Int)<(m.c.aY.length:Int):=by omega
 obtain ⟨V,x⟩:∃V,{m with c:=m.c.set p (DB m.c.aY n).v}=V:=⟨_,rfl⟩;rw [x] at f⊢;clear h F r H G z x A;go_enter Tryz.func83,Tryz.ntmps83;go_wp2_with fail;refine o.o.mono ?_;rintro e R ⟨rfl,s⟩;have t:=Aa s;obtain ⟨g,U,r5,Y,Z,y⟩:=(L.o.i9 s).holds D;obtain ⟨S,u,_⟩:=y n C;have T:R.cell? ⟨g,n*5+3+1,none⟩=some (.int .i64 (DB m.c.aY n).v.bG):=u;clear y s o u;unfold pG at f;generalize (DB m.c.aY n).v=v at*;go_wp2_with fail;refine (f.o _ t.o).mono ?_;rintro e w2 ⟨rfl,I,J⟩;have M:=Aa I;have N:=Aa ((FR.bC t.o).trans J);clear I J f;go_wp2_with fail;go_end0;exact ⟨rfl,M.o,N.o⟩
theorem lI(a d b B j k l i m p q w)(h:TN a d b B j k l i m w)(E:iB m.c.aY)(r:LJ 200000 m.c.aY)(O:m.c.cU.length≤300000)(P:m.c.aY.length≤200000)(s:p<m.c.aY.length)(D:q<m.c.aY.length)(A:(DB m.c.aY p).v.kind=2):
 Calls Tryz.prog 84 #[.pointer (some ⟨a,0,none⟩),.int .i64 p,.int .i64 q] w fun e J=>e=.returned (.tuple #[])∧TN a d b B j k l i {m with c:=m.c.set (DB m.c.aY p).v.bG (DB m.c.aY q).v} J∧FR a d b B w J:=by
 obtain ⟨n,C⟩:∃n,(DB m.c.aY p).v.bG=n:=⟨_,rfl⟩;have G:=(r.at_ s).2;have Q:n<m.c.aY.length:=by rcases G with ⟨e,_⟩ | ⟨e,_⟩ | ⟨_,e⟩<;>omega
 have o:=Aa (iE a d b B j k l i m p w h s A);rw [C] at o⊢;have F:=(r.at_ D).2;have f:=Aa (fun (W:World) (N:Ab (fun _=>False) w W)=>iA a d b B j k l i m n (DB m.c.aY q).v W (h.i9 N) E Q F O P);have K:=Aa h;have X:(q:Int)<(m.c.aY.length:Int):=by omega
 obtain ⟨V,y⟩:∃V,{m with c:=m.c.set n (DB m.c.aY q).v}=V:=⟨_,rfl⟩;rw [y] at f⊢;clear h E r G F A y C;go_enter Tryz.func84,Tryz.ntmps84;go_wp2_with fail;refine o.o.mono ?_;rintro e R ⟨rfl,t⟩;have u:=Aa t;obtain ⟨g,U,r5,Y,Z,z⟩:=(K.o.i9 t).holds s;obtain ⟨S,x,_⟩:=z q D;have T:R.cell? ⟨g,q*5+3+1,none⟩=some (.int .i64 (DB m.c.aY q).v.bG):=x;clear z t o x;unfold pG at f;generalize (DB m.c.aY q).v=v at*;go_wp2_with fail;refine (f.o _ u.o).mono ?_;rintro e w2 ⟨rfl,H,I⟩;have L:=Aa H;have M:=Aa ((FR.bC u.o).trans I);clear H I f;go_wp2_with fail;go_end0;exact ⟨rfl,L.o,M.o⟩
theorem mV(a i d B:Nat)(t:Value)(y A l:Nat)(m:Mc)(p q k:Nat)(w:World)(h:TN a i d B t y A l m w)(K:LJ 200000 m.c.aY)(x:q<m.c.aY.length)(J:(DB m.c.aY q).v.kind=2)(f:¬((DB m.c.aY (DB m.c.aY q).v.bG).nm.kind=1∧(DB m.c.aY (DB m.c.aY q).v.bG).nm.aX=0)):
 Calls Tryz.prog 82 #[.pointer (some ⟨a,0,none⟩),.int .i64 p,.int .i64 q,.int .i64 k] w fun e O=>e=.returned (.tuple #[])∧TN a i d B t y A l {m with bM:=3} O∧FR a i d B w O:=by
 obtain ⟨n,L⟩:∃n,(DB m.c.aY q).v.bG=n:=⟨_,rfl⟩;have M:=(K.at_ x).2;have Q:n<m.c.aY.length:=by rcases M with ⟨e,_⟩ | ⟨e,_⟩ | ⟨_,e⟩<;>omega
 have j:=Aa (iE a i d B t y A l m q w h x J);rw [L] at j f;have E:=Aa h;have a0:(n:Int)<(m.c.aY.length:Int):=by omega
 clear h K M J L;go_enter Tryz.func82,Tryz.ntmps82;go_wp2_with fail;refine j.o.mono ?_;rintro e S ⟨rfl,z⟩;have H:=E.o.i9 z;obtain ⟨g,X,r5,lg,lm,I⟩:=H.holds x;obtain ⟨_,_,T,U,V⟩:=I n Q;obtain ⟨mv,rv,W,c⟩:=H;have R:=c.s9.cell 7;have Z:=c.s9.frozen 7;simp only [jC,dM,dJ,dK] at R;generalize (DB m.c.aY n).nm=N at*;have o:N.kind=1→((N.kind:Int) !=1)=false:=fun q=>by simp [q]
 have r:N.kind≠1→((N.kind:Int) !=1)=true:=fun q=>by simp;omega
 have s:N.aX≠0→((N.aX:Int) !=0)=true:=fun q=>by simp;omega
 obtain ⟨F,G⟩:=c.wrote (m':={m with bM:=3}) 7 (.int .i64 3) rfl c.qV rfl rfl rfl rfl;have u:=((Ab.refl (fun _=>False) (S.setCell ⟨a,7,none⟩ (.int .i64 3))).alloc (.cells #[.int .i64 N.kind,.int .i64 N.aV,.int .i64 N.aX] 179));have C:=Aa (F.i9 u);have D:=Aa ((FR.bC z).trans (G.trans (FR.bC u)));clear I z j c F G u E;by_cases b:N.kind=1
 ·have P:=o b;have Y:=s (fun q=>f ⟨b,q⟩);clear o r s f b;go_wp2_with fail;exact bodyPost_ret (v:=.tuple #[]) (by simp [results,Tryz.results82,go_sem]) rfl ⟨rfl,⟨_,_,_,C.o⟩,D.o⟩
 ·have P:=r b;clear o r s f b;go_wp2_with fail;exact bodyPost_ret (v:=.tuple #[]) (by simp [results,Tryz.results82,go_sem]) rfl ⟨rfl,⟨_,_,_,C.o⟩,D.o⟩
theorem mW(a d b B:Nat)(j:Value)(l o i:Nat)(m:Mc)(p q k:Nat)(w:World)(h:TN a d b B j l o i m w)(J:iB m.c.aY)(v:LJ 200000 m.c.aY)(S:m.c.cU.length≤300000)(T:m.c.aY.length≤200000)(X:p<m.c.aY.length)(x:q<m.c.aY.length)(F:(DB m.c.aY q).v.kind=2)(f:(DB m.c.aY (DB m.c.aY q).v.bG).nm.kind=1∧(DB m.c.aY (DB m.c.aY q).v.bG).nm.aX=0)(a0:k≤3):
 Calls Tryz.prog 82 #[.pointer (some ⟨a,0,none⟩),.int .i64 p,.int .i64 q,.int .i64 k] w fun e r=>e=.returned (.tuple #[])∧TN a d b B j l o i {m with c:=m.c.set p ⟨2,(DB m.c.aY q).v.bG+k⟩} r∧FR a d b B w r:=by
 obtain ⟨n,G⟩:∃n,(DB m.c.aY q).v.bG=n:=⟨_,rfl⟩;have L:=(v.at_ x).2;have H:n<m.c.aY.length:=by rcases L with ⟨e,_⟩ | ⟨e,_⟩ | ⟨_,e⟩<;>omega
 have t:=Aa (iE a d b B j l o i m q w h x F);rw [G] at t f⊢;have I:=(v.at_ H).1;have U:n+k<m.c.aY.length:=by
  rcases I with e | ⟨_,_,_,_,e⟩
  ·have:=f.1;omega
  ·have:=f.2;omega
 have K:Pm 200000 m.c.aY.length ⟨2,n+k⟩:=.inr (.inr ⟨rfl,U⟩);have s:=fun (W:World) (R:Ab (fun _=>False) w W)=>iA a d b B j l o i m p ⟨2,n+k⟩ W (h.i9 R) J X K S T
 have s:∀(W:World),Ab (fun _=>False) w W→Calls Tryz.prog 79 #[.pointer (some ⟨a,0,none⟩),.int .i64 p,.agg #[.int .i64 2,.int .i64 ((n:Int)+(k:Int))]] W fun e r=>e=.returned (.tuple #[])∧TN a d b B j l o i {m with c:=m.c.set p ⟨2,n+k⟩} r∧FR a d b B W r:=s
 have u:=Aa s;have z:=Aa h;have a1:(n:Int)<(m.c.aY.length:Int):=by omega
 have a2:IntKind.i64.wrap ((n:Int)+(k:Int))=(n:Int)+(k:Int):=by rw [IntKind.wrap_i64];omega
 obtain ⟨V,D⟩:∃V,{m with c:=m.c.set p ⟨2,n+k⟩}=V:=⟨_,rfl⟩;rw [D] at u⊢;clear h J v L K F D G s I;go_enter Tryz.func82,Tryz.ntmps82;go_wp2_with fail;refine t.o.mono ?_;rintro e w1 ⟨rfl,y⟩;have C:=z.o.i9 y;have A:=Aa y;obtain ⟨g,cm,r5,lg,lm,E⟩:=C.holds x;obtain ⟨_,_,Y,Z,c2⟩:=E n H;generalize (DB m.c.aY n).nm=N at*;have d1:((N.kind:Int) !=1)=false:=by simp [f.1]
 have d2:((N.aX:Int) !=0)=false:=by simp [f.2]
 clear E y t z C f;go_wp2_with fail;refine (u.o _ (A.o.trans (by repeat (first | exact Ab.refl _ _ | refine Ab.drew ?_ | refine Ab.drewN ?_ _ | refine Ab.alloc ?_ _)))).mono ?_;rintro e w2 ⟨rfl,M,O⟩;have P:=Aa M;have Q:=Aa ((FR.bC (A.o.trans (by repeat (first | exact Ab.refl _ _ | refine Ab.drew ?_ | refine Ab.drewN ?_ _ | refine Ab.alloc ?_ _)))).trans O);clear M O u;go_wp2_with fail;go_end0;exact ⟨rfl,P.o,Q.o⟩
theorem iF{w:World}{B d:Nat}{e b:TypeId}{s p:Nat}{v c:Value}{n m:Nat}{r t:List Value}(h:w.ownsRow B e s v n r)(f:w.ownsRow d b p c m t)(g:e≠b):∀k,v.ownBlock=some k→¬c.ownBlock=some k:=by
 intro k j a;rcases f.2 with ⟨o,_⟩ | ⟨y,u,x,l,_,i,_⟩
 ·rw [o] at a;simp [Value.ownBlock] at a
 ·rw [l] at a;simp [Value.ownBlock] at a;subst a;exact Aj h i (fun q=>g q.symm) _ j rfl
theorem Fe{w:World}{B:Nat}{e:TypeId}{s:Nat}{v:Value}{n:Nat}{i:List Value}(h:w.ownsRow B e s v n i){k:Nat}(a:v.ownBlock=some k):B≤k∧∃b c,w.heap[k]? =some (.cells b e c):=by
 refine ⟨(h.lt k a).1,?_⟩;rcases h.2 with ⟨g,_⟩ | ⟨m,j,l,f,_,d,_⟩
 ·rw [g] at a;simp [Value.ownBlock] at a
 ·rw [f] at a;simp [Value.ownBlock] at a;subst a;exact ⟨_,_,d⟩
theorem I3.push{a i d B r s o p l t v' m n w W b cl}(h:I3 a i d B p r s o m l t n w)(D:Ab (fun _=>False) w W)(E:W.grownBy b l.ownBlock)(x:b.ownsRow B 184 5 v' (m.c.aY.length+1) (nC m.c.aY++lA cl)):
 I3 a i d B p r s o {m with c:={m.c with aY:=m.c.aY++[cl]}} v' t n (b.setCell ⟨a,5,none⟩ v')∧FR a i d B w (b.setCell ⟨a,5,none⟩ v'):=by
 have e:Ab (fun k=>l.ownBlock=some k) w b:=Ab.grown (D.mono (fun _ _ q=>q.elim)) E (fun j G=>.inl G);have hF:FR a i d B w b:=e.mono (fun k _ q=>by obtain ⟨C,z,A,F⟩:=Fe h.aY q;exact .inr (.inr (.inr ⟨C,z,_,A,F,.inl rfl⟩)))
 have g:Ab (fun k=>k=a) b (b.setCell ⟨a,5,none⟩ v'):=(Ab.refl _ _).d8 5 _;have f:Ak a (jC p r s o n l t m.bM i d) 121 b:=h.s9.O e (fun q=>Aj h.aY h.s9 (by decide) a q rfl);have v:=Ac h.e9 e (iF h.e9 h.aY (by decide));have y:=h.cU.O e (fun q=>iJ h.aY h.cU _ q rfl);have u:=h.bN.O e (fun q=>iJ h.aY h.bN _ q rfl);refine ⟨⟨f.set 5 _,h.qV,?_,Ac v g (Aj v f (by decide)),y.O g (y.ne f),u.O g (u.ne f),h.lb,h.ne⟩,hF.trans (g.mono (fun _ _ q=>.inl q))⟩;show (b.setCell ⟨a,5,none⟩ v').ownsRow B _ 5 v' (m.c.aY++[cl]).length (nC (m.c.aY++[cl]));rw [nI,rV];exact Ac x g (Aj x f (by decide))
theorem TN.other{j n e B l o d b f m s t w p}(h:TN j n e B f l o d m w)(a:Ak b s t w)(u:t≠121)(g:t≠184)(i:t≠176)(c:Ab (fun k=>k=b) w p):TN j n e B f l o d m p:=by obtain ⟨x,y,r,h⟩:=h;have v:=h.cP (B':=B) a u g i;exact ⟨x,y,r,⟨h.s9.O c (fun q=>v (.inl q.symm)),h.qV,Ac h.aY c (Aj h.aY a g),Ac h.e9 c (Aj h.e9 a i),h.cU.O c (h.cU.ne a),h.bN.O c (h.bN.ne a),h.lb,h.ne⟩⟩
theorem FR.fresh{f g d B s a b c}(h:FR f g d B a b)(k:Ab (fun k=>k=s) b c)(l:a.heap.size≤s):FR f g d B a c:=by refine ⟨k.os.trans h.os,k.tape.trans h.tape,k.output.trans h.output,rO h.size k.size,fun i e j=>?_⟩;rw [k.block i (rP e h.size) (fun q=>by omega),h.block i e j]
abbrev qN:Array Value:=#[.int .i64 0,.int .i64 0,.int .i64 0,.int .i64 0,.int .i64 0]
theorem Tryz.infoCe:(Tryz.prog.info? 184).map (fun i=>(i.zero,i.size,i.bytes))=some (some (.agg qN),5,40):=by kernel_rfl
theorem nJ(c):∀u∈lA c,u.oneCell'=true:=by intro x a;simp only [lA,List.mem_cons,List.not_mem_nil,or_false] at a;rcases a with rfl | rfl | rfl | rfl | rfl<;>rfl
theorem kT(a g f B:Nat)(l:Value)(n p j:Nat)(m:Mc)(d:Nat)(w:World)(h:TN a g f B l n p j m w)(b7:m.c.aY.length≤200000):
 Calls Tryz.prog 81 #[.pointer (some ⟨a,0,none⟩),.int .i64 d] w fun e X=>e=.returned (.agg #[.int .i64 2,.int .i64 m.c.aY.length])∧TN a g f B l n p j {m with c:=m.c.fields d} X∧FR a g f B w X:=by
 obtain ⟨i0,a4,b2,b3,b4⟩:=info_parts Tryz.infoCe;have G:=Aa h;obtain ⟨S,T,M,s⟩:=h;obtain ⟨m1,m2,m3,rfl⟩:=Ad s.aY;have a6:=Aq s.aY;subst a6;have r:=s.s9.cell 5;have x:=Ae s.s9;simp only [jC,dM,dJ,dK] at r;clear s;go_enter Tryz.func81,Tryz.ntmps81;go_wp2;clear r x;have I:=Aa ((Ab.refl (fun _=>False) w).alloc (.cells #[.int .i64 0,.int .i64 0] 182));have F:=Aa (Ak.new w #[.int .i64 0,.int .i64 0] 182);generalize w.alloc _=W0 at*;go_loopw [12] (fun i wr=>∃k:Nat,k≤4∧i=.int .i64 k∧dN (TN a g f B l n p j {m with c:=m.c.t9 d k} wr)∧dN (Ak w.heap.size #[.int .i64 0,.int .i64 0] 182 wr)∧dN (FR a g f B w wr)) (fun i _=>4-(intOf i).toNat)
 case atStart=>
  have e:m.c.t9 d 0=m.c:=by simp [Co.t9]
  have R:TN a g f B l n p j {m with c:=m.c.t9 d 0} W0:=by rw [e];exact G.o.i9 I.o
  exact ⟨0,by omega,rfl,R,F,FR.bC I.o⟩
 case round=>
  obtain ⟨k,hk,rfl,⟨S,T,M,b⟩,q,N⟩:=hrel;clear G F;by_cases b6:k<4
  ·have C:=nQ m.c d k;obtain ⟨P,b8,Q,rfl⟩:=Ad b.aY;have a7:=Aq b.aY;subst a7;have r:=b.s9.cell 5;have rz:=b.s9.frozen 5;have x:=Ae b.s9;simp only [jC,dM,dJ,dK] at r;have D:=Aa (Aj b.aY b.s9 (by decide));have z:=Aa b;have b5:B≤wr.heap.size:=by have:=b.lb;omega
   have H:=Aa b.aY;have a9:=Aa (mJ m.c d k);clear b;simp only [C] at r H D z;have a5:=Aa C;clear C;go_wp2_with (at_builtin;refine EG _ rfl _ _ 118 rfl B 184 i0 (.agg qN) 5 40 Tryz.underlying118 a4 b2 b3 b4 rfl (by decide) _ _ _ rfl (H.o.alloc _) ⟨wr.heap.size,0,none⟩ 1 1 (lA ⟨⟨1,d,k⟩,Uh⟩) rfl rfl (A5 rfl _ _) (nJ _) (by decide) (by unfold maxLen;omega) (by omega) (by simp;omega) ?_;intro v' y E u a8;have q1:y.cell? ⟨a,5,none⟩=some (.slice P (m.c.aY.length+k) Q):=(rM (u.block a (by simp;omega) (fun h=>D.o a h.symm rfl))).trans (by rw [←r];exact rM (Below.heap_alloc _ _ _ x));have q2:y.frozen? ⟨a,5,none⟩=false:=(rS (u.block a (by simp;omega) (fun h=>D.o a h.symm rfl))).trans (by rw [←rz];exact rS (Below.heap_alloc _ _ _ x));obtain ⟨U,W,V,rfl⟩:=Ad E)
   ·have O:World.grownBy _ y (Value.ownBlock (.slice P (m.c.aY.length+k) Q)):=u;have t:=(fun (o:Ab (fun _=>False) wr _)=>z.o.push (cl:=⟨⟨1,d,k⟩,Uh⟩) (v':=.slice U W V) o O (by simp only [a5.o];exact E)) (by repeat (first | exact Ab.refl _ _ | refine Ab.drew ?_ | refine Ab.drewN ?_ _ | refine Ab.alloc ?_ _));have J:TN a g f B l n p j {m with c:=m.c.t9 d (k+1)} (y.setCell ⟨a,5,none⟩ (.slice U W V)):=by rw [←a9.o];exact ⟨_,_,_,t.1⟩
    have a2:=Aa J;have a0:=Aa (N.o.trans t.2);have Y:=Aa (t.2.s9 ⟨_,_,_,z.o⟩ q.o (by decide) (by decide) (by decide));clear t J E u O a8 q1 q2;go_roundw
    case rel=>exact ⟨k+1,by omega,by go_num,a2,Y,a0⟩
    case measure=>simp [intOf];omega
  ·have e4:k=4:=by omega
   have a3:dN (TN a g f B l n p j {m with c:=m.c.fields d} wr):=by have:TN a g f B l n p j {m with c:=m.c.t9 d k} wr:=⟨S,T,M,b⟩;rw [e4] at this;exact this
   have K:=q.o.cell 0;have L:=q.o.cell 1;have bz:=q.o.frozen;have lb:=Ae q.o;simp only [dM,dJ,dK] at K L;have A:=((Ab.refl (fun k=>k=w.heap.size) wr).d8 0 (.int .i64 2)).d8 1 (.int .i64 m.c.aY.length);have a1:=Aa (a3.o.other q.o (by decide) (by decide) (by decide) A);have Z:=Aa (N.o.fresh A (rN _));clear b A;go_wp2_with fail;refine bodyPost_ret (v:=.agg #[.int .i64 2,.int .i64 m.c.aY.length]) (by simp [results,Tryz.results81,go_sem,K,L]) rfl ⟨rfl,a1.o,Z.o⟩
structure Z7(P:List PFn)(f:PFn)(s:AY):Prop where
 kind:s.kind≤12
 tg:s.kind≠0→s.kind≠10→s.kind≠11→s.kind≠12→s.aQ<f.l8.length
 sr:s.kind=2∨s.kind=3∨s.kind=5∨s.kind=6∨s.kind=8∨s.kind=9∨s.kind=10→s.r9<f.l8.length
 func:s.kind=4∨s.kind=7→s.r9<P.length
 many:s.kind=7→(Ap P s.r9).i8=s.args.length
 args:∀a,a∈s.args→a<f.l8.length
 bA:s.args.length≤4000
 field:s.field≤3
 m9:s.m9≤4000
 next:s.next≤f.b9.length
 taken:s.taken≤f.b9.length
 t5:s.aQ≤5000
 s5:s.r9≤5000
structure Ms(P:List PFn):Prop where
 bA:P.length≤4001
 l8:∀i,(Ap P i).l8.length≤12
 bX:∀i,(Ap P i).i8≤(Ap P i).l8.length
 many:∀i,(Ap P i).b9.length≤4001
 ok:∀i,i<P.length→∀s,s∈(Ap P i).b9→Z7 P (Ap P i) s
structure oJ(P:List PFn)(n:Nat)(f:Ue):Prop where
 fn:f.fn<P.length
 base:f.base+(Ap P f.fn).l8.length≤n
 next:f.next≤(Ap P f.fn).b9.length
def iL(n:Nat):List Ue→Prop
 | []=>True
 | [_]=>True
 | f::g::r=>f.answer<n∧iL n (g::r)
theorem iL.more{n b:Nat}(a:n≤b):∀{l:List Ue},iL n l→iL b l
 | [],_=>trivial
 | [_],_=>trivial
 | _::_::_,h=>⟨rP h.1 a,iL.more a h.2⟩
theorem iL.tail{n:Nat}{f:Ue}:∀{l:List Ue},iL n (f::l)→iL n l
 | [],_=>trivial
 | _::_,h=>h.2
theorem iL.head{n:Nat}{f f':Ue}(e:f'.answer=f.answer):∀{l:List Ue},iL n (f::l)→iL n (f'::l)
 | [],_=>trivial
 | _::_,h=>⟨by rw [e];exact h.1,h.2⟩
theorem oJ.more{P n a f}(h:oJ P n f)(b:n≤a):oJ P a f:=⟨h.fn,rO h.base b,h.next⟩
structure CB(P:List PFn)(n:Nat)(m:Mc):Prop where
 aY:LJ P.length m.c.aY
 qU:iB m.c.aY
 ml:m.c.aY.length+14*n≤140000
 pl:m.c.cU.length+m.c.bN.length+14*n≤140000
 fr:∀f,f∈m.bS→oJ P m.c.aY.length f
 t8:iL m.c.aY.length m.bS
 bJ:m.bS.length≤40
 run:m.bM=1→m.bS≠[]
 bM:m.bM≤4
structure pH(P:List PFn)(n:Nat)(m:Mc):Prop where
 aY:LJ P.length m.c.aY
 qU:iB m.c.aY
 ml:m.c.aY.length+14*n≤140000
 pl:m.c.cU.length+m.c.bN.length+14*n≤140000
theorem CB.rJ{P n m}(h:CB P n m):pH P n m:=⟨h.aY,h.qU,h.ml,h.pl⟩
theorem Lw(c:Co)(a:Nat)(v:Vl):(c.set a v).aY.length=c.aY.length:=by simp [Co.set]
theorem kP(c:Co)(a:Nat)(v:Vl):(c.set a v).cU.length≤c.cU.length+1:=by
 unfold Co.set;simp only;split
 ·simp
 ·split<;>simp
theorem kO(c:Co)(a:Nat)(v:Vl):(c.set a v).bN=c.bN:=rfl
theorem iD(c:Co)(a i:Nat)(v:Vl):(DB (c.set a v).aY i).nm=(DB c.aY i).nm:=jF ⟨c,[],0⟩ a i v
theorem iB.rK{m}(h:∀i,i<m.length→Zc (DB m i).nm):iB m:=fun i a=>by have:=h i a;rw [WM a] at this;exact this
theorem iB.set{c:Co}(h:iB c.aY)(a:Nat)(v:Vl):iB (c.set a v).aY:=iB.rK (fun i b=>by rw [iD];rw [Lw] at b;exact h.at_ b)
theorem iB.app{m l}(h:iB m)(a:∀x,x∈l→Zc x.nm):iB (m++l):=fun i b=>by
 rw [List.getElem_append];split
 ·exact h i (by assumption)
 ·exact a _ (rQ _)
theorem CB.set{P n b m}(h:CB P (n+1) m)(e:b≤n){a v}(d:Pm P.length m.c.aY.length v):CB P b {m with c:=m.c.set a v}:=
 ⟨(iK h.aY d).m,h.qU.set a v,by rw [Lw];have:=h.ml;omega,by have:=h.pl;have:=kP m.c a v;simp only [kO];omega,by rw [Lw];exact h.fr,by rw [Lw];exact h.t8,h.bJ,h.run,h.bM⟩
theorem CB.less{P:List PFn}{n a:Nat}{m:Mc}(h:CB P n m)(b:a≤n):CB P a m:=⟨h.aY,h.qU,by have:=h.ml;omega,by have:=h.pl;omega,h.fr,h.t8,h.bJ,h.run,h.bM⟩
theorem CB.stop{P n k m}(h:CB P n m)(b:1<k)(a:k≤4):CB P n {m with bM:=k}:=⟨h.aY,h.qU,h.ml,h.pl,h.fr,h.t8,h.bJ,fun q=>by simp only at q;omega,a⟩
theorem CB.leave{P n m}(h:CB P (n+1) m){v}(i:Pm P.length m.c.aY.length v):CB P n (KF m v):=by
 obtain ⟨c,b,e⟩:=m;match b with
 | []=>exact h.less (Nat.le_succ n)
 | [f]=> have q:=h.less (Nat.le_succ n);exact ⟨q.aY,q.qU,q.ml,q.pl,(fun f d=>by cases d),trivial,by simp [KF],(fun q=>by simp [KF] at q),by simp [KF]⟩
 | f::g::r=> have q:=h.set (rN n) (a:=f.answer) i;exact ⟨q.aY,q.qU,q.ml,q.pl,fun x j=>q.fr x (rT _ j),q.t8.2,by have:=q.bJ;simp [KF] at this⊢;omega,fun _=>by simp [KF],q.bM⟩
theorem CB.qZ{P n m}(h:CB P n m):CB P n (KF m Uh):=by
 obtain ⟨c,a,e⟩:=m;match a with
 | []=>exact h
 | [f]=>exact ⟨h.aY,h.qU,h.ml,h.pl,(fun f b=>by cases b),trivial,by simp [KF],(fun q=>by simp [KF] at q),by simp [KF]⟩
 | f::g::r=>
   have d:(c.set f.answer Uh).cU=c.cU:=by simp [Co.set,Uh]
   exact ⟨(iK h.aY (gX _ _)).m,h.qU.set _ _,by have:=h.ml;simp only [KF,Lw];exact this,by have:=h.pl;simp only [KF,d,kO];exact this,fun x i=>by simp only [KF,Lw];exact h.fr x (rT _ i),by simp only [KF,Lw];exact h.t8.2,by have:=h.bJ;simp [KF] at this⊢;omega,fun _=>by simp [KF],h.bM⟩
theorem CB.norm{P:List PFn}{n:Nat}:∀(k:Nat) {m:Mc},CB P n m→CB P n (KO P k m)
 | 0,_,h=>h
 | k+1,m,h=>by
   unfold KO;split
   ·split
    ·exact h
    ·split
     ·exact h
     ·exact CB.norm k h.qZ
   ·exact h
theorem mI{P:List PFn}(b:Ms P){c:Co}{f:Nat}(p:f<P.length)(h:iB c.aY)(d:List Vl):iB (c.enter f (Ap P f).l8.length d).aY:=by
 have k:∀(l:List Vl) (a:Nat) (c:Co),iB c.aY→iB (XZ l a c).aY:=by
  intro l;induction l with
  | nil=>intro a c h;exact h
  | cons v l j=>intro a c h;exact j _ _ (h.set a v)
 refine k _ _ _ (h.app (fun x g=>?_));obtain ⟨i,e,rfl⟩:=List.mem_map.1 g;have m:=List.mem_range.1 e;have n:=b.l8 f;have o:=b.bA;exact ⟨by simp,by simp only;omega,by simp only;omega⟩
theorem jG(l):∀(a:Nat) (c:Co),(XZ l a c).bN=c.bN:=by
 induction l with
 | nil=>intro a c;rfl
 | cons v l b=>intro a c;simp only [XZ];rw [b];rfl
theorem jU(l):∀(a:Nat) (c:Co),(XZ l a c).cU.length≤c.cU.length+l.length:=by
 induction l with
 | nil=>intro a c;simp [XZ]
 | cons v l b=> intro a c;simp only [XZ,rW];have d:=b (a+1) (c.set a v);have e:=kP c a v;omega
theorem CB.rB{P}(y:Ms P){n f s m a C}(u:C.aY=m.c.aY)(w:C.cU=m.c.cU)(H:C.bN.length≤m.c.bN.length+1)(h:CB P (n+1) m)(z:f<P.length)(l:∀v,v∈a→Pm P.length m.c.aY.length v)(L:a.length≤12)(o:m.bS=[]∨s<m.c.aY.length):CB P n (UR P ⟨C,m.bS,m.bM⟩ f a s):=by
 obtain ⟨c,G,e⟩:=m;simp only at u w H l o;have b:=h.aY;have d:=h.qU;have B:=h.ml;have D:=h.pl;have i:=h.fr;have j:=h.t8;have E:=h.bJ;have F:=h.bM;simp only at b d B D i j E F;rw [←u] at b d B i j l o;rw [←w] at D;unfold UR;simp only;split
 ·exact ⟨b,d,by simp only;omega,by simp only;omega,i,j,E,fun q=>by simp only at q;omega,by simp⟩
 ·rename_i K;obtain ⟨t,k⟩:=nN b f (Ap P f).l8.length l;have N:=y.l8 f;have A:=t.lo;have M:(C.enter f (Ap P f).l8.length a).cU.length≤C.cU.length+a.length:=jU a C.aY.length (C.l8 f (Ap P f).l8.length);have J:(C.enter f (Ap P f).l8.length a).bN=C.bN:=jG _ _ _;refine ⟨t.m,mI y z d a,by simp only [k];omega,by simp only [J];omega,?_,?_,by simp only [rW];omega,fun _=>by simp,F⟩
  ·intro x p;rcases List.mem_cons.1 p with rfl | p
   ·exact ⟨z,by simp only [k];omega,rR _⟩
   ·exact (i x p).more A
  ·have I:=j.more A;cases G with
   | nil=>trivial
   | cons g r=>
     rcases o with q | q
     ·cases q
     ·exact ⟨by simp only [k];omega,I⟩
theorem CB.enter{P}(a:Ms P){n f ans m args}(h:CB P (n+1) m)(d:f<P.length)(b:∀v,v∈args→Pm P.length m.c.aY.length v)(e:args.length≤12)(c:m.bS=[]∨ans<m.c.aY.length):CB P n (UR P m f args ans):=
 CB.rB a (C:=m.c) rfl rfl (Nat.le_succ _) h d b e c
theorem CB.next{P n k m f r}(h:CB P n m)(e:m.bS=f::r)(g:k≤(Ap P f.fn).b9.length):CB P n {m with bS:={f with next:=k}::r}:=by
 have a:=h.fr;have c:=h.t8;have d:=h.bJ;rw [e] at a c d;refine ⟨h.aY,h.qU,h.ml,h.pl,fun x b=>?_,iL.head (f:=f) (f':={f with next:=k}) rfl c,d,fun _=>by simp,h.bM⟩;rcases List.mem_cons.1 b with rfl | b
 ·have:=a f (by simp);exact ⟨this.fn,this.base,g⟩
 ·exact a x (rT _ b)
theorem oM{k p q f e g c b}(h:iB c.aY)(i:e≤4000)(a:aJ k p q f e g c=some b):iB b.aY:=by
 unfold aJ at a;split at a
 ·cases a;refine iB.set ?_ _ _;refine h.app (fun x d=>?_);simp only [List.mem_cons,List.not_mem_nil,or_false] at d;rcases d with rfl | rfl | rfl | rfl<;>exact ⟨by simp,by simp only;omega,by simp⟩
 ·split at a
  ·cases a;exact h.set _ _
  ·split at a
   ·split at a
    ·cases a;exact h.set _ _
    ·cases a
   ·split at a
    ·cases a;exact h.set _ _
    ·split at a
     ·split at a
      ·cases a;exact h.set _ _
      ·cases a
     ·split at a
      ·cases a;exact h.set _ _
      ·split at a
       ·split at a
        ·cases a;exact h.set _ _
        ·cases a
       ·cases a;exact h
theorem kX{l i}(h:i<l.length):YW l i∈l:=by unfold YW;rw [rU h];exact rQ _
theorem CB.step{P}(j:Ms P){n m f r}(h:CB P (n+1) m)(l:m.bS=f::r)(N:f.next<(Ap P f.fn).b9.length):CB P n (V5 P m):=by
 have D:=h.fr f (by rw [l];simp);have b:=j.ok f.fn D.fn _ (kX N);have U:=D.base;unfold V5;rw [l];simp only;obtain ⟨s,F⟩:∃s,YW (Ap P f.fn).b9 f.next=s:=⟨_,rfl⟩;rw [F] at b⊢;have c:=h.next l b.next;have B:∀v,v∈WH m.c.aY f.base s.args→Pm P.length m.c.aY.length v:=by intro v p;unfold WH at p;obtain ⟨a,g,rfl⟩:=List.mem_map.1 p;have:=b.args a g;exact (h.aY.at_ (by omega)).2
 have A:∀i,(Ap P i).i8=s.args.length→(WH m.c.aY f.base s.args).length≤12:=fun i X=>by simp only [WH,rX];have:=j.bX i;have:=j.l8 i;omega
 split
 ·rename_i t;have:=b.tg (by omega) (by omega) (by omega) (by omega);exact c.enter j (b.func (.inr t)) B (A _ (b.many t)) (.inr (by simp only;omega))
 ·split
  ·rename_i J;have R:=b.tg (by omega) (by omega) (by omega) (by omega);have Y:=b.sr (by omega);split
   ·rename_i M;split
    ·exact (c.less (Nat.le_succ n)).stop (by decide) (by decide)
    ·rename_i V;have p:=(h.aY.at_ (i:=f.base+s.r9) (by omega)).2;have L:(DB m.c.aY (f.base+s.r9)).v.bG<P.length:=by
      rcases p with ⟨q,_⟩ | ⟨_,q⟩ | ⟨q,_⟩
      ·omega
      ·exact q
      ·omega
     exact CB.rB j (m:={m with bS:={f with next:=s.next}::r}) (C:={m.c with bN:=(s.m9,(DB m.c.aY (f.base+s.r9)).v.bG)::m.c.bN}) rfl rfl (by simp) c L B (A _ M.2) (.inr (by show _<m.c.aY.length;omega))
   ·exact (c.less (Nat.le_succ n)).stop (by decide) (by decide)
  ·split
   ·rename_i G;have:=b.sr (by omega);exact c.leave ((h.aY.at_ (by omega)).2)
   ·split
    ·have I:=h.next l (k:=if (Pv m.c.ch).1 then s.taken else s.next) (by split;exact b.taken;exact b.next);have d:=I.less (Nat.le_succ n);exact ⟨d.aY,d.qU,d.ml,d.pl,d.fr,d.t8,d.bJ,d.run,d.bM⟩
    ·split
     ·rename_i w g;rename_i t J G T;by_cases y:s.kind=0
      ·have K:w=m.c:=by rw [y] at g;simpa [aJ] using g.symm
       subst K
       exact c.less (Nat.le_succ n)
      ·have R:=b.tg y (by omega) (by omega) (by omega);have O:∃u,u<m.c.aY.length∧aJ s.kind (f.base+s.aQ) u s.field s.m9 s.r9 m.c=some w:=by
        by_cases H:s.kind=1∨s.kind=4
        ·refine ⟨f.base+s.aQ,by omega,?_⟩;rw [←g];rcases H with e | e<;>simp [aJ,e]
        ·have:=b.sr (by have:=b.kind;omega);exact ⟨f.base+s.r9,by omega,g⟩
       obtain ⟨u,Q,z⟩:=O;have o:=pM h.aY (by omega) Q (fun e=>b.func (.inl e)) (fun _=>b.field) (fun _=>b.m9) z;have E:=o.lo;have W:=o.hi;have F:=o.se;exact ⟨o.m,oM h.qU b.m9 z,by have:=h.ml;simp only;omega,by have:=h.pl;simp only;omega,fun x S=>(c.fr x S).more E,c.t8.more E,c.bJ,c.run,c.bM⟩
     ·exact (c.less (Nat.le_succ n)).stop (by decide) (by decide)
theorem CB.start{P}(c:Ms P){n f ch}(j:n≤5000)(d:f<P.length):pH P (n+1) ⟨⟨[],ch,[],[]⟩,[],1⟩∧CB P n (UR P ⟨⟨[],ch,[],[]⟩,[],1⟩ f [] 0):=by have b:CB P (n+1) ⟨⟨[],ch,[],[]⟩,[],2⟩:=⟨⟨fun i h=>absurd h (Nat.not_lt_zero _),fun i h=>absurd h (Nat.not_lt_zero _)⟩,fun i h=>absurd h (Nat.not_lt_zero _),by simp;omega,by simp;omega,fun x g=>absurd g (List.not_mem_nil),trivial,by simp,fun q=>by simp at q,by simp⟩;have a:=b.enter c (f:=f) (args:=[]) (ans:=0) d (fun v e=>absurd e (List.not_mem_nil)) (by simp) (.inl rfl);refine ⟨⟨b.aY,b.qU,b.ml,b.pl⟩,?_⟩;unfold UR at a⊢;simp only [List.length_nil,show¬(40:Nat)≤0 by omega,if_false] at a⊢;exact ⟨a.aY,a.qU,a.ml,a.pl,a.fr,a.t8,a.bJ,fun _=>by simp,by simp⟩
end Go.Proofs.YtegmjgjkcdbmkaaGreatDoor
