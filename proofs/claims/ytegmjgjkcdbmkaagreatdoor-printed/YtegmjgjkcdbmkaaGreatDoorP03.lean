/- One of the texts of the proof: ClA ClB ClC GrA GrB GrC GrD GrE GrF KlF KlH KlI KlJ KlK KlR. -/
import Derived.Test.YtegmjgjkcdbmkaaGreatDoorS34
import Derived.Test.YtegmjgjkcdbmkaaGreatDoorP02
set_option maxRecDepth 100000
set_option maxHeartbeats 4000000
namespace Go.Proofs.YtegmjgjkcdbmkaaGreatDoor
open Go.RowKit Go.Maps
theorem Ja{f:Oper}{a:Act}{w:World}{c:TypeId}(_:f.guard=none)(x:Operand)(l:f.op=.load c x)(b:Nat)(q:a.eval x=.pointer (some ⟨b,0,none⟩))(e:Array Value)(m:∃d,Tryz.prog.underlying c=some d∧d.isRow=true)(n:Nat)(k:(Tryz.prog.info? c).map (·.size)=some n)(r:e.size=n)(g:Ak b e c w):
 (execOp a.eval f).run Tryz.prog w=.ok (.value (.agg e)) w:=by
 obtain ⟨d,o,i⟩:=m;have h:=run_loadVar_mid (P:=Tryz.prog) w b 0 c e.toList d (fun j v p=>by rw [Nat.zero_add,g.cell j];simpa using p) o i (by rw [k];simp [r])
 unfold execOp;simp only [l,q,Instr.loadAt,Instr.sureAddr,Sem.run_bind,Sem.run_pure,Result.andThen_ok,h]
abbrev IK:Array Value:=#[.slice none 0 0,.slice none 0 0,.slice none 0 0,.slice none 0 0,.slice none 0 0,.slice none 0 0,.slice none 0 0,.slice none 0 0,.slice none 0 0,.slice none 0 0,.slice none 0 0,.slice none 0 0,.slice none 0 0,.slice none 0 0,.slice none 0 0,.slice none 0 0,.slice none 0 0,.slice none 0 0]
def FK(B:Nat)(w:World)(v:Value)(a:List (List ByteArray)):Prop:=∃b:List Value,b.length=a.length∧w.ownsRow B 28 1 v a.length b∧∀i (h:i<b.length) (c:i<a.length),Au B w b[i] a[i]
theorem FK.at{B w v a}(h:FK B w v a):Dj w v a:=by obtain ⟨f,e,d,c⟩:=h;exact ⟨f,e,Ao d (rR _),fun i h b=>Ao (c i h b) (rR _)⟩
theorem FK.quiet{B w b v a}(h:FK B w v a)(k:Ab (fun _=>False) w b):FK B b v a:=by obtain ⟨g,e,f,d⟩:=h;exact ⟨g,e,Ac f k (fun _ _ q=>q),fun i h c=>Ac (d i h c) k (fun _ _ q=>q)⟩
theorem FK.s9{B w l v j b T}{m:Array Value}(h:FK B w v j)(f:Ab (fun k=>k=b) w l)(d:Ak b m T w)(n:T≠28)(o:T≠9):FK B l v j:=by obtain ⟨p,e,g,c⟩:=h;exact ⟨p,e,Ac g f (Aj g d n),fun i h a=>Ac (c i h a) f (Aj (c i h a) d o)⟩
structure JZ(w:World)(pa:Array Value)(vs:List Value)(vl:List (List ByteArray))(fv:Value)(fl:List (List ByteArray))(ev:Value)(el:List (List ByteArray))(wr:World):Prop where
 b0:Ak w.heap.size pa 25 wr
 b1:Ak (w.heap.size+1) IK 33 wr
 b2:Ak (w.heap.size+2) (Fv vs fv ev) 33 wr
 v16:vs.length=16
 v:∀i (h:i<vl.length) (h':i<vs.length),Au w.heap.size wr vs[i] vl[i]
 f:FK w.heap.size wr fv fl
 e:FK w.heap.size wr ev el
 o:Ab (fun _=>False) w wr
 ne:∀k,fv.ownBlock=some k→ev.ownBlock≠some k
theorem JZ.quiet{w g l j f e d c wr m}(h:JZ w g l j f e d c wr)(k:Ab (fun _=>False) wr m):JZ w g l j f e d c m:=
 ⟨h.b0.O k (fun q=>q),h.b1.O k (fun q=>q),h.b2.O k (fun q=>q),h.v16,fun i a b=>Ac (h.v i a b) k (fun _ _ q=>q),h.f.quiet k,h.e.quiet k,h.o.trans k,h.ne⟩
theorem Xp(a:List Value)(c b:Value)(i:Nat)(u:Value)(h:i<a.length):(Fv a c b).setIfInBounds i u=Fv (a.set i u) c b:=by unfold Fv;rw [List.setIfInBounds_toArray,List.set_append_left _ _ h]
theorem JZ.setV{w o p c m j g f wr}(h:JZ w o p c m j g f wr){u:Value}{l:List ByteArray}(r:c.length<16)(n:Au w.heap.size wr u l):JZ w o (p.set c.length u) (c++[l]) m j g f (wr.setCell ⟨w.heap.size+2,c.length,none⟩ u):=by
 have d:=(Ab.refl (fun k=>k=w.heap.size+2) wr).d8 c.length u;refine ⟨h.b0.O d (by omega),h.b1.O d (by omega),?_,by rw [List.length_set];exact h.v16,fun i a b=>?_,h.f.s9 d h.b2 (by decide) (by decide),h.e.s9 d h.b2 (by decide) (by decide),h.o.set_far (by omega),h.ne⟩
 ·have:=h.b2.set c.length u;rw [Xp _ _ _ _ _ (by rw [h.v16];exact r)] at this;exact this
 ·rw [rV] at a;rcases Nat.lt_or_ge i c.length with q | q
  ·rw [List.getElem_append_left q,List.getElem_set_ne (by omega)];have:=h.v i q (by rw [h.v16];omega);exact Ac this d (Aj this h.b2 (by decide))
  ·have e:i=c.length:=by simp only [rW,List.length_nil] at a;omega
   subst e;rw [List.getElem_append_right (rN _),List.getElem_set_self];simp only [Nat.sub_self,List.getElem_cons_zero];exact Ac n d (Aj n h.b2 (by decide))
theorem JZ.form{w m o n f e d b wr}(h:JZ w m o n f e d b wr):(∃a c,f=.slice a e.length c)∧∃a c,d=.slice a b.length c:=by obtain ⟨q,_,g,_⟩:=h.f;obtain ⟨r,_,i,_⟩:=h.e;obtain ⟨a,l,c,rfl⟩:=Ad g;have:=Aq g;subst this;obtain ⟨j,p,k,rfl⟩:=Ad i;have:=Aq i;subst this;exact ⟨⟨a,c,rfl⟩,j,k,rfl⟩
theorem JZ.c16{w e g f a d c b wr}(h:JZ w e g f a d c b wr):wr.cell? ⟨w.heap.size+2,16,none⟩=some a:=by rw [h.b2.cell 16];unfold Fv;rw [dM,List.getElem?_append_right (by rw [h.v16];omega),h.v16];rfl
theorem JZ.c17{w e g f d c a b wr}(h:JZ w e g f d c a b wr):wr.cell? ⟨w.heap.size+2,17,none⟩=some a:=by rw [h.b2.cell 17];unfold Fv;rw [dM,List.getElem?_append_right (by rw [h.v16];omega),h.v16];rfl
theorem LT{wr g:World}{d:Nat}{j:Value}{f:List (List ByteArray)}{c:List Value}{u:Value}{l:List ByteArray}(k:c.length=f.length)(n:∀i (h:i<c.length) (r:i<f.length),Au d wr c[i] f[i])(p:Au d wr u l)
 (m:∀{v:Value} {l:List ByteArray},Au d wr v l→Au d g v l)(o:g.ownsRow d 28 1 j (f.length+1) (c++[u])):FK d g j (f++[l]):=by
 refine ⟨c++[u],by simp [k],by simpa using o,fun i a b=>?_⟩;rw [rV] at a b;rcases Nat.lt_or_ge i c.length with q | q
 ·rw [List.getElem_append_left q,List.getElem_append_left (by omega)];exact m (n i q (by omega))
 ·have e:i=c.length:=by simp only [rW,List.length_nil] at a;omega
  subst e;rw [List.getElem_append_right (rN _),List.getElem_append_right (by omega)];simp only [Nat.sub_self,List.getElem_cons_zero,k];exact m p
theorem JZ.growF{w C t E p j o y wr W n}{g u:Value}{l:List ByteArray}{r:List Value}(h:JZ w C t E p j o y wr)(J:Ab (fun _=>False) wr W)(M:W.grownBy n p.ownBlock)(L:r.length=j.length)(m:wr.ownsRow w.heap.size 28 1 p j.length r)(K:∀i (h:i<r.length) (Q:i<j.length),Au w.heap.size wr r[i] j[i])
 (N:Au w.heap.size wr u l)(A:n.ownsRow w.heap.size 28 1 g (j.length+1) (r++[u]))(z:o.ownBlock=none):JZ w C t E g (j++[l]) o y (n.setCell ⟨w.heap.size+2,16,none⟩ g):=by
 have c:Ab (fun k=>p.ownBlock=some k) wr n:=Ab.grown (J.mono (fun _ _ q=>q.elim)) M (fun k f=>.inl f);have G:=h.b0.O c (fun q=>Aj m h.b0 (by decide) _ q rfl);have H:=h.b1.O c (fun q=>Aj m h.b1 (by decide) _ q rfl);have s:=h.b2.O c (fun q=>Aj m h.b2 (by decide) _ q rfl);have d:=(Ab.refl (fun k=>k=w.heap.size+2) n).d8 16 g;have f:∀{v:Value} {l:List ByteArray},Au w.heap.size wr v l→Au w.heap.size (n.setCell ⟨w.heap.size+2,16,none⟩ g) v l:=fun q=>Ac (Av q c (D6 m (by decide))) d (Aj (Av q c (D6 m (by decide))) s (by decide))
 have x:=h.o.size;have B:=c.size;refine ⟨G.O d (by omega),H.O d (by omega),?_,h.v16,fun i a b=>f (h.v i a b),?_,?_,?_,fun k _ q=>by rw [z] at q;cases q⟩
 ·have:=s.set 16 g;have e:(Fv t p o).setIfInBounds 16 g=Fv t g o:=by unfold Fv;rw [List.setIfInBounds_toArray,List.set_append_right _ _ (by rw [h.v16];omega),h.v16];rfl
  rw [e] at this;exact this
 ·exact LT L K N f (Ac A d (Aj A s (by decide)))
 ·obtain ⟨P,I,O,F⟩:=h.e;have D:=Ac O c (fun k q _=>by rw [z] at q;cases q);exact ⟨P,I,Ac D d (Aj D s (by decide)),fun i a b=>f (F i a b)⟩
 ·refine ⟨d.os.trans (c.os.trans h.o.os),d.tape.trans (c.tape.trans h.o.tape),d.output.trans (c.output.trans h.o.output),rO x (rO B d.size),fun k f _=>?_⟩;rw [d.block k (rP f (rO x B)) (by omega),c.block k (rP f x) (fun q=>by have:=(m.lt k q).1;omega)];exact h.o.block k f (fun q=>q)
theorem JZ.growE{w E t I p A m j wr W o}{d u:Value}{l:List ByteArray}{r:List Value}(h:JZ w E t I p A m j wr)(B:Ab (fun _=>False) wr W)(P:W.grownBy o m.ownBlock)(O:r.length=j.length)(n:wr.ownsRow w.heap.size 28 1 m j.length r)(N:∀i (h:i<r.length) (T:i<j.length),Au w.heap.size wr r[i] j[i])
 (S:Au w.heap.size wr u l)(C:o.ownsRow w.heap.size 28 1 d (j.length+1) (r++[u]))(R:∀k,d.ownBlock=some k→m.ownBlock=some k∨W.heap.size≤k):JZ w E t I p A d (j++[l]) (o.setCell ⟨w.heap.size+2,17,none⟩ d):=by
 have c:Ab (fun k=>m.ownBlock=some k) wr o:=Ab.grown (B.mono (fun _ _ q=>q.elim)) P (fun k g=>.inl g);have K:=h.b0.O c (fun q=>Aj n h.b0 (by decide) _ q rfl);have L:=h.b1.O c (fun q=>Aj n h.b1 (by decide) _ q rfl);have s:=h.b2.O c (fun q=>Aj n h.b2 (by decide) _ q rfl);have f:=(Ab.refl (fun k=>k=w.heap.size+2) o).d8 17 d;have g:∀{v:Value} {l:List ByteArray},Au w.heap.size wr v l→Au w.heap.size (o.setCell ⟨w.heap.size+2,17,none⟩ d) v l:=fun q=>Ac (Av q c (D6 n (by decide))) f (Aj (Av q c (D6 n (by decide))) s (by decide))
 have x:=h.o.size;have D:=c.size;have Q:∀k,p.ownBlock=some k→d.ownBlock≠some k:=fun k q y=>by
  rcases R k y with F | F
  ·exact h.ne k q F
  ·obtain ⟨H,_,z,_⟩:=h.f;have:=(z.lt k q).2;have:=B.size;omega
 refine ⟨K.O f (by omega),L.O f (by omega),?_,h.v16,fun i a b=>g (h.v i a b),?_,?_,?_,Q⟩
 ·have:=s.set 17 d;have e:(Fv t p m).setIfInBounds 17 d=Fv t p d:=by unfold Fv;rw [List.setIfInBounds_toArray,List.set_append_right _ _ (by rw [h.v16];omega),h.v16];rfl
  rw [e] at this;exact this
 ·obtain ⟨H,M,z,J⟩:=h.f;have G:=Ac z c (fun k q y=>h.ne k q y);exact ⟨H,M,Ac G f (Aj G s (by decide)),fun i a b=>g (J i a b)⟩
 ·exact LT O N S g (Ac C f (Aj C s (by decide)))
 ·refine ⟨f.os.trans (c.os.trans h.o.os),f.tape.trans (c.tape.trans h.o.tape),f.output.trans (c.output.trans h.o.output),rO x (rO D f.size),fun k g _=>?_⟩;rw [f.block k (rP g (rO x D)) (by omega),c.block k (rP g x) (fun q=>by have:=(n.lt k q).1;omega)];exact h.o.block k g (fun q=>q)
theorem Tryz.infoSl:(Tryz.prog.info? 28).map (fun i=>(i.zero,i.size,i.bytes))=some (some (.slice none 0 0),1,24):=by kernel_rfl
def Kd(p:Nat→List ByteArray→Prop)(a:List (List ByteArray)):Prop:=∀i (h:i<a.length),p i a[i]
theorem Kd.snoc{p a l}(h:Kd p a)(c:p a.length l):Kd p (a++[l]):=fun i b=>by
 rw [rV] at b;rcases Nat.lt_or_ge i a.length with q | q
 ·rw [List.getElem_append_left q];exact h i q
 ·have e:i=a.length:=by simp only [rW,List.length_nil] at b;omega
  subst e;rw [List.getElem_append_right (rN _)];simpa using c
structure TbP(P:List PFn)(pn cn:Nat)(T:Tb):Prop where
 v:Kd (fun i=>Jo (EF P) ((least P).I (vN (i / 4) (i % 4)))) T.V
 fl:T.F.length=4*pn
 f:Kd (fun i=>Jo (EF P) ((least P).I (pN (i / 4+1) (i % 4)))) T.F
 el:T.E.length=cn
 e:Kd (fun i=>Jo (Ex P) ((least P).E (i+1))) T.E
theorem C9(b:Nat):∀(a:List Value) (o:Nat) (w:World),Ab (fun k=>k=b) w (w.setCells b o a)
 | [],_,w=>Ab.refl _ w
 | v::r,o,w=>((Ab.refl (fun k=>k=b) w).d8 o v).trans (C9 b r (o+1) _)
theorem ItOk.go{w a}(h:ItOk w)(k:Ab (fun _=>False) w a):ItOk a:=fun n W c b=>h n W c (k.trans b)
def ZC(P:List PFn)(g f:Nat)(w:World)(e:Ending)(d:World):Prop:=
 (∃c b a T,e=.returned (.tuple #[.agg (Fv c b a),.bool true])∧Ek d c b a T∧TbP P g f T)∧Ab (fun _=>False) w d
theorem VW(hT:SrtAll)(P:List PFn)(mn p o rp:Nat)(F:ByteArray)(sv:Value)(w:World)(Y:AnHy P mn p o)(h:GH P mn p o rp w)(hI:ItOk w)(c3:∀f v,f<4→v<4→FE P (Kz f) (GA v) 0=some (vN f v))(e9:p≤240)(e4:o≤240)(d8:∃a l c,sv=.slice a l c):
 Calls Tryz.prog 32 #[.pointer (some ⟨rp,0,none⟩),.agg (Vs F sv p o)] w fun e w'=>ZC P p o w e w':=by
 obtain ⟨G,I,H,rfl⟩:=d8;unfold Vs;have HT:=Aa hT;have HY:=Aa Y;have HR:=Aa h;have HI:=Aa hI;have d5:=Aa c3;clear hT Y h hI c3;have g:dN (JZ w #[.string F,.slice G I H,.int .i64 p,.int .i64 o] (List.replicate 16 (.slice none 0 0)) [] (.slice none 0 0) [] (.slice none 0 0) [] (((w.alloc (.cells #[.string F,.slice G I H,.int .i64 p,.int .i64 o] 25)).alloc (.cells IK 33)).alloc (.cells IK 33))):=by
  refine ⟨((Ak.new w _ _).alloc _).alloc _,?_,?_,rfl,fun i h=>by simp at h,⟨[],rfl,World.ownsRow_nil _ _ _ _,fun i h=>by simp at h⟩,⟨[],rfl,World.ownsRow_nil _ _ _ _,fun i h=>by simp at h⟩,(((Ab.refl _ w).alloc _).alloc _).alloc _,fun k q=>by cases q⟩
  ·have:=(Ak.new (w.alloc (.cells #[.string F,.slice G I H,.int .i64 p,.int .i64 o] 25)) IK 33).alloc (.cells IK 33);simpa using this
  ·have:=Ak.new ((w.alloc (.cells #[.string F,.slice G I H,.int .i64 p,.int .i64 o] 25)).alloc (.cells IK 33)) IK 33;simp only [World.size_alloc] at this;exact this
 go_enter Tryz.func32,Tryz.ntmps32;go_wp2_with fail;generalize ((w.alloc (.cells #[.string F,.slice G I H,.int .i64 p,.int .i64 o] 25)).alloc (.cells IK 33)).alloc (.cells IK 33)=W at g⊢;go_loopw [7,8] (fun ok i wr=>ok=.bool true∧∃(f:Nat) (z:List Value) (t:List (List ByteArray)),f≤4∧i=.int .i64 f∧dN (t.length=f*4)∧dN (JZ w #[.string F,.slice G I H,.int .i64 p,.int .i64 o] z t (.slice none 0 0) [] (.slice none 0 0) [] wr)∧dN (Kd (fun i=>Jo (EF P) ((least P).I (vN (i / 4) (i % 4)))) t)) (fun _ i _=>4-(intOf i).toNat)
 case atStart=>exact ⟨rfl,0,_,[],by omega,rfl,rfl,g,fun i h=>by simp at h⟩
 case round=>
  clear g;obtain ⟨rfl,f,z,t,hf,rfl,L,g,y⟩:=hrel;by_cases c5:f<4
  ·have tf:decide ((f:Int)<4)=true:=by simp;omega
   go_wp2_with fail;go_loopw [7,9] (fun ok i wr=>ok=.bool true∧∃(v:Nat) (z:List Value) (t:List (List ByteArray)),v≤4∧i=.int .i64 v∧dN (t.length=f*4+v)∧dN (JZ w #[.string F,.slice G I H,.int .i64 p,.int .i64 o] z t (.slice none 0 0) [] (.slice none 0 0) [] wr)∧dN (Kd (fun i=>Jo (EF P) ((least P).I (vN (i / 4) (i % 4)))) t)) (fun _ i _=>4-(intOf i).toNat)
   case atStart=>exact ⟨rfl,0,z,t,by omega,rfl,L,g,y⟩
   case round=>
    clear g y L;obtain ⟨rfl,v,z,t,hv,rfl,L,g,y⟩:=hrel;by_cases c9:v<4
    ·have tv:decide ((v:Int)<4)=true:=by simp;omega
     go_wp2_with (first
      | (go_at_call 26;refine (Gm _ c5 _).mono ?_;rintro e w' ⟨rfl,X⟩;have X:=X.symm;subst X)
      | (go_at_call 28;refine (Kc _ c9 _).mono ?_;rintro e w' ⟨rfl,X⟩;have X:=X.symm;subst X))
     refine (OD HT.o P mn p o rp wr HY.o (HR.o.i9 g.o.o) (HI.o.go g.o.o) (Kz f) (GA v) (vN f v) (d5.o f v c5 c9)).mono ?_;rintro e w2 ⟨⟨lv,l,rfl,E,S,l2⟩,R⟩;obtain ⟨la,ll,lc,rfl⟩:=Ad E;have r:=Aa (g.o.quiet R);have M:=Aa (Ao E g.o.o.size);have b2:=L.o;have TL:dN (Jo (EF P) ((least P).I (vN (t.length / 4) (t.length % 4))) l):=by show Jo _ _ _;rw [b2,show (f*4+v) / 4=f by omega,show (f*4+v) % 4=v by omega];exact S
     have Q:=Ae r.o.b2;have a0:=r.o.b2.frozen (f*4+v);have U:∃u,w2.cell? ⟨w.heap.size+2,f*4+v,none⟩=some u:=by
      rw [r.o.b2.cell (f*4+v)];have:f*4+v<(Fv z (.slice none 0 0) (.slice none 0 0)).size:=by simp [Fv,r.o.v16];omega
      exact ⟨_,Array.getElem?_eq_getElem this⟩
     obtain ⟨u0,f0⟩:=U;have Z:=Aa (r.o.setV (by omega) M.o);rw [b2] at Z;clear g r M E S l2 R b2;go_wp2_with fail;go_roundw
     case rel=> exact ⟨rfl,v+1,_,t++[l],by omega,by go_num,(by rw [rV,L.o];rfl:(t++[l]).length=f*4+(v+1)),Z,y.o.snoc TL.o⟩
     case measure=>simp [intOf];omega
    ·have tv:decide ((v:Int)<4)=false:=by simp;omega
     go_wp2_with fail;go_roundw
     case rel=>exact ⟨rfl,f+1,z,t,by omega,by go_num,(by rw [L.o];omega:t.length=(f+1)*4),g,y⟩
     case measure=>simp [intOf];omega
  ·have tf:decide ((f:Int)<4)=false:=by simp;omega
   have b5:dN (t.length=16):=by show t.length=16;rw [L.o];omega
   have HV:=y;obtain ⟨i0,c7,d0,d1,d2⟩:=info_parts Tryz.infoSl;clear L y;go_wp2_with fail;go_loopw [7,12] (fun ok i wr=>ok=.bool true∧∃(n:Nat) (C:Value) (s:List (List ByteArray)),n≤p∧i=.int .i64 ((n:Int)+1)∧dN (s.length=n*4)∧dN (JZ w #[.string F,.slice G I H,.int .i64 p,.int .i64 o] z t C s (.slice none 0 0) [] wr)∧dN (Kd (fun i=>Jo (EF P) ((least P).I (pN (i / 4+1) (i % 4)))) s)) (fun _ i _=>p+1-(intOf i).toNat)
   case atStart=>exact ⟨rfl,0,_,[],by omega,rfl,rfl,g,fun i h=>by simp at h⟩
   case round=>
    clear g;obtain ⟨rfl,n,C,s,hn,rfl,K,g,y⟩:=hrel;have p2:=g.o.b0.cell 2;have a9:=Ae g.o.b0;simp only [dM,dJ,dK] at p2;by_cases e7:n<p
    ·have tn:decide ((n:Int)+1≤(p:Int))=true:=by simp;omega
     go_wp2_with fail;go_loopw [7,13] (fun ok i wr=>ok=.bool true∧∃(k:Nat) (C:Value) (s:List (List ByteArray)),k≤4∧i=.int .i64 k∧dN (s.length=n*4+k)∧dN (JZ w #[.string F,.slice G I H,.int .i64 p,.int .i64 o] z t C s (.slice none 0 0) [] wr)∧dN (Kd (fun i=>Jo (EF P) ((least P).I (pN (i / 4+1) (i % 4)))) s)) (fun _ i _=>4-(intOf i).toNat)
     case atStart=>exact ⟨rfl,0,C,s,by omega,rfl,K,g,y⟩
     case round=>
      clear g y K p2 a9;obtain ⟨rfl,k,C,s,hk,rfl,K,g,y⟩:=hrel;by_cases d6:k<4
      ·have tk:decide ((k:Int)<4)=true:=by simp;omega
       go_wp2_with fail;refine (KW HT.o P mn p o rp wr HY.o (HR.o.i9 g.o.o) (HI.o.go g.o.o) (n+1) k (by omega) (by omega) d6).mono ?_;rintro e w2 ⟨⟨lv,l,rfl,E,S,l2⟩,R⟩;obtain ⟨la,ll,lc,rfl⟩:=Ad E;have r:=Aa (g.o.quiet R);have M:=Aa (Ao E g.o.o.size);have c6:=K.o;have e6:s.length≤1000:=by omega
       have TL:dN (Jo (EF P) ((least P).I (pN (s.length / 4+1) (s.length % 4))) l):=by show Jo _ _ _;rw [c6,show (n*4+k) / 4=n by omega,show (n*4+k) % 4=k by omega];exact S
       have Q:=Ae r.o.b2;have a0:=r.o.b2.frozen 16;have U:=r.o.c16;obtain ⟨us,a7,D,a5⟩:=r.o.f;obtain ⟨va,b4,vc,rfl⟩:=Ad D;have a4:=Aa a7;have a3:=Aa a5;have T:=Aa (Aj D r.o.b2 (by decide));have b3:=r.o.o.size;clear g E S l2 R c6 a7 a5;go_wp2_with (at_builtin;refine EG _ rfl _ _ 31 rfl w.heap.size 28 i0 (.slice none 0 0) 1 24 Tryz.underlying31 c7 d0 d1 d2 rfl (by decide) _ _ _ rfl (D.alloc _) ⟨w2.heap.size,0,none⟩ 1 1 [.slice la ll lc] rfl rfl (A5 rfl _ _) (fun x hx=>by simp at hx;subst hx;rfl) (by decide) (by unfold maxLen;omega) (by omega) (by simp;omega) ?_;intro v' w5 V J a8;have q1:w5.cell? ⟨w.heap.size+2,16,none⟩=some (.slice va b4 vc):=(rM (J.block (w.heap.size+2) (by simp;omega) (fun h=>T.o _ h.symm rfl))).trans (by rw [←U];exact rM (Below.heap_alloc _ _ _ Q));have q2:w5.frozen? ⟨w.heap.size+2,16,none⟩=false:=(rS (J.block (w.heap.size+2) (by simp;omega) (fun h=>T.o _ h.symm rfl))).trans (by rw [←a0];exact rS (Below.heap_alloc _ _ _ Q));obtain ⟨d9,e3,e0,rfl⟩:=Ad V);have Z:=Aa (r.o.growF ((Ab.refl _ _).alloc _) J a4.o D a3.o M.o V rfl);clear r M D a4 a3 T V J a8 a0 U Q b3;go_roundw
       case rel=>exact ⟨rfl,k+1,_,s++[l],by omega,by go_num,(by rw [rV,K.o];rfl:(s++[l]).length=n*4+(k+1)),Z,y.o.snoc TL.o⟩
       case measure=>simp [intOf];omega
      ·have tk:decide ((k:Int)<4)=false:=by simp;omega
       go_wp2_with fail;go_roundw
       case rel=>exact ⟨rfl,n+1,C,s,by omega,by go_num,(by rw [K.o];omega:s.length=(n+1)*4),g,y⟩
       case measure=>simp [intOf];omega
    ·have tn:decide ((n:Int)+1≤(p:Int))=false:=by simp;omega
     have b8:dN (s.length=4*p):=by show s.length=4*p;rw [K.o];omega
     have HF:=y;clear K y;go_wp2_with fail;clear p2 a9;go_loopw [7,16] (fun ok i wr=>ok=.bool true∧∃(m:Nat) (ev:Value) (B:List (List ByteArray)),m≤o∧i=.int .i64 ((m:Int)+1)∧dN (B.length=m)∧dN (JZ w #[.string F,.slice G I H,.int .i64 p,.int .i64 o] z t C s ev B wr)∧dN (Kd (fun i=>Jo (Ex P) ((least P).E (i+1))) B)) (fun _ i _=>o+1-(intOf i).toNat)
     case atStart=>exact ⟨rfl,0,_,[],by omega,rfl,rfl,g,fun i h=>by simp at h⟩
     case round=>
      clear g;obtain ⟨rfl,m,ev,B,hm,rfl,b0,g,HE⟩:=hrel;have p3:=g.o.b0.cell 3;have a9:=Ae g.o.b0;simp only [dM,dJ,dK] at p3;by_cases e8:m<o
      ·have tm:decide ((m:Int)+1≤(o:Int))=true:=by simp;omega
       go_wp2_with fail;refine (Ox HT.o P mn p o rp wr HY.o (HR.o.i9 g.o.o) (m+1) (by omega) (by omega)).mono ?_;rintro e w2 ⟨⟨lv,l,rfl,E,S,l2⟩,R⟩;obtain ⟨la,ll,lc,rfl⟩:=Ad E;have r:=Aa (g.o.quiet R);have M:=Aa (Ao E g.o.o.size);have c4:=b0.o;have e5:B.length≤1000:=by omega
       have TL:dN (Jo (Ex P) ((least P).E (B.length+1)) l):=by show Jo _ _ _;rw [c4];exact S
       have Q:=Ae r.o.b2;have a0:=r.o.b2.frozen 17;have U:=r.o.c17;obtain ⟨us,a7,D,a5⟩:=r.o.e;obtain ⟨va,b4,vc,rfl⟩:=Ad D;have a4:=Aa a7;have a3:=Aa a5;have T:=Aa (Aj D r.o.b2 (by decide));have b3:=r.o.o.size;clear g E S l2 R c4 a7 a5 p3 a9;go_wp2_with (at_builtin;refine EG _ rfl _ _ 31 rfl w.heap.size 28 i0 (.slice none 0 0) 1 24 Tryz.underlying31 c7 d0 d1 d2 rfl (by decide) _ _ _ rfl (D.alloc _) ⟨w2.heap.size,0,none⟩ 1 1 [.slice la ll lc] rfl rfl (A5 rfl _ _) (fun x hx=>by simp at hx;subst hx;rfl) (by decide) (by unfold maxLen;omega) (by omega) (by simp;omega) ?_;intro v' w5 V J a8;have q1:w5.cell? ⟨w.heap.size+2,17,none⟩=some (.slice va b4 vc):=(rM (J.block (w.heap.size+2) (by simp;omega) (fun h=>T.o _ h.symm rfl))).trans (by rw [←U];exact rM (Below.heap_alloc _ _ _ Q));have q2:w5.frozen? ⟨w.heap.size+2,17,none⟩=false:=(rS (J.block (w.heap.size+2) (by simp;omega) (fun h=>T.o _ h.symm rfl))).trans (by rw [←a0];exact rS (Below.heap_alloc _ _ _ Q));obtain ⟨d9,e3,e0,rfl⟩:=Ad V);have Z:=Aa (r.o.growE ((Ab.refl _ _).alloc _) J a4.o D a3.o M.o V a8);clear r M D a4 a3 T V J a8 a0 U Q b3;go_roundw
       case rel=>exact ⟨rfl,m+1,_,B++[l],by omega,by go_num,(by rw [rV,b0.o];rfl:(B++[l]).length=m+1),Z,HE.o.snoc TL.o⟩
       case measure=>simp [intOf];omega
      ·have tm:decide ((m:Int)+1≤(o:Int))=false:=by simp;omega
       have b7:dN (B.length=o):=by show B.length=o;rw [b0.o];omega
       have a6:(Fv z C ev).size=18:=by simp [Fv,g.o.v16]
       obtain ⟨A,b1⟩:∃c,Fv z C ev=c:=⟨_,rfl⟩;have B2:=g.o.b2;rw [b1] at a6 B2;have d4:=Aa B2;have b6:=Aa b1;clear B2 b1;have c0:A.all (·.oneCell')=true:=by
        rw [←b6.o];refine all_oneCell_toArray (fun u hu=>?_);rcases List.mem_append.1 hu with q | q
        ·obtain ⟨i,hi,rfl⟩:=List.mem_iff_getElem.1 q;obtain ⟨a,b,c,e⟩:=Ad (g.o.v i (by rw [b5.o,←g.o.v16];exact hi) hi);rw [e];rfl
        ·obtain ⟨⟨a1,c1,e1⟩,a2,c2,e2⟩:=g.o.form;simp only [List.mem_cons,List.not_mem_nil,or_false] at q;rcases q with rfl | rfl
         ·rw [e1];rfl
         ·rw [e2];rfl
       have c8:wr.there (w.heap.size+1) 0 A.size:=fun j hj=>by rw [Nat.zero_add];refine ⟨?_,g.o.b1.frozen j⟩;rw [g.o.b1.cell j,Array.getElem?_eq_getElem (show j<IK.size by rw [a6] at hj;exact hj)];rfl
       have b9:=Aa c8;have d3:=Aa c0;clear c8 c0;go_wp2_with (first
        | (refine J7 rfl (.tmp 6) rfl (w.heap.size+1+1) rfl A a6 d4.o ?_)
        | (refine wpList_store_mid rfl 33 (.tmp 4) (.tmp 98) rfl (w.heap.size+1) 0 A rfl rfl b9.o (by rw [Tryz.infoSets,a6]) d3.o ?_))
       have O:=C9 (w.heap.size+1) A.toList 0 wr;have d7:(loadVar 33 ⟨w.heap.size+1,0,none⟩).run Tryz.prog (wr.setCells (w.heap.size+1) 0 A.toList)=.ok (.agg A) (wr.setCells (w.heap.size+1) 0 A.toList):=by obtain ⟨d,hu,hd⟩:=Tryz.rowSets;have:=run_loadVar_mid (P:=Tryz.prog) (wr.setCells (w.heap.size+1) 0 A.toList) (w.heap.size+1) 0 33 A.toList d (World.rangeAt_setCells_same wr (w.heap.size+1) 0 A.toList (by simpa using b9.o)) hu hd (by rw [Tryz.infoSets];simp [a6]);simpa using this
       refine bodyPost_ret (v:=.tuple #[.agg A,.bool true]) (by rw [results_cell_tmp rfl];simp [asAddr,Result.andThen,d7]) rfl ⟨⟨z,C,ev,⟨t,s,B⟩,by rw [b6.o],⟨g.o.v16,b5.o,fun i N h2=>?_,?_,?_,?_,?_⟩,HV.o,b8.o,HF.o,b7.o,HE.o⟩,?_⟩
       ·have:=g.o.v i h2 N;exact Ao (Ac this O (Aj this g.o.b1 (by decide))) (rR _)
       ·exact (g.o.f.s9 O g.o.b1 (by decide) (by decide)).at
       ·exact (g.o.e.s9 O g.o.b1 (by decide) (by decide)).at
       ·show s.length≤1000;have:=b8.o;omega
       ·show B.length≤1000;have:=b7.o;omega
       ·have N:=g.o.o;refine ⟨O.os.trans N.os,O.tape.trans N.tape,O.output.trans N.output,rO N.size O.size,fun k hk _=>?_⟩;rw [O.block k (rP hk N.size) (by omega)];exact N.block k hk (fun q=>q)
def Ty(a:Array Value):Nat→List Value→Array Value
 | _,[]=>a
 | o,v::r=>Ty (a.setIfInBounds o v) (o+1) r
theorem OH:∀(b:List Value) (o i:Nat) (a:Array Value),o+b.length≤a.size→(Ty a o b)[i]? =if o≤i∧i<o+b.length then b[i-o]? else a[i]?
 | [],o,i,a,_=>by rw [Ty,if_neg (fun q=>by simp only [List.length_nil] at q;omega)]
 | v::r,o,i,a,h=>by
   simp only [rW] at h⊢;rw [Ty,OH r (o+1) i _ (by rw [Array.size_setIfInBounds];omega)];by_cases d:i=o
   ·subst d;rw [if_neg (by omega),if_pos (by omega),Array.getElem?_setIfInBounds_self_of_lt (by omega)];simp
   ·by_cases c:o+1≤i∧i<o+1+r.length
    ·rw [if_pos c,if_pos (by omega),show i-o=(i-(o+1))+1 by omega,dK]
    ·rw [if_neg c,if_neg (by omega),Array.getElem?_setIfInBounds_ne (by omega)]
theorem VV(a b:Array Value)(h:b.size=a.size):Ty b 0 a.toList=a:=by
 apply Array.ext_getElem?;intro i;rw [OH _ _ _ _ (by simp [h])];simp only [rR,true_and,Nat.zero_add,Array.length_toList,Nat.sub_zero,Array.getElem?_toList];split
 ·rfl
 ·rw [Array.getElem?_eq_none (by omega),Array.getElem?_eq_none (by omega)]
theorem Hs{b T}:∀(c:List Value) (o:Nat) (a:Array Value) (w:World),Ak b a T w→Ak b (Ty a o c) T (w.setCells b o c)
 | [],_,_,_,h=>h
 | v::r,o,_,_,h=>Hs r (o+1) _ _ (h.set o v)
theorem IR{b T}{cs a:Array Value}{w:World}(h:Ak b a T w)(c:a.size=cs.size):Ak b cs T (w.setCells b 0 cs.toList):=by have:=Hs cs.toList 0 a w h;rwa [VV cs a c] at this
theorem IS{b T n}{a:Array Value}{w:World}(h:Ak b a T w)(d:a.size=n):w.there b 0 n:=fun j c=>by rw [Nat.zero_add];refine ⟨?_,h.frozen j⟩;rw [h.cell j,Array.getElem?_eq_getElem (by omega)];rfl
theorem Ek.one{w j f d T}(h:Ek w j f d T):∀v,v∈j++[f,d]→v.oneCell'=true:=fun u m=>by
 rcases List.mem_append.1 m with q | q
 ·obtain ⟨i,g,rfl⟩:=List.mem_iff_getElem.1 q;obtain ⟨a,b,c,e⟩:=Ad (h.v i g (by rw [h.t16,←h.v16];exact g));rw [e];rfl
 ·obtain ⟨z,_,n,_⟩:=h.f;obtain ⟨A,_,o,_⟩:=h.e;obtain ⟨p,s,x,k⟩:=Ad n;obtain ⟨r,t,y,l⟩:=Ad o;simp only [List.mem_cons,List.not_mem_nil,or_false] at q;rcases q with rfl | rfl
  ·rw [k];rfl
  ·rw [l];rfl
theorem Dj.s9{w l v j b T}{m:Array Value}(h:Dj w v j)(f:Ab (fun k=>k=b) w l)(d:Ak b m T w)(n:T≠28)(o:T≠9):Dj l v j:=by obtain ⟨p,e,g,c⟩:=h;exact ⟨p,e,Ac g f (Aj g d n),fun i h a=>Ac (c i h a) f (Aj (c i h a) d o)⟩
theorem Ek.s9{w l j e d T b}{m:Array Value}(h:Ek w j e d T)(c:Ab (fun k=>k=b) w l)(a:Ak b m 33 w):Ek l j e d T:=
 ⟨h.v16,h.t16,fun i f g=>Ac (h.v i f g) c (Aj (h.v i f g) a (by decide)),h.f.s9 c a (by decide) (by decide),h.e.s9 c a (by decide) (by decide),h.fl,h.el⟩
theorem Oy{c:Func}{t p u:Tmp}{d:TypeId}(h:c.results=#[.tmp t,.cell p d,.tmp u])(b:Array Value)(P:Program)(w:World):
 (results c b).run P w=((asAddr (b.getD p undef)).run P w).andThen fun a e=>((loadVar d a).run P e).andThen fun v f=>.ok (.tuple #[b.getD t undef,v,b.getD u undef]) f:=by
 simp only [results,h];simp [Sem.run_bind,Result.andThen]
def Cd(a:List Sm):List Sm:=(fsOf a).flatMap (·.2)
def aK(a:List Sm)(w:World)(e:Ending)(f:World):Prop:=
 (∃P g h d c b T,MadeP (fsOf a) 0 0 P∧NmP P∧AnHy P g (DS (Cd a)) (DT (Cd a))∧e=.returned (.tuple #[.pointer (some ⟨h,0,none⟩),.agg (Fv d c b),.bool true])∧Ek f d c b T∧TbP P (DS (Cd a)) (DT (Cd a)) T)∧Ab (fun _=>False) w f
def qM(i:List PFn→Nat→Prop)(a:List Sm)(w:World)(e:Ending)(c:World):Prop:=
 (∃P b g h f d T,i P b∧MadeP (fsOf a) 0 0 P∧NmP P∧AnHy P b (DS (Cd a)) (DT (Cd a))∧e=.returned (.tuple #[.pointer (some ⟨g,0,none⟩),.agg (Fv h f d),.bool true])∧Ek c h f d T∧TbP P (DS (Cd a)) (DT (Cd a)) T∧GH P b (DS (Cd a)) (DT (Cd a)) g c)∧Ab (fun _=>False) w c
structure Nf(B0:Nat)(w00 w:World):Prop where
 fo:Cf B0 w00
 cl:RZ
 sr:SrtAll
 it:ItOk w
 tb:JL w
 tl:0<w.heap.size
 bl:Below B0 w00 w
 sz:B0≤w.heap.size
theorem Nf.go{a c w b}(h:Nf a c w)(k:Ab (fun _=>False) w b):Nf a c b:=
 ⟨h.fo,h.cl,h.sr,h.it.go k,h.tb.O k (fun q=>q) h.tl,rP h.tl k.size,h.bl.trans (k.bL h.sz (fun _ q=>q.elim)),rO h.sz k.size⟩
theorem Pp{d j w}(h:Nf d j w):Calls Tryz.prog 19 #[.string PH] w fun e c=>∃i b f a,e=.returned (.tuple #[.pointer (some ⟨a,0,none⟩),.int .i64 0,.int .i64 0])∧AnHy Nc i b f∧GH Nc i b f a c∧b=1∧Ab (fun _=>False) w c:=by obtain ⟨g,k,l⟩:=Ml d j h.fo PH (by decide) Y6 WW Uf.1 Uf.2.1 Uf.2.2 rfl Zj (fun _ _ _ _=>Yy);refine (Hp h.cl PH Uf.1 Uf.2.1 g k w h.tb h.tl (l w h.bl h.sz)).mono ?_;rintro e c ⟨a,rfl,_,n,m⟩;exact ⟨_,_,_,a,rfl,g.anHy,n,YA,m⟩
structure Z5(s:ByteArray)(ss:List Sm):Prop where
 ok:∀s,s∈ss→s.In
 sz:s.size≤4000
 tk:∃y,Aw s s.size 0 x0=.inr y∧(AH s y).map Wv=Lo (fsOf ss)++[(0,[])]
def qQ(c:List Sm)(P:List PFn)(b:Nat):Prop:=∃a,Pe (fsOf c) a∧GoodP a∧P=Bu fnL a 0 0∧b=vx fnL EA
theorem Mx{m t w}(h:Nf m t w)(s:ByteArray)(a:List Sm)(x:Z5 s a):
 Calls Tryz.prog 19 #[.string s] w fun e l=>∃P k c,e=.returned (.tuple #[.pointer (some ⟨c,0,none⟩),.int .i64 0,.int .i64 0])∧qQ a P k∧MadeP (fsOf a) 0 0 P∧NmP P∧AnHy P k (DS (Cd a)) (DT (Cd a))∧GH P k (DS (Cd a)) (DT (Cd a)) c l∧Ab (fun _=>False) w l:=by
 obtain ⟨n,i,y,z,B⟩:=x;obtain ⟨d,G,g,b,u,v⟩:=TT m t h.fo s a n i y z B;have A:DU d=fnL:=(LS g).1;have D:∀q,q∈fsOf a→∀s,s∈q.2→s.In:=fun q p s i=>by unfold fsOf at p;obtain ⟨f,_,rfl⟩:=List.mem_map.1 p;exact n s (List.mem_filter.1 i).1
 obtain ⟨F,r⟩:=KT 0 0 D g;simp only [Nat.zero_add] at r;have j:=b.anHy;have o:=b.dA;refine (Hp h.cl s d G b u w h.tb h.tl (v w h.bl h.sz)).mono ?_;rw [A] at j o⊢;rw [r] at j⊢;rintro e l ⟨c,rfl,_,E,C⟩;exact ⟨_,_,c,rfl,⟨d,g,b,rfl,rfl⟩,F,o,j,E,C⟩
theorem Jo.aY{f:Nat→ByteArray}{m:Nat→Prop}{l:List ByteArray}(h:Jo f m l){s:ByteArray}:s∈l↔∃x,m x∧s=f x:=by obtain ⟨_,n,_,i,k⟩:=h;rw [k.mem_iff,List.mem_map];exact ⟨fun ⟨x,g,e⟩=>⟨x,(i x).1 g,e.symm⟩,fun ⟨x,g,e⟩=>⟨x,(i x).2 g,e.symm⟩⟩
section
variable {a : List Sm} {P : List PFn} (M : MadeP (fsOf a) 0 0 P) {j c d : Nat} (N : NmP P) (Y : AnHy P j c d)
include M
theorem Ip:P.length=4:=by rw [M.len,Ic]
theorem Wg{f v:Nat}(k:f<4)(l:v<4):EF P (vN f v)=GD f v:=by
 obtain ⟨h,i,_⟩:=Fu M k;have e:ON (vN f v)=⟨0,f,v⟩:=by unfold ON CD vN;rw [if_pos (by omega)];simp only;rw [show (f*12+v) / 12=f by omega,show (f*12+v) % 12=v by omega]
 have g:QE P f v=GA v:=by
  unfold QE;rw [i];have:v=0∨v=1∨v=2∨v=3:=by omega
  rcases this with rfl | rfl | rfl | rfl<;>rfl
 unfold EF GQ GD;rw [e];simp only [show¬(0:Nat)=1 by omega,show¬(0:Nat)=2 by omega,if_false];rw [h,g];apply ByteArray.ext;apply Array.ext';simp
omit M in
theorem OQ{n k:Nat}(g:1≤n)(f:k<4):EF P (pN n k)=EX n k:=by
 have e:ON (pN n k)=⟨1,n,k⟩:=by unfold ON CD pN;rw [if_neg (by omega),if_neg (by omega)];simp only;rw [show (156+(n-1)*4+k-156) / 4+1=n by omega,show (156+(n-1)*4+k-156) % 4=k by omega]
 unfold EF GQ EX JR;rw [e];apply ByteArray.ext;apply Array.ext';simp
theorem Yh{g:Nat}(h:g<4):EF P (fN g)=Yu g:=by
 obtain ⟨f,_⟩:=Fu M h;have e:ON (fN g)=⟨2,g,0⟩:=by unfold ON CD fN;rw [if_neg (by omega),if_pos (by omega)];simp only;rw [show 144+g-144=g by omega]
 unfold EF GQ Yu;rw [e];simp only [show¬(2:Nat)=1 by omega,if_false,if_true];rw [f];apply ByteArray.ext;apply Array.ext';simp
omit M in
theorem We{n k:Nat}(f:1≤n)(g:n≤c)(e:k<4):EM P c (pN n k):=.inl (.inr ⟨n,k,f,g,e,rfl⟩)
include N Y
variable {T : Tb} (B : TbP P c d T) (b : T.V.length = 16)
include B b
omit M N Y in
theorem QB{f v:Nat}(g:f<4)(h:v<4){s:ByteArray}:s∈FD T f v↔∃t,(least P).I (vN f v) t∧s=EF P t:=by
 have e:f*4+v<T.V.length:=by omega
 have:=B.v (f*4+v) e;dsimp only at this;rw [show (f*4+v) / 4=f by omega,show (f*4+v) % 4=v by omega] at this;unfold FD;rw [rU e];exact this.aY
omit M N Y in
theorem RP{f v t:Nat}(e:f<4)(g:v<4)(h:(least P).I (vN f v) t):FY (FD T f v) (EF P t)=true:=Ih.2 ((QB B b e g).2 ⟨t,h,rfl⟩)
omit M N Y in
theorem OT{f v e g:Nat}(i:f<4)(n:v<4)(k:e<4)(o:g<4)(h:(least P).F (vN f v) (vN e g)):Fj (FD T f v) (FD T e g)=true:=by
 refine Lj.2 fun s l=>?_
 obtain ⟨t,m,rfl⟩:=(QB B b i n).1 l;exact (QB B b k o).2 ⟨t,(CU P).flow _ _ _ h m,rfl⟩
omit M N Y in
theorem Zl{f v i:Nat}(g:i<T.F.length)(e:f<4)(m:v<4)(h:(least P).F (pN (i / 4+1) (i % 4)) (vN f v)):Fj T.F[i] (FD T f v)=true:=by
 refine Lj.2 fun s k=>?_
 obtain ⟨t,l,rfl⟩:=(B.f i g).aY.1 k;exact (QB B b e m).2 ⟨t,(CU P).flow _ _ _ h l,rfl⟩
omit M N Y in
theorem ZK{f v i:Nat}(g:i<T.F.length)(e:f<4)(m:v<4)(h:(least P).F (vN f v) (pN (i / 4+1) (i % 4))):Fj (FD T f v) T.F[i]=true:=by
 refine Lj.2 fun s k=>?_
 obtain ⟨t,l,rfl⟩:=(QB B b e m).1 k;exact (B.f i g).aY.2 ⟨t,(CU P).flow _ _ _ h l,rfl⟩
end
theorem Ga:∀{l:List Sm} {f e:Nat} {x:Sm×Nat},x∈Ch l f e→x.1∈l∧x.2≤f+e+l.length∧(x.1.kind=0∨x.1.kind=8→1≤x.2)
 | [],_,_,_,h=>by cases h
 | s::l,f,e,x,h=>by
   rw [Ch] at h;rcases List.mem_cons.1 h with rfl | q
   ·refine ⟨List.mem_cons_self,?_,fun q=>?_⟩
    ·simp only [rW];split
     ·omega
     ·split<;>omega
    ·simp only at q⊢;split
     ·omega
     ·split
      ·omega
      ·omega
   ·obtain ⟨i,g,k⟩:=Ga q;refine ⟨rT _ i,?_,k⟩;simp only [rW];split at g<;>split at g<;>omega
theorem L7:∀(e:List (Nat×List Sm)) (k f:Nat) (x:Sm×Nat),x∈Ch (e.flatMap (·.2)) k f→∃i,∃h:i<e.length,x∈Ch (e[i]).2 (k+DS ((e.take i).flatMap (·.2))) (f+DT ((e.take i).flatMap (·.2)))
 | [],_,_,_,h=>by cases h
 | q::e,k,f,x,h=>by
   rw [List.flatMap_cons,It] at h;rcases List.mem_append.1 h with g | g
   ·exact ⟨0,by simp,by simpa [DS,DT] using g⟩
   ·obtain ⟨i,l,m⟩:=L7 e _ _ x g;refine ⟨i+1,by simpa using l,?_⟩;simp only [List.getElem_cons_succ,List.take_succ_cons,List.flatMap_cons,QZ,Q4];rw [←Nat.add_assoc,←Nat.add_assoc];exact m
theorem L3{a:List Sm}{P:List PFn}(M:MadeP (fsOf a) 0 0 P){x:Sm×Nat}(h:x∈Ch (Cd a) 0 0):∃r,Ly P r∧r.f=x.1.aW∧Mt x.1 x.2 r.s:=by
 obtain ⟨i,k,l⟩:=L7 (fsOf a) 0 0 x h;obtain ⟨_,_,_,n⟩:=M.at_ i k;obtain ⟨u,o,m⟩:=n.back x l;have f:=(Ga l).1;have e:((fsOf a)[i]).2=a.filter fun s=>s.aW==i:=by simp [fsOf]
 rw [e] at f;have g:=(List.mem_filter.1 f).2;simp only [beq_iff_eq] at g;refine ⟨⟨i,u⟩,⟨?_,o⟩,g.symm,m⟩;show i<P.length;rw [M.len];exact k
section
variable {a : List Sm} {P : List PFn} (M : MadeP (fsOf a) 0 0 P) {g d b : Nat} (N : NmP P) (Y : AnHy P g d b) {T : Tb} (B : TbP P d b T) (e : T.V.length = 16) (c : ∀ s, s ∈ a → s.In)
include c
theorem Qa{s:Sm}(h:s∈Cd a):s.In:=by unfold Cd at h;obtain ⟨q,i,j⟩:=List.mem_flatMap.1 h;unfold fsOf at i;obtain ⟨f,_,rfl⟩:=List.mem_map.1 i;exact c s (List.mem_filter.1 j).1
include M B e
include N Y
end
structure eE(T U:Tb):Prop where
 fl:T.F.length≤U.F.length
 el:T.E.length≤U.E.length
 v:∀f v,f<4→v<4→Fj (FD T f v) (FD U f v)=true
 f:∀i (h:i<T.F.length) (h':i<U.F.length),Fj T.F[i] U.F[i]=true
 e:∀i (h:i<T.E.length) (h':i<U.E.length),Fj T.E[i] U.E[i]=true
structure fG(w:World)(cs ds:Array Value)(wr:World):Prop where
 b0:Ak w.heap.size cs 33 wr
 b1:Ak (w.heap.size+1) ds 33 wr
 o:Ab (fun _=>False) w wr
theorem fG.go{w a b wr c}(h:fG w a b wr)(k:Ab (fun _=>False) wr c):fG w a b c:=⟨h.b0.O k (fun q=>q),h.b1.O k (fun q=>q),h.o.trans k⟩
theorem eF(vs us:List Value)(Z X Y V:Value)(T U:Tb)(w:World)(h:Ek w vs Z X T)(k:Ek w us Y V U)(R:eE T U):
 Calls Tryz.prog 15 #[.agg (Fv vs Z X),.agg (Fv us Y V)] w fun e w'=>e=.returned (.bool true)∧Ab (fun _=>False) w w':=by
 have HS:=Aa h;have HU:=Aa k;have S:=Aa R;obtain ⟨fa,fc,O,f2⟩:=h.fld;obtain ⟨ea,ec,N,e2⟩:=h.bN;obtain ⟨ga,gc,P,g2⟩:=k.fld;obtain ⟨ha,hc,Q,h2⟩:=k.bN;have b1:=R.fl;have b0:=R.el;have b9:=k.fl;have b8:=k.el;obtain ⟨C,a8⟩:∃n,T.F.length=n:=⟨_,rfl⟩;obtain ⟨B,a7⟩:∃n,T.E.length=n:=⟨_,rfl⟩;obtain ⟨mF,a6⟩:∃n,U.F.length=n:=⟨_,rfl⟩;obtain ⟨mE,a5⟩:∃n,U.E.length=n:=⟨_,rfl⟩;have F2:=Aa f2;have E2:=Aa e2;have G2:=Aa g2;have H2:=Aa h2;rw [a8] at b1 O;rw [a7] at b0 N;rw [a6] at b1 b9 P;rw [a5] at b0 b8 Q;obtain ⟨o,a0⟩:∃c,Fv vs Z X=c:=⟨_,rfl⟩;obtain ⟨q,a3⟩:∃c,Fv us Y V=c:=⟨_,rfl⟩;rw [a0] at O N⊢;rw [a3] at P Q⊢;have b2:=Aa a0;have b3:=Aa a3;have F1:=Aa O;have E1:=Aa N;have G1:=Aa P;have H1:=Aa Q;have b7:=Aa a8;have b6:=Aa a7;have b5:=Aa a6;have b4:=Aa a5;clear h k R f2 e2 g2 h2 a0 a3 O N P Q a8 a7 a6 a5;have a:dN (fG w o q ((w.alloc (.cells o 33)).alloc (.cells q 33))):=by refine ⟨(Ak.new w o _).alloc _,?_,((Ab.refl _ w).alloc _).alloc _⟩;have:=Ak.new (w.alloc (.cells o 33)) q 33;simpa using this
 go_enter Tryz.func15,Tryz.ntmps15;go_upto_region 1 with fail;generalize (w.alloc (.cells o 33)).alloc (.cells q 33)=W at a⊢;have r:=Ae a.o.b0;have s:=Ae a.o.b1;have z:=a.o.b0.cell 16;have F:=a.o.b0.cell 17;have A:=a.o.b1.cell 16;have G:=a.o.b1.cell 17;rw [F1.o] at z;rw [E1.o] at F;rw [G1.o] at A;rw [H1.o] at G;have t1:decide ((mF:Int)<(C:Int))=false:=by simp;omega
 have t2:decide ((mE:Int)<(B:Int))=false:=by simp;omega
 go_wp2_with fail;clear r s z F A G;go_loopw [5] (fun i wr=>∃(f:Nat),f≤4∧i=.int .i64 f∧dN (fG w o q wr)) (fun i _=>4-(intOf i).toNat)
 case atStart=>exact ⟨0,by omega,rfl,a⟩
 case round=>
  clear a;obtain ⟨f,hf,rfl,a⟩:=hrel;by_cases a4:f<4
  ·have tf:decide ((f:Int)<4)=true:=by simp;omega
   go_wp2_with fail;go_loopw [6] (fun i wr=>∃(v:Nat),v≤4∧i=.int .i64 v∧dN (fG w o q wr)) (fun i _=>4-(intOf i).toNat)
   case atStart=>exact ⟨0,by omega,rfl,a⟩
   case round=>
    clear a;obtain ⟨v,hv,rfl,a⟩:=hrel;by_cases a9:v<4
    ·have tv:decide ((v:Int)<4)=true:=by simp;omega
     have r:=Ae a.o.b0;have s:=Ae a.o.b1;obtain ⟨a1,x1,p1,s1⟩:=(HS.o.i9 a.o.o).var a4 a9;obtain ⟨a2,x2,p2,s2⟩:=(HU.o.i9 a.o.o).var a4 a9;have q1:=a.o.b0.cell (f*4+v);have q2:=a.o.b1.cell (f*4+v);rw [←b2.o,p1] at q1;rw [←b3.o,p2] at q2;have S1:=Aa s1;have S2:=Aa s2;have m:=Aa (S.o.v f v a4 a9);clear p1 p2 s1 s2;go_wp2_with fail;go_quiet ((go_at_call 18;exact Calls.quiet_of_same (Ev 0 _ _ _ _ _ S1.o S2.o)));rw [m.o];have p:=Aa (a.o.go ((Ab.refl _ wr).drewN nq));generalize wr.drewN nq=w1 at p⊢;clear a r s q1 q2 S1 S2 m;go_wp2_with fail;go_roundw
     case rel=>exact ⟨v+1,by omega,by go_num,p⟩
     case measure=>simp [intOf];omega
    ·have tv:decide ((v:Int)<4)=false:=by simp;omega
     go_wp2_with fail;go_roundw
     case rel=>exact ⟨f+1,by omega,by go_num,a⟩
     case measure=>simp [intOf];omega
  ·have tf:decide ((f:Int)<4)=false:=by simp;omega
   go_wp2_with fail;go_loopw [8] (fun i wr=>∃(J:Nat),J≤C∧i=.int .i64 J∧dN (fG w o q wr)) (fun i _=>C-(intOf i).toNat)
   case atStart=>exact ⟨0,by omega,rfl,a⟩
   case round=>
    clear a;obtain ⟨i,hi,rfl,a⟩:=hrel;have r:=Ae a.o.b0;have s:=Ae a.o.b1;have z:=a.o.b0.cell 16;have A:=a.o.b1.cell 16;rw [F1.o] at z;rw [G1.o] at A;by_cases c1:i<C
    ·have ti:decide ((i:Int)<(C:Int))=true:=by simp;omega
     have t:i<T.F.length:=by rw [b7.o];exact c1
     have u:i<U.F.length:=by rw [b5.o];omega
     obtain ⟨g,b,d,rfl,K,y2,x⟩:=(F2.o.i9 a.o.o).get t;obtain ⟨g',b',d',rfl,M,z2,y⟩:=(G2.o.i9 a.o.o).get u;have hm:i<mF:=by omega
     have m:=Aa (S.o.f i t u);obtain ⟨L,H⟩:∃l,T.F[i]=l:=⟨_,rfl⟩;obtain ⟨L2,I⟩:∃l,U.F[i]=l:=⟨_,rfl⟩;rw [H] at K x m;rw [I] at M y m;have D:=Aa x;have E:=Aa y;clear x y H I t u;go_wp2_with fail;go_quiet ((go_at_call 18;exact Calls.quiet_of_same (Ev 0 _ _ _ _ _ D.o E.o)));rw [m.o];have p:=Aa (a.o.go ((Ab.refl _ wr).drewN nq));generalize wr.drewN nq=w1 at p⊢;clear a r s z A D E m K y2 M z2;go_wp2_with fail;go_roundw
     case rel=>exact ⟨i+1,by omega,by go_num,p⟩
     case measure=>simp [intOf];omega
    ·have ti:decide ((i:Int)<(C:Int))=false:=by simp;omega
     go_wp2_with fail;clear r s z A;go_loopw [10] (fun j wr=>∃(J:Nat),J≤B∧j=.int .i64 J∧dN (fG w o q wr)) (fun j _=>B-(intOf j).toNat)
     case atStart=>exact ⟨0,by omega,rfl,a⟩
     case round=>
      clear a;obtain ⟨j,hj,rfl,a⟩:=hrel;have r:=Ae a.o.b0;have s:=Ae a.o.b1;have F:=a.o.b0.cell 17;have G:=a.o.b1.cell 17;rw [E1.o] at F;rw [H1.o] at G;by_cases c0:j<B
      ·have tj:decide ((j:Int)<(B:Int))=true:=by simp;omega
       have t:j<T.E.length:=by rw [b6.o];exact c0
       have u:j<U.E.length:=by rw [b4.o];omega
       obtain ⟨g,b,d,rfl,K,y2,x⟩:=(E2.o.i9 a.o.o).get t;obtain ⟨g',b',d',rfl,M,z2,y⟩:=(H2.o.i9 a.o.o).get u;have hm:j<mE:=by omega
       have m:=Aa (S.o.e j t u);obtain ⟨L,H⟩:∃l,T.E[j]=l:=⟨_,rfl⟩;obtain ⟨L2,I⟩:∃l,U.E[j]=l:=⟨_,rfl⟩;rw [H] at K x m;rw [I] at M y m;have D:=Aa x;have E:=Aa y;clear x y H I t u;go_wp2_with fail;go_quiet ((go_at_call 18;exact Calls.quiet_of_same (Ev 0 _ _ _ _ _ D.o E.o)));rw [m.o];have p:=Aa (a.o.go ((Ab.refl _ wr).drewN nq));generalize wr.drewN nq=w1 at p⊢;clear a r s F G D E m K y2 M z2;go_wp2_with fail;go_roundw
       case rel=>exact ⟨j+1,by omega,by go_num,p⟩
       case measure=>simp [intOf];omega
      ·have tj:decide ((j:Int)<(B:Int))=false:=by simp;omega
       go_wp2_with fail;go_ret;exact ⟨rfl,a.o.o⟩
theorem dQ{d:List Sm}{P:List PFn}(M:MadeP (fsOf d) 0 0 P){r:Rl}(h:Ly P r):(r.s.kind=0∨r.s.kind=11∨r.s.kind=12)∨∃x,x∈Ch (Cd d) 0 0∧x.1.aW=r.f∧Mt x.1 x.2 r.s:=by
 have t:=Ip M;have l:r.f<4:=by have:=h.1;omega
 have b:r.f<(fsOf d).length:=by rw [Ic];exact l
 obtain ⟨_,_,_,n⟩:=M.at_ r.f b;rcases n.of r.s h.2 with q | ⟨x,c,m⟩
 ·exact .inl q
 ·refine .inr ⟨x,?_,?_,m⟩
  ·have p:∀(a:List (Nat×List Sm)) (g f i:Nat) (b:i<a.length),x∈Ch (a[i]).2 (g+DS ((a.take i).flatMap (·.2))) (f+DT ((a.take i).flatMap (·.2)))→x∈Ch (a.flatMap (·.2)) g f:=by
    intro a;induction a with
    | nil=>intro g f i b;simp at b
    | cons q a o=>
      intro g f i b c;rw [List.flatMap_cons,It];rcases i with _ | i
      ·exact List.mem_append_left _ (by simpa [DS,DT] using c)
      ·refine List.mem_append_right _ (o _ _ i (by simpa using b) ?_);simp only [List.getElem_cons_succ,List.take_succ_cons,List.flatMap_cons,QZ,Q4] at c;rw [←Nat.add_assoc,←Nat.add_assoc] at c;exact c
   exact p (fsOf d) 0 0 r.f b c
  ·have j:=(Ga c).1;have e:((fsOf d)[r.f]).2=d.filter fun s=>s.aW==r.f:=by simp [fsOf]
   rw [e] at j;have k:=(List.mem_filter.1 j).2;simpa using k
theorem eB{s c:Sm}{n:Nat}{u d:AY}(h:Mt s n u)(b:Mt c n d)(x:s.kind≤9)(j:c.kind=s.kind)(k:c.p=s.p)(l:c.q=s.q)(m:c.g=s.g)(o:c.k=s.k)(p:c.args=s.args):
 d.kind=u.kind∧(u.kind≠10→d.aQ=u.aQ)∧(u.kind≠1→d.r9=u.r9)∧(u.kind=3→d.field=u.field)∧(u.kind=1∨u.kind=8→d.m9=u.m9)∧(u.kind=7∨u.kind=8→d.args=u.args):=by
 have a:=h.kd;have i:=b.kd;rw [j] at i;have g:s.kind=0∨s.kind=1∨s.kind=2∨s.kind=3∨s.kind=4∨s.kind=5∨s.kind=6∨s.kind=7∨s.kind=8∨s.kind=9:=by omega
 refine ⟨i.trans a.symm,fun q=>?_,fun q=>?_,fun q=>?_,fun q=>?_,fun q=>?_⟩
 ·have v:s.kind≤8:=by
   rcases Nat.lt_or_ge 8 s.kind with r | r
   ·have:s.kind=9:=by omega
    rw [this] at a;exact absurd a q
   ·exact r
  rw [b.tg (by omega),h.tg v,k]
 ·by_cases t:s.kind=2∨s.kind=7
  ·rw [b.sf (by omega),h.sf t,m]
  ·have w:s.kind≠0:=fun r=>by rw [r] at a;exact q a
   rw [b.sr (by omega),h.sr (by omega),l]
 ·have f:s.kind=4:=by rcases g with e | e | e | e | e | e | e | e | e | e<;>rw [e] at a<;>simp only [kM] at a<;>omega
  rw [b.fd (by omega),h.fd f,o]
 ·have f:s.kind=0∨s.kind=8:=by rcases g with e | e | e | e | e | e | e | e | e | e<;>rw [e] at a<;>simp only [kM] at a<;>omega
  rw [b.nm (by omega),h.nm f]
 ·have f:s.kind=7∨s.kind=8:=by rcases g with e | e | e | e | e | e | e | e | e | e<;>rw [e] at a<;>simp only [kM] at a<;>omega
  rw [b.ar (by omega),h.ar f,p]
structure SmS(x y:Sm×Nat):Prop where
 n:y.2=x.2
 aW:y.1.aW=x.1.aW
 kind:y.1.kind=x.1.kind
 p:y.1.p=x.1.p
 q:y.1.q=x.1.q
 g:y.1.g=x.1.g
 k:y.1.k=x.1.k
 args:y.1.args=x.1.args
section
variable {l m : List Sm} {P Q : List PFn} (M : MadeP (fsOf l) 0 0 P) (c : MadeP (fsOf m) 0 0 Q) (d : ∀ s, s ∈ l → s.In) (j : ∀ x, x ∈ Ch (Cd l) 0 0 → ∃ y, y ∈ Ch (Cd m) 0 0 ∧ SmS x y)
include M c d j
theorem dP{r:Rl}(h:Ly P r):(r.s.kind=0∨r.s.kind=11∨r.s.kind=12)∨∃a,Ly Q a∧a.f=r.f∧a.s.kind=r.s.kind∧(r.s.kind≠10→a.s.aQ=r.s.aQ)∧(r.s.kind≠1→a.s.r9=r.s.r9)∧(r.s.kind=3→a.s.field=r.s.field)∧(r.s.kind=1∨r.s.kind=8→a.s.m9=r.s.m9)∧(r.s.kind=7∨r.s.kind=8→a.s.args=r.s.args):=by
 rcases dQ M h with q | ⟨x,f,i,k⟩
 ·exact .inl q
 ·obtain ⟨y,o,e⟩:=j x f;obtain ⟨a,n,g,b⟩:=L3 c o;rw [e.n] at b;have:=eB k b (Qa d (Ga f).1).ok.kind e.kind e.p e.q e.g e.k e.args;exact .inr ⟨a,n,by rw [g,e.aW,i],this⟩
omit d j in
theorem dY(f:Nat):(Ap P f).i8=(Ap Q f).i8:=by
 rcases Nat.lt_or_ge f 4 with h | h
 ·rw [(Fu M h).2.2,(Fu c h).2.2]
 ·have a:P[f]? =none:=List.getElem?_eq_none (by rw [Ip M];exact h);have b:Q[f]? =none:=List.getElem?_eq_none (by rw [Ip c];exact h);unfold Ap;rw [a,b]
theorem eC{g x:Nat}(h:Ey P g x):Ey Q g x:=by
 obtain ⟨s,a,e,rfl⟩:=h;have n:g<P.length:=by
  rcases Nat.lt_or_ge g P.length with q | q
  ·exact q
  ·unfold Ap at a;rw [List.getElem?_eq_none q] at a;cases a
 rcases dP M c d j (r:=⟨g,s⟩) ⟨n,a⟩ with q | ⟨f,o,b,k,_,i,_⟩
 ·simp only [e] at q;omega
 ·simp only [e] at k i;have b:f.f=g:=b;exact ⟨f.s,by rw [←b];exact o.2,k,by rw [i (by omega)]⟩
theorem dT{r b:Rl}{g:Nat}{S:Sy}(e:b.f=r.f)(k:b.s.aQ=r.s.aQ)(f:b.s.args=r.s.args)(h:DY Q b g S):DY P r g S:=by
 refine ⟨fun i a q=>?_,fun x q=>?_⟩
 ·have:=h.1 i a (by rw [f];exact q);rwa [e] at this
 ·have:=h.2 x (eC M c d j q);unfold Rl.tg at this⊢;rwa [e,k] at this
theorem dZ{S:Sy}(C:XW Q S):XW P S:=by
 refine ⟨C.flow,fun r v=>?_,fun r t v s z=>?_⟩
 ·rcases dP M c d j v with q | ⟨g,w,h,k,o,n,_,x,p⟩
  ·exact ⟨fun e=>by omega,fun e=>by omega,fun e=>by omega,fun e=>by omega,fun e=>by omega⟩
  ·have B:=C.beg g w;have f:r.s.kind≠10→g.tg=r.tg:=fun e=>by unfold Rl.tg;rw [h,o e]
   have i:r.s.kind≠1→g.sr=r.sr:=fun e=>by unfold Rl.sr;rw [h,n e]
   refine ⟨fun e=>?_,fun e=>?_,fun e=>?_,fun e=>?_,fun e=>?_⟩
   ·have:=B.1 (k.trans e);rwa [f (by omega),x (.inl e)] at this
   ·have:=B.2.1 (k.trans e);rwa [f (by omega),i (by omega)] at this
   ·have:=B.2.2.1 (k.trans e);rwa [f (by omega),n (by omega)] at this
   ·have:=B.2.2.2.1 (k.trans e);rwa [f (by omega),i (by omega)] at this
   ·have:=B.2.2.2.2 (k.trans e);rw [n (by omega)] at this;exact dT M c d j h (o (by omega)) (p (.inl e)) this
 ·rcases dP M c d j v with q | ⟨g,w,h,k,o,n,y,x,p⟩
  ·unfold A2 at s;omega
  ·have u:r.s.kind≠10∧r.s.kind≠1:=by unfold A2 at s;omega
   have f:g.tg=r.tg:=by unfold Rl.tg;rw [h,o u.1]
   have i:g.sr=r.sr:=by unfold Rl.sr;rw [h,n u.2]
   have A:g.at=r.at:=by unfold Rl.at;rw [k,f,i]
   have F:=C.fol g t w (by unfold A2 at s⊢;rw [k];exact s) (by rw [A];exact z);refine ⟨fun e a b=>?_,fun e a=>?_,fun e a=>?_,fun e a b=>?_⟩
   ·have:=F.1 (k.trans e) a b;rwa [f,y e] at this
   ·have:=F.2.1 (k.trans e) a;rwa [f] at this
   ·have:=F.2.2.1 (k.trans e) a;rwa [i] at this
   ·have:=F.2.2.2 (k.trans e) a (by rw [←dY M c,p (.inr e)];exact b);rw [x (.inr e)] at this;exact ⟨this.1,dT M c d j h (o u.1) (p (.inr e)) this.2⟩
theorem eD:(least P).le (least Q):=Vg (dZ M c d j (CU Q))
end
section
variable {w x : List Sm} {P Q : List PFn} (M : MadeP (fsOf w) 0 0 P) (b : MadeP (fsOf x) 0 0 Q) {u j e : Nat} (Y : AnHy P u j e)
include M b Y
theorem dW{c t:Nat}(h:(least P).I c t):EF Q t=EF P t:=by
 have E:=Ip M;rcases (Im Y.ok h).2 with (⟨f,v,C,A,rfl⟩ | ⟨n,k,s,_,y,rfl⟩) | ⟨g,D,rfl⟩
 ·have i:f<4:=by omega
  have B:v<4:=by rw [(Fu M i).2.1] at A;exact A
  rw [Wg M i B,Wg b i B]
 ·rw [OQ s y,OQ s y]
 ·have z:g<4:=by omega
  rw [Yh M z,Yh b z]
variable {q l : Nat} {T U : Tb} (B : TbP P j e T) (m : T.V.length = 16) (a : TbP Q q l U) (o : U.V.length = 16) (d : (least P).le (least Q)) (r : j ≤ q) (p : e ≤ l)
include B m a o d r p
theorem eH:eE T U:=by
 refine ⟨by rw [B.fl,a.fl];omega,by rw [B.el,a.el];exact p,fun f v y C=>Lj.2 fun s c=>?_,fun i h n=>Lj.2 fun s c=>?_,fun i h n=>Lj.2 fun s c=>?_⟩
 ·obtain ⟨t,k,rfl⟩:=(QB B m y C).1 c;exact (QB a o y C).2 ⟨t,d.i _ _ k,(dW M b Y k).symm⟩
 ·obtain ⟨t,k,rfl⟩:=(B.f i h).aY.1 c;exact (a.f i n).aY.2 ⟨t,d.i _ _ k,(dW M b Y k).symm⟩
 ·obtain ⟨g,z,rfl⟩:=(B.e i h).aY.1 c;have A:g<4:=by have:=(MN Y.ok z).2;rw [Ip M] at this;exact this
  refine (a.e i n).aY.2 ⟨g,d.e _ _ z,?_⟩;unfold Ex;rw [(Fu M A).1,(Fu b A).1]
end
theorem SmS.rf(x:Sm×Nat):SmS x x:=⟨rfl,rfl,rfl,rfl,rfl,rfl,rfl,rfl⟩
theorem Wy.quiet{v b}{w d:World}(h:Wy v b w)(k:Ab (fun _=>False) w d):Wy v b d:=by obtain ⟨a,c,e,i,q⟩:=h;refine ⟨a,c,e,i,q.imp id ?_⟩;rintro ⟨g,j,f,r⟩;exact ⟨g,j,f,r.O k⟩
theorem Wy.get{a b c}{w:World}(h:Wy (.slice a b.length c) b w){i:Nat}(f:i<b.length):∃g d,a=some ⟨g,d,none⟩∧Hm g d b w∧g<w.heap.size:=by
 obtain ⟨l,m,e,_,q⟩:=h;have j:b≠[]:=fun z=>by rw [z] at f;simp at f
 rcases q with q | ⟨g,d,k,r⟩
 ·exact absurd q j
 ·simp only [Value.slice.injEq] at e;exact ⟨g,d,e.1.trans k,r,r.lt j⟩
theorem Tr(R:Act→World→Prop)(b a e:Nat)(c:Array Value)(W:World){g j x2 x4 x5 x6 x7 x8 l m n o p r s t u x y z A B C D E F G H I J L M N O Q T U V X Y Z a0 a1 a2 a3 a4 a5 a6 a7 a8 a9 b0 b1 b2 b3 b4 b5 b6 b7 b8 c4 c1 c0:Value}
 (hz:c.size=18)(c2:c.all (·.oneCell')=true)(c3:e≠b)(hB:Ak b IK 33 W)(hN:Ak e c 33 W)
 (hQ:∀d,Ak b c 33 d→Ab (fun k=>k=b) W d→R {tmps:=#[g,j,.pointer (some ⟨a,0,none⟩),.pointer (some ⟨b,0,none⟩),.bool true,x5,x6,x7,x8,.pointer (some ⟨a,0,none⟩),l,.pointer (some ⟨e,0,none⟩),.bool true,m,n,o,p,r,s,t,u,x,y,z,A,B,C,D,E,F,G,H,I,J,L,M,N,O,Q,T,U,V,X,Y,Z,a0,a1,a2,a3,a4,a5,a6,a7,a8,a9,b0,b1,b2,b3,b4,b5,b6,b7,b8,.pointer (some ⟨a,0,none⟩),.agg c,.bool true],defers:=[]} d):
 Code.wp Tryz.prog (.region 11 #[⟨some 64,.move (.tmp 9),27, "make.go:266",#[],none⟩,⟨some 65,.load 33 (.tmp 11),33, "make.go:266",#[⟨3,.gcOnly .lateStores⟩],none⟩,⟨some 66,.move (.tmp 12),4, "make.go:266",#[⟨4,.gcOnly .lateStores⟩],none⟩,⟨some 2,.assign (.tmp 64),27, "make.go:266",#[⟨0,.data⟩,⟨0,.phase⟩,⟨1,.textOnly .lateStores⟩,⟨2,.textOnly .lateStores⟩],none⟩,⟨none,.store 33 (.tmp 3) (.tmp 65),0, "make.go:266",#[⟨1,.data⟩,⟨3,.chain⟩,⟨0,.phase⟩,⟨1,.phase⟩,⟨2,.textOnly .lateStores⟩,⟨3,.phase⟩],none⟩,⟨some 4,.assign (.tmp 66),4, "make.go:266",#[⟨2,.data⟩,⟨4,.chain⟩,⟨0,.phase⟩,⟨1,.phase⟩,⟨2,.phase⟩,⟨3,.phase⟩,⟨4,.phase⟩],none⟩] true) (Zw R) {tmps:=#[g,j,x2,.pointer (some ⟨b,0,none⟩),x4,x5,x6,x7,x8,.pointer (some ⟨a,0,none⟩),l,.pointer (some ⟨e,0,none⟩),.bool true,m,n,o,p,r,s,t,u,x,y,z,A,B,C,D,E,F,G,H,I,J,L,M,N,O,Q,T,U,V,X,Y,Z,a0,a1,a2,a3,a4,a5,a6,a7,a8,a9,b0,b1,b2,b3,b4,b5,b6,b7,b8,c4,c1,c0],defers:=[]} W:=by
 have HN:dN (∀d,Ab (fun k=>k=b) W d→Ak e c 33 d):=fun d h=>hN.O h c3
 have HB:dN (∀d,Ab (fun _=>False) W d→Ak b IK 33 d):=fun d h=>hB.O h (fun q=>q)
 have HQ:=Aa hQ;clear hN hB hQ;refine wp_region_held_drew (S:=fun d=>Ab (fun k=>k=b) W d) (by kernel_rfl) ((Ab.refl _ W).drew) (fun f=>?_);refine CX (i:=0) (v:=.pointer (some ⟨a,0,none⟩)) (a':={tmps:=#[g,j,x2,.pointer (some ⟨b,0,none⟩),x4,x5,x6,x7,x8,.pointer (some ⟨a,0,none⟩),l,.pointer (some ⟨e,0,none⟩),.bool true,m,n,o,p,r,s,t,u,x,y,z,A,B,C,D,E,F,G,H,I,J,L,M,N,O,Q,T,U,V,X,Y,Z,a0,a1,a2,a3,a4,a5,a6,a7,a8,a9,b0,b1,b2,b3,b4,b5,b6,b7,b8,.pointer (some ⟨a,0,none⟩),c1,c0],defers:=[]}) rfl (by kernel_rfl) (by kernel_rfl) (by kernel_rfl) (fun _ _ _ h=>h) (Or.inl ⟨by rfl,fun w b9=>by go_simp⟩) f (by kernel_rfl) ?_;refine CX (i:=1) (v:=.agg c) (a':={tmps:=#[g,j,x2,.pointer (some ⟨b,0,none⟩),x4,x5,x6,x7,x8,.pointer (some ⟨a,0,none⟩),l,.pointer (some ⟨e,0,none⟩),.bool true,m,n,o,p,r,s,t,u,x,y,z,A,B,C,D,E,F,G,H,I,J,L,M,N,O,Q,T,U,V,X,Y,Z,a0,a1,a2,a3,a4,a5,a6,a7,a8,a9,b0,b1,b2,b3,b4,b5,b6,b7,b8,.pointer (some ⟨a,0,none⟩),.agg c,c0],defers:=[]}) rfl (by kernel_rfl) (by kernel_rfl) (by kernel_rfl) (fun _ _ _ h=>h) (Or.inl ⟨by rfl,fun w b9=>Ja rfl _ rfl e rfl c Tryz.rowSets 18 Tryz.infoSets hz (HN.o w b9)⟩) f (by kernel_rfl) ?_;refine CX (i:=2) (v:=.bool true) (a':={tmps:=#[g,j,x2,.pointer (some ⟨b,0,none⟩),x4,x5,x6,x7,x8,.pointer (some ⟨a,0,none⟩),l,.pointer (some ⟨e,0,none⟩),.bool true,m,n,o,p,r,s,t,u,x,y,z,A,B,C,D,E,F,G,H,I,J,L,M,N,O,Q,T,U,V,X,Y,Z,a0,a1,a2,a3,a4,a5,a6,a7,a8,a9,b0,b1,b2,b3,b4,b5,b6,b7,b8,.pointer (some ⟨a,0,none⟩),.agg c,.bool true],defers:=[]}) rfl (by kernel_rfl) (by kernel_rfl) (by kernel_rfl) (fun _ _ _ h=>h) (Or.inl ⟨by rfl,fun w b9=>by go_simp⟩) f (by kernel_rfl) ?_;refine CX (i:=3) (v:=.pointer (some ⟨a,0,none⟩)) (a':={tmps:=#[g,j,.pointer (some ⟨a,0,none⟩),.pointer (some ⟨b,0,none⟩),x4,x5,x6,x7,x8,.pointer (some ⟨a,0,none⟩),l,.pointer (some ⟨e,0,none⟩),.bool true,m,n,o,p,r,s,t,u,x,y,z,A,B,C,D,E,F,G,H,I,J,L,M,N,O,Q,T,U,V,X,Y,Z,a0,a1,a2,a3,a4,a5,a6,a7,a8,a9,b0,b1,b2,b3,b4,b5,b6,b7,b8,.pointer (some ⟨a,0,none⟩),.agg c,.bool true],defers:=[]}) rfl (by kernel_rfl) (by kernel_rfl) (by kernel_rfl) (fun _ _ _ h=>h) (Or.inl ⟨by rfl,fun w b9=>by go_simp⟩) f (by kernel_rfl) ?_;refine wpAnyH_ready (rs:=[4]) (by kernel_rfl) (by simp) ?_;refine AllReadyH.cons rfl (fun K hK=>?_) AllReadyH.nil;rw [if_pos (by rfl)];refine wp_store_mid (P:=Tryz.prog) 33 (.tmp 3) (.tmp 65) rfl b 0 c rfl rfl (IS (HB.o _ ((Ab.refl _ W).drew)) (by rw [hz];rfl)) (by rw [Tryz.infoSets,hz]) c2 ?_;refine hK.out _ _ (f.trans (C9 b c.toList 0 _)) (fun f=>?_);clear hK K;refine CX (i:=5) (v:=.bool true) (a':={tmps:=#[g,j,.pointer (some ⟨a,0,none⟩),.pointer (some ⟨b,0,none⟩),.bool true,x5,x6,x7,x8,.pointer (some ⟨a,0,none⟩),l,.pointer (some ⟨e,0,none⟩),.bool true,m,n,o,p,r,s,t,u,x,y,z,A,B,C,D,E,F,G,H,I,J,L,M,N,O,Q,T,U,V,X,Y,Z,a0,a1,a2,a3,a4,a5,a6,a7,a8,a9,b0,b1,b2,b3,b4,b5,b6,b7,b8,.pointer (some ⟨a,0,none⟩),.agg c,.bool true],defers:=[]}) rfl (by kernel_rfl) (by kernel_rfl) (by kernel_rfl) (fun _ _ _ h=>h) (Or.inl ⟨by rfl,fun w b9=>by go_simp⟩) f (by kernel_rfl) ?_;refine wpAnyH_done (by kernel_rfl) ?_ _;exact HQ.o _ (IR (HB.o _ ((Ab.refl _ W).drew)) (by rw [hz];rfl)) f
theorem GH.s9{P g i e j w l b m t}(h:GH P g i e j w)(f:Ab (fun k=>k=b) w l)(c:Ak b m t w)(a:t≠3∧t≠9∧t≠190∧t≠136∧t≠98)(r:0≠b):GH P g i e j l:=by obtain ⟨o,s,n,u,d,p⟩:=h;exact ⟨o,s,n,u,d.O f (fun q=>by subst q;unfold Ak at d c;rw [d] at c;cases c;exact a.2.2.2.2 rfl),p.other f c ⟨a.1,a.2.1,a.2.2.1,a.2.2.2.1⟩ r⟩
theorem kA(B0:Nat)(e8 w:World)(h:Nf B0 e8 w)(s:ByteArray)(m:List Sm)(hM:Z5 s m)(sv:Value)(c6:∃a l c,sv=.slice a l c)(c3:DS (Cd m)≤240)(b9:DT (Cd m)≤240):
 Calls Tryz.prog 11 #[.agg (Vs s sv (DS (Cd m)) (DT (Cd m)))] w fun e w'=>qM (qQ m) m w e w':=by
 have c7:=c6;obtain ⟨D,F,E,rfl⟩:=c6;have d6:=Aa c7;have r:=Aa h;have HM:=Aa hM;clear h hM c7;unfold qM Vs;obtain ⟨y,a6⟩:∃p,DS (Cd m)=p:=⟨_,rfl⟩;obtain ⟨u,a3⟩:∃p,DT (Cd m)=p:=⟨_,rfl⟩;rw [a6] at c3⊢;rw [a3] at b9⊢;have d3:=Aa a6;have d0:=Aa a3;clear a6 a3;have AL:=Aa (((Ab.refl (fun _=>False) w).alloc (.cells #[.string s,.slice D F E,.int .i64 y,.int .i64 u] 25)).alloc (.cells IK 33));have a0:=Aa ((Ak.new w #[.string s,.slice D F E,.int .i64 y,.int .i64 u] 25).alloc (.cells IK 33));have a1:dN (Ak (w.heap.size+1) IK 33 ((w.alloc (.cells #[.string s,.slice D F E,.int .i64 y,.int .i64 u] 25)).alloc (.cells IK 33))):=by have:=Ak.new (w.alloc (.cells #[.string s,.slice D F E,.int .i64 y,.int .i64 u] 25)) IK 33;simp only [World.size_alloc] at this;exact this
 go_enter Tryz.func11,Tryz.ntmps11;go_wp2_with fail;generalize (w.alloc (.cells #[.string s,.slice D F E,.int .i64 y,.int .i64 u] 25)).alloc (.cells IK 33)=W at AL a0 a1⊢;refine (Pp (r.o.go AL.o)).mono ?_;rintro e w1 ⟨e5,e6,d8,e7,rfl,c9,c5,e2,S⟩;have O1:=Aa (AL.o.trans S);have a8:=Aa (a0.o.O S (fun q=>q));have a9:=Aa (a1.o.O S (fun q=>q));have b6:=Aa c9;have b3:=Aa c5;clear S a0 a1 c9 c5;go_wp2_with fail;refine (KW r.o.sr Nc e5 e6 d8 e7 w1 b6.o b3.o (r.o.it.go O1.o) 1 2 (by omega) (by omega) (by omega)).mono ?_;rintro e w2 ⟨⟨lv,l,rfl,C,t2,l2⟩,V⟩;have hl:=WV t2;subst hl;obtain ⟨la,ll,lc,rfl⟩:=Ad C;have c0:=Aq C;simp only [rW,List.length_nil,Nat.zero_add] at c0;subst c0;obtain ⟨lg,rfl⟩:=AA C (by simp);have b8:=Gv (l:=[⟨#[49,46,48]⟩]) C 0 (by simp);have e1:=(C.lt lg rfl).2;simp only [List.getElem_cons_zero] at b8;have O2:=Aa (O1.o.trans V);have M:=Aa (a8.o.O V (fun q=>q));have b0:=Aa (a9.o.O V (fun q=>q));clear C t2 l2 V a8 a9 O1 b6 b3 e2;have K:=M.o.cell 0;have a7:=Ae M.o;simp only [dM,dJ] at K;go_wp2_with fail;refine (Mx (r.o.go O2.o) s m HM.o).mono ?_;rintro e w3 ⟨P,mn,L,rfl,c4,c1,hn,hy,hr,X⟩;rw [d3.o,d0.o] at hy hr;have O3:=Aa (O2.o.trans X);have z:=Aa (M.o.O X (fun q=>q));have b1:=Aa (b0.o.O X (fun q=>q));have d4:=Aa c4;have b2:=Aa c1;have d2:=Aa hn;have HY:=Aa hy;have HR:=Aa hr;clear X M b0 O2 K a7 b8 e1 c4 c1 hy hr hn;have K:=z.o.cell 0;have p1:=z.o.cell 1;have p2:=z.o.cell 2;have p3:=z.o.cell 3;have a7:=Ae z.o;simp only [dM,dJ,dK] at K p1 p2 p3;go_wp2_with fail;refine (VW r.o.sr P mn y u L s (.slice D F E) w3 HY.o HR.o (r.o.it.go O3.o) (fun f v hf hv=>Vj b2.o hf hv) c3 b9 d6.o).mono ?_;rintro e i ⟨⟨Z,Q,O,T,rfl,U,c8⟩,Y⟩;obtain ⟨g,R⟩:∃c,Z++[Q,O]=c:=⟨_,rfl⟩;have a4:Fv Z Q O=g.toArray:=by rw [←R];rfl
 have J:g.length=18:=by rw [←R];simp [U.v16]
 have a5:=U.one;rw [R] at a5;have O4:=Aa (O3.o.trans Y);have a2:=Aa (b1.o.O Y (fun q=>q));have d5:=Aa (HR.o.i9 Y);have b5:=Aa U;have d7:=Aa c8;have d1:=Aa a4;rw [a4];clear Y z b1 O3 K p1 p2 p3 a7 U c8 a4 R;have BN:=Aa (Ak.new i IK 33);have o:=Aa ((Ab.refl (fun _=>False) i).alloc (.cells IK 33));go_wp2_with (refine wpList_store_mid rfl 33 (.tmp 11) (.tmp 62) rfl i.heap.size 0 g.toArray rfl rfl (by have:=IS BN.o (n:=g.toArray.size) (by simp [J]);exact this) (by rw [Tryz.infoSets];simp [J]) (all_oneCell_toArray a5) ?_);have B:=C9 i.heap.size g 0 (i.alloc (.cells IK 33));have e9:=Ae a2.o;have H:Ab (fun _=>False) i ((i.alloc (.cells IK 33)).setCells i.heap.size 0 g):=by refine ⟨B.os.trans o.o.os,B.tape.trans o.o.tape,B.output.trans o.o.output,rO o.o.size B.size,fun k I _=>?_⟩;rw [B.block k (rP I o.o.size) (by omega)];exact o.o.block k I (fun q=>q)
 have N5:=Aa (IR (cs:=g.toArray) BN.o (by simp [J]));have N:=Aa (a2.o.O H (fun q=>q));have O5:=Aa (O4.o.trans H);have b7:=Aa (b5.o.i9 H);have b4:=Aa (d5.o.i9 H);have c2:i.heap.size≠w.heap.size+1:=by omega
 clear BN a2 O4 b5 o B H;generalize (i.alloc (.cells IK 33)).setCells i.heap.size 0 g=w5 at N5 N O5 b7 b4⊢;generalize i.heap.size=nb at N5 c2⊢;refine M7 ?_;refine Tr _ (w.heap.size+1) L nb g.toArray w5 (by simp [J]) (all_oneCell_toArray a5) c2 N.o N5.o ?_;intro G d9 x;have h6:Ab (fun _=>False) w G:=by have A:=O5.o;refine ⟨x.os.trans A.os,x.tape.trans A.tape,x.output.trans A.output,rO A.size x.size,fun k I _=>?_⟩;rw [x.block k (rP I A.size) (by omega)];exact A.block k I (fun q=>q)
 have e0:(loadVar 33 ⟨w.heap.size+1,0,none⟩).run Tryz.prog G=.ok (.agg g.toArray) G:=by obtain ⟨d,hu,hd⟩:=Tryz.rowSets;exact run_loadVar_mid (P:=Tryz.prog) G (w.heap.size+1) 0 33 g d (fun j v hv=>by rw [Nat.zero_add,d9.cell j];simpa using hv) hu hd (by rw [Tryz.infoSets,J])
 have e3:GH P mn y u L G:=GH.s9 (b:=w.heap.size+1) (t:=33) b4.o x N.o (by decide) (by have:=r.o.tl;omega);have e4:Ek G Z Q O T:=b7.o.s9 x N.o;go_wp2_with fail;refine bodyPost_ret (v:=.tuple #[.pointer (some ⟨L,0,none⟩),.agg g.toArray,.bool true]) (by rw [Oy rfl];simp [asAddr,Result.andThen,e0]) rfl ⟨⟨P,mn,L,Z,Q,O,T,d4.o,b2.o,d2.o,HY.o,by rw [d1.o],e4,d7.o,e3⟩,h6⟩
theorem My(f:Nat)(g w:World)(h:Nf f g w)(s:ByteArray)(b:List Sm)(t:Z5 s b)(d:Value)(x:∃a l c,d=.slice a l c)(v:DS (Cd b)≤240)(u:DT (Cd b)≤240):
 Calls Tryz.prog 11 #[.agg (Vs s d (DS (Cd b)) (DT (Cd b)))] w fun e B=>aK b w e B:=
 (kA f g w h s b t d x v u).mono fun _ _ ⟨⟨P,y,z,A,j,i,T,_,k,m,n,o,p,q,_⟩,r⟩=>⟨⟨P,y,z,A,j,i,T,k,m,n,o,p,q⟩,r⟩
theorem Xv(l:Ln):(Qt l).In:=by
 have a:=Bz l.a1 10 (by omega);refine ⟨⟨Bz _ _ (by omega),?_,LY l⟩,Bz _ _ (by omega),Bz _ _ (by omega),Bz _ _ (by omega),Bz _ _ (by omega),NZ l,fun q=>?_⟩
 ·show AK l.a1 10≤9;omega
 ·have q:AK l.a1 10=7:=q;show (Fa l).length=AK l.a4 4 % 3;unfold Fa;rw [if_neg (by omega),if_pos q,Ki]
theorem RJ(a:List Ln):Hd a 4=Cd (IC a):=by unfold Hd Cd fsOf Hj IC;rw [List.flatMap_map]
theorem YZ(a:List Ln):tA a 4=CI (YN (IC a)):=rfl
theorem Zu{a:List Ln}{s:ByteArray}(h:s.data.toList=tA a 4)(g:s.size≤4000):Z5 s (IC a):=by
 have b:∀x,x∈IC a→x.In:=fun x c=>by unfold IC at c;obtain ⟨l,_,rfl⟩:=List.mem_map.1 c;exact Xv l
 rw [YZ] at h;obtain ⟨y,d,e⟩:=ST s (IC a) h;refine ⟨b,g,y,d,?_⟩;rw [e,Zz _ (fun s f=>(b s f).ok)]
theorem Xk(a:List Ln):(Cd (IC a)).length≤240:=by rw [←RJ];exact MU a 4
end Go.Proofs.YtegmjgjkcdbmkaaGreatDoor
