/- One of the texts of the proof: ClA ClC KlF KlH KlI KlJ KlK KlR RgB. -/
import Derived.Test.YtegmjgjkcdbmkaaGreatDoorS34
import Derived.Test.YtegmjgjkcdbmkaaGreatDoorS31
set_option maxRecDepth 100000
set_option maxHeartbeats 8000000
namespace Go.Proofs.YtegmjgjkcdbmkaaGreatDoor
open Go.RowKit Go.Maps
theorem Ja{f:Oper}{a:Act}{w:World}{c:TypeId}(_:f.guard=none)(x:Operand)(l:f.op=.load c x)(b:Nat)(q:a.eval x=.pointer (some ⟨b,0,none⟩))(e:Array Value)(m:∃d,Tryz.prog.underlying c=some d∧d.isRow=true)(n:Nat)(k:(Tryz.prog.info? c).map (·.size)=some n)(r:e.size=n)(g:Ak b e c w):
 (execOp a.eval f).run Tryz.prog w=.ok (.value (.agg e)) w:=by
 obtain ⟨d,o,i⟩:=m;have h:=run_loadVar_mid (P:=Tryz.prog) w b 0 c e.toList d (fun j v p=>by rw [Nat.zero_add,g.cell j];simpa using p) o i (by rw [k];simp [r])
 unfold execOp;simp only [l,q,Instr.loadAt,Instr.sureAddr,Sem.run_bind,Sem.run_pure,Result.andThen_ok,h]
abbrev IK:Array Value:=#[.slice none 0 0,.slice none 0 0,.slice none 0 0,.slice none 0 0,.slice none 0 0,.slice none 0 0,.slice none 0 0,.slice none 0 0,.slice none 0 0,.slice none 0 0,.slice none 0 0,.slice none 0 0,.slice none 0 0,.slice none 0 0,.slice none 0 0,.slice none 0 0,.slice none 0 0,.slice none 0 0]
def FK(B:Nat)(w:World)(v:Value)(a:List (List ByteArray)):Prop:=∃b:List Value,b.length=a.length∧w.ownsRow B 28 1 v a.length b∧∀i (h:i<b.length) (c:i<a.length),Au B w b[i] a[i]
theorem FK.at{B w v a}(h:FK B w v a):Dj w v a:=by obtain ⟨f,e,d,c⟩:=h;exact ⟨f,e,Ao d (rR _),fun i h b=>Ao (c i h b) (rR _)⟩
theorem FK.quiet{B w b v a}(h:FK B w v a)(k:Ab (fun _=>False) w b):FK B b v a:=by obtain ⟨g,e,f,d⟩:=h;exact ⟨g,e,Ac f k (fun _ _ q=>q),fun i h c=>Ac (d i h c) k (fun _ _ q=>q)⟩
theorem FK.s9{B w l v j b T}{m:Array Value}(h:FK B w v j)(f:Ab (fun k=>k=b) w l)(d:Ak b m T w)(n:T≠28)(o:T≠9):FK B l v j:=by obtain ⟨p,e,g,c⟩:=h;exact ⟨p,e,Ac g f (Aj g d n),fun i h a=>Ac (c i h a) f (Aj (c i h a) d o)⟩
structure JZ(w:World)(pa:Array Value)(vs:List Value)(vl:List (List ByteArray))(fv:Value)(fl:List (List ByteArray))(ev:Value)(el:List (List ByteArray))(wr:World):Prop where
 b0:Ak w.heap.size pa 25 wr
 b1:Ak (w.heap.size+1) IK 33 wr
 b2:Ak (w.heap.size+2) (Fv vs fv ev) 33 wr
 v16:vs.length=16
 v:∀i (h:i<vl.length) (h':i<vs.length),Au w.heap.size wr vs[i] vl[i]
 f:FK w.heap.size wr fv fl
 e:FK w.heap.size wr ev el
 o:Ab (fun _=>False) w wr
 ne:∀k,fv.ownBlock=some k→ev.ownBlock≠some k
theorem JZ.quiet{w g l j f e d c wr m}(h:JZ w g l j f e d c wr)(k:Ab (fun _=>False) wr m):JZ w g l j f e d c m:=
 ⟨h.b0.O k (fun q=>q),h.b1.O k (fun q=>q),h.b2.O k (fun q=>q),h.v16,fun i a b=>Ac (h.v i a b) k (fun _ _ q=>q),h.f.quiet k,h.e.quiet k,h.o.trans k,h.ne⟩
theorem Xp(a:List Value)(c b:Value)(i:Nat)(u:Value)(h:i<a.length):(Fv a c b).setIfInBounds i u=Fv (a.set i u) c b:=by unfold Fv;rw [List.setIfInBounds_toArray,List.set_append_left _ _ h]
theorem JZ.setV{w o p c m j g f wr}(h:JZ w o p c m j g f wr){u:Value}{l:List ByteArray}(r:c.length<16)(n:Au w.heap.size wr u l):JZ w o (p.set c.length u) (c++[l]) m j g f (wr.setCell ⟨w.heap.size+2,c.length,none⟩ u):=by
 have d:=(Ab.refl (fun k=>k=w.heap.size+2) wr).d8 c.length u;refine ⟨h.b0.O d (by omega),h.b1.O d (by omega),?_,by rw [List.length_set];exact h.v16,fun i a b=>?_,h.f.s9 d h.b2 (by decide) (by decide),h.e.s9 d h.b2 (by decide) (by decide),h.o.set_far (by omega),h.ne⟩
 ·have:=h.b2.set c.length u;rw [Xp _ _ _ _ _ (by rw [h.v16];exact r)] at this;exact this
 ·rw [rV] at a;rcases Nat.lt_or_ge i c.length with q | q
  ·rw [List.getElem_append_left q,List.getElem_set_ne (by omega)];have:=h.v i q (by rw [h.v16];omega);exact Ac this d (Aj this h.b2 (by decide))
  ·have e:i=c.length:=by simp only [rW,List.length_nil] at a;omega
   subst e;rw [List.getElem_append_right (rN _),List.getElem_set_self];simp only [Nat.sub_self,List.getElem_cons_zero];exact Ac n d (Aj n h.b2 (by decide))
theorem JZ.form{w m o n f e d b wr}(h:JZ w m o n f e d b wr):(∃a c,f=.slice a e.length c)∧∃a c,d=.slice a b.length c:=by obtain ⟨q,_,g,_⟩:=h.f;obtain ⟨r,_,i,_⟩:=h.e;obtain ⟨a,l,c,rfl⟩:=Ad g;have:=Aq g;subst this;obtain ⟨j,p,k,rfl⟩:=Ad i;have:=Aq i;subst this;exact ⟨⟨a,c,rfl⟩,j,k,rfl⟩
theorem JZ.c16{w e g f a d c b wr}(h:JZ w e g f a d c b wr):wr.cell? ⟨w.heap.size+2,16,none⟩=some a:=by rw [h.b2.cell 16];unfold Fv;rw [dM,List.getElem?_append_right (by rw [h.v16];omega),h.v16];rfl
theorem JZ.c17{w e g f d c a b wr}(h:JZ w e g f d c a b wr):wr.cell? ⟨w.heap.size+2,17,none⟩=some a:=by rw [h.b2.cell 17];unfold Fv;rw [dM,List.getElem?_append_right (by rw [h.v16];omega),h.v16];rfl
theorem LT{wr g:World}{d:Nat}{j:Value}{f:List (List ByteArray)}{c:List Value}{u:Value}{l:List ByteArray}(k:c.length=f.length)(n:∀i (h:i<c.length) (r:i<f.length),Au d wr c[i] f[i])(p:Au d wr u l)
 (m:∀{v:Value} {l:List ByteArray},Au d wr v l→Au d g v l)(o:g.ownsRow d 28 1 j (f.length+1) (c++[u])):FK d g j (f++[l]):=by
 refine ⟨c++[u],by simp [k],by simpa using o,fun i a b=>?_⟩;rw [rV] at a b;rcases Nat.lt_or_ge i c.length with q | q
 ·rw [List.getElem_append_left q,List.getElem_append_left (by omega)];exact m (n i q (by omega))
 ·have e:i=c.length:=by simp only [rW,List.length_nil] at a;omega
  subst e;rw [List.getElem_append_right (rN _),List.getElem_append_right (by omega)];simp only [Nat.sub_self,List.getElem_cons_zero,k];exact m p
theorem JZ.growF{w C t E p j o y wr W n}{g u:Value}{l:List ByteArray}{r:List Value}(h:JZ w C t E p j o y wr)(J:Ab (fun _=>False) wr W)(M:W.grownBy n p.ownBlock)(L:r.length=j.length)(m:wr.ownsRow w.heap.size 28 1 p j.length r)(K:∀i (h:i<r.length) (Q:i<j.length),Au w.heap.size wr r[i] j[i])
 (N:Au w.heap.size wr u l)(A:n.ownsRow w.heap.size 28 1 g (j.length+1) (r++[u]))(z:o.ownBlock=none):JZ w C t E g (j++[l]) o y (n.setCell ⟨w.heap.size+2,16,none⟩ g):=by
 have c:Ab (fun k=>p.ownBlock=some k) wr n:=Ab.grown (J.mono (fun _ _ q=>q.elim)) M (fun k f=>.inl f);have G:=h.b0.O c (fun q=>Aj m h.b0 (by decide) _ q rfl);have H:=h.b1.O c (fun q=>Aj m h.b1 (by decide) _ q rfl);have s:=h.b2.O c (fun q=>Aj m h.b2 (by decide) _ q rfl);have d:=(Ab.refl (fun k=>k=w.heap.size+2) n).d8 16 g;have f:∀{v:Value} {l:List ByteArray},Au w.heap.size wr v l→Au w.heap.size (n.setCell ⟨w.heap.size+2,16,none⟩ g) v l:=fun q=>Ac (Av q c (D6 m (by decide))) d (Aj (Av q c (D6 m (by decide))) s (by decide))
 have x:=h.o.size;have B:=c.size;refine ⟨G.O d (by omega),H.O d (by omega),?_,h.v16,fun i a b=>f (h.v i a b),?_,?_,?_,fun k _ q=>by rw [z] at q;cases q⟩
 ·have:=s.set 16 g;have e:(Fv t p o).setIfInBounds 16 g=Fv t g o:=by unfold Fv;rw [List.setIfInBounds_toArray,List.set_append_right _ _ (by rw [h.v16];omega),h.v16];rfl
  rw [e] at this;exact this
 ·exact LT L K N f (Ac A d (Aj A s (by decide)))
 ·obtain ⟨P,I,O,F⟩:=h.e;have D:=Ac O c (fun k q _=>by rw [z] at q;cases q);exact ⟨P,I,Ac D d (Aj D s (by decide)),fun i a b=>f (F i a b)⟩
 ·refine ⟨d.os.trans (c.os.trans h.o.os),d.tape.trans (c.tape.trans h.o.tape),d.output.trans (c.output.trans h.o.output),rO x (rO B d.size),fun k f _=>?_⟩;rw [d.block k (rP f (rO x B)) (by omega),c.block k (rP f x) (fun q=>by have:=(m.lt k q).1;omega)];exact h.o.block k f (fun q=>q)
theorem JZ.growE{w E t I p A m j wr W o}{d u:Value}{l:List ByteArray}{r:List Value}(h:JZ w E t I p A m j wr)(B:Ab (fun _=>False) wr W)(P:W.grownBy o m.ownBlock)(O:r.length=j.length)(n:wr.ownsRow w.heap.size 28 1 m j.length r)(N:∀i (h:i<r.length) (T:i<j.length),Au w.heap.size wr r[i] j[i])
 (S:Au w.heap.size wr u l)(C:o.ownsRow w.heap.size 28 1 d (j.length+1) (r++[u]))(R:∀k,d.ownBlock=some k→m.ownBlock=some k∨W.heap.size≤k):JZ w E t I p A d (j++[l]) (o.setCell ⟨w.heap.size+2,17,none⟩ d):=by
 have c:Ab (fun k=>m.ownBlock=some k) wr o:=Ab.grown (B.mono (fun _ _ q=>q.elim)) P (fun k g=>.inl g);have K:=h.b0.O c (fun q=>Aj n h.b0 (by decide) _ q rfl);have L:=h.b1.O c (fun q=>Aj n h.b1 (by decide) _ q rfl);have s:=h.b2.O c (fun q=>Aj n h.b2 (by decide) _ q rfl);have f:=(Ab.refl (fun k=>k=w.heap.size+2) o).d8 17 d;have g:∀{v:Value} {l:List ByteArray},Au w.heap.size wr v l→Au w.heap.size (o.setCell ⟨w.heap.size+2,17,none⟩ d) v l:=fun q=>Ac (Av q c (D6 n (by decide))) f (Aj (Av q c (D6 n (by decide))) s (by decide))
 have x:=h.o.size;have D:=c.size;have Q:∀k,p.ownBlock=some k→d.ownBlock≠some k:=fun k q y=>by
  rcases R k y with F | F
  ·exact h.ne k q F
  ·obtain ⟨H,_,z,_⟩:=h.f;have:=(z.lt k q).2;have:=B.size;omega
 refine ⟨K.O f (by omega),L.O f (by omega),?_,h.v16,fun i a b=>g (h.v i a b),?_,?_,?_,Q⟩
 ·have:=s.set 17 d;have e:(Fv t p m).setIfInBounds 17 d=Fv t p d:=by unfold Fv;rw [List.setIfInBounds_toArray,List.set_append_right _ _ (by rw [h.v16];omega),h.v16];rfl
  rw [e] at this;exact this
 ·obtain ⟨H,M,z,J⟩:=h.f;have G:=Ac z c (fun k q y=>h.ne k q y);exact ⟨H,M,Ac G f (Aj G s (by decide)),fun i a b=>g (J i a b)⟩
 ·exact LT O N S g (Ac C f (Aj C s (by decide)))
 ·refine ⟨f.os.trans (c.os.trans h.o.os),f.tape.trans (c.tape.trans h.o.tape),f.output.trans (c.output.trans h.o.output),rO x (rO D f.size),fun k g _=>?_⟩;rw [f.block k (rP g (rO x D)) (by omega),c.block k (rP g x) (fun q=>by have:=(n.lt k q).1;omega)];exact h.o.block k g (fun q=>q)
theorem Tryz.infoSl:(Tryz.prog.info? 28).map (fun i=>(i.zero,i.size,i.bytes))=some (some (.slice none 0 0),1,24):=by kernel_rfl
def Kd(p:Nat→List ByteArray→Prop)(a:List (List ByteArray)):Prop:=∀i (h:i<a.length),p i a[i]
theorem Kd.snoc{p a l}(h:Kd p a)(c:p a.length l):Kd p (a++[l]):=fun i b=>by
 rw [rV] at b;rcases Nat.lt_or_ge i a.length with q | q
 ·rw [List.getElem_append_left q];exact h i q
 ·have e:i=a.length:=by simp only [rW,List.length_nil] at b;omega
  subst e;rw [List.getElem_append_right (rN _)];simpa using c
structure TbP(P:List PFn)(pn cn:Nat)(T:Tb):Prop where
 v:Kd (fun i=>Jo (EF P) ((least P).I (vN (i / 4) (i % 4)))) T.V
 fl:T.F.length=4*pn
 f:Kd (fun i=>Jo (EF P) ((least P).I (pN (i / 4+1) (i % 4)))) T.F
 el:T.E.length=cn
 e:Kd (fun i=>Jo (Ex P) ((least P).E (i+1))) T.E
theorem C9(b:Nat):∀(a:List Value) (o:Nat) (w:World),Ab (fun k=>k=b) w (w.setCells b o a)
 | [],_,w=>Ab.refl _ w
 | v::r,o,w=>((Ab.refl (fun k=>k=b) w).d8 o v).trans (C9 b r (o+1) _)
theorem ItOk.go{w a}(h:ItOk w)(k:Ab (fun _=>False) w a):ItOk a:=fun n W c b=>h n W c (k.trans b)
def ZC(P:List PFn)(g f:Nat)(w:World)(e:Ending)(d:World):Prop:=
 (∃c b a T,e=.returned (.tuple #[.agg (Fv c b a),.bool true])∧Ek d c b a T∧TbP P g f T)∧Ab (fun _=>False) w d
theorem VW(hT:SrtAll)(P:List PFn)(mn p o rp:Nat)(F:ByteArray)(sv:Value)(w:World)(Y:AnHy P mn p o)(h:GH P mn p o rp w)(hI:ItOk w)(c3:∀f v,f<4→v<4→FE P (Kz f) (GA v) 0=some (vN f v))(e9:p≤240)(e4:o≤240)(d8:∃a l c,sv=.slice a l c):
 Calls Tryz.prog 32 #[.pointer (some ⟨rp,0,none⟩),.agg (Vs F sv p o)] w fun e w'=>ZC P p o w e w':=by
 obtain ⟨G,I,H,rfl⟩:=d8;unfold Vs;have HT:=Aa hT;have HY:=Aa Y;have HR:=Aa h;have HI:=Aa hI;have d5:=Aa c3;clear hT Y h hI c3;have g:dN (JZ w #[.string F,.slice G I H,.int .i64 p,.int .i64 o] (List.replicate 16 (.slice none 0 0)) [] (.slice none 0 0) [] (.slice none 0 0) [] (((w.alloc (.cells #[.string F,.slice G I H,.int .i64 p,.int .i64 o] 25)).alloc (.cells IK 33)).alloc (.cells IK 33))):=by
  refine ⟨((Ak.new w _ _).alloc _).alloc _,?_,?_,rfl,fun i h=>by simp at h,⟨[],rfl,World.ownsRow_nil _ _ _ _,fun i h=>by simp at h⟩,⟨[],rfl,World.ownsRow_nil _ _ _ _,fun i h=>by simp at h⟩,(((Ab.refl _ w).alloc _).alloc _).alloc _,fun k q=>by cases q⟩
  ·have:=(Ak.new (w.alloc (.cells #[.string F,.slice G I H,.int .i64 p,.int .i64 o] 25)) IK 33).alloc (.cells IK 33);simpa using this
  ·have:=Ak.new ((w.alloc (.cells #[.string F,.slice G I H,.int .i64 p,.int .i64 o] 25)).alloc (.cells IK 33)) IK 33;simp only [World.size_alloc] at this;exact this
 go_enter Tryz.func32,Tryz.ntmps32;go_wp2_with fail;generalize ((w.alloc (.cells #[.string F,.slice G I H,.int .i64 p,.int .i64 o] 25)).alloc (.cells IK 33)).alloc (.cells IK 33)=W at g⊢;go_loopw [7,8] (fun ok i wr=>ok=.bool true∧∃(f:Nat) (z:List Value) (t:List (List ByteArray)),f≤4∧i=.int .i64 f∧dN (t.length=f*4)∧dN (JZ w #[.string F,.slice G I H,.int .i64 p,.int .i64 o] z t (.slice none 0 0) [] (.slice none 0 0) [] wr)∧dN (Kd (fun i=>Jo (EF P) ((least P).I (vN (i / 4) (i % 4)))) t)) (fun _ i _=>4-(intOf i).toNat)
 case atStart=>exact ⟨rfl,0,_,[],by omega,rfl,rfl,g,fun i h=>by simp at h⟩
 case round=>
  clear g;obtain ⟨rfl,f,z,t,hf,rfl,L,g,y⟩:=hrel;by_cases c5:f<4
  ·have tf:decide ((f:Int)<4)=true:=by simp;omega
   go_wp2_with fail;go_loopw [7,9] (fun ok i wr=>ok=.bool true∧∃(v:Nat) (z:List Value) (t:List (List ByteArray)),v≤4∧i=.int .i64 v∧dN (t.length=f*4+v)∧dN (JZ w #[.string F,.slice G I H,.int .i64 p,.int .i64 o] z t (.slice none 0 0) [] (.slice none 0 0) [] wr)∧dN (Kd (fun i=>Jo (EF P) ((least P).I (vN (i / 4) (i % 4)))) t)) (fun _ i _=>4-(intOf i).toNat)
   case atStart=>exact ⟨rfl,0,z,t,by omega,rfl,L,g,y⟩
   case round=>
    clear g y L;obtain ⟨rfl,v,z,t,hv,rfl,L,g,y⟩:=hrel;by_cases c9:v<4
    ·have tv:decide ((v:Int)<4)=true:=by simp;omega
     go_wp2_with (first
      | (go_at_call 26;refine (Gm _ c5 _).mono ?_;rintro e w' ⟨rfl,X⟩;have X:=X.symm;subst X)
      | (go_at_call 28;refine (Kc _ c9 _).mono ?_;rintro e w' ⟨rfl,X⟩;have X:=X.symm;subst X))
     refine (OD HT.o P mn p o rp wr HY.o (HR.o.i9 g.o.o) (HI.o.go g.o.o) (Kz f) (GA v) (vN f v) (d5.o f v c5 c9)).mono ?_;rintro e w2 ⟨⟨lv,l,rfl,E,S,l2⟩,R⟩;obtain ⟨la,ll,lc,rfl⟩:=Ad E;have r:=Aa (g.o.quiet R);have M:=Aa (Ao E g.o.o.size);have b2:=L.o;have TL:dN (Jo (EF P) ((least P).I (vN (t.length / 4) (t.length % 4))) l):=by show Jo _ _ _;rw [b2,show (f*4+v) / 4=f by omega,show (f*4+v) % 4=v by omega];exact S
     have Q:=Ae r.o.b2;have a0:=r.o.b2.frozen (f*4+v);have U:∃u,w2.cell? ⟨w.heap.size+2,f*4+v,none⟩=some u:=by
      rw [r.o.b2.cell (f*4+v)];have:f*4+v<(Fv z (.slice none 0 0) (.slice none 0 0)).size:=by simp [Fv,r.o.v16];omega
      exact ⟨_,Array.getElem?_eq_getElem this⟩
     obtain ⟨u0,f0⟩:=U;have Z:=Aa (r.o.setV (by omega) M.o);rw [b2] at Z;clear g r M E S l2 R b2;go_wp2_with fail;go_roundw
     case rel=> exact ⟨rfl,v+1,_,t++[l],by omega,by go_num,(by rw [rV,L.o];rfl:(t++[l]).length=f*4+(v+1)),Z,y.o.snoc TL.o⟩
     case measure=>simp [intOf];omega
    ·have tv:decide ((v:Int)<4)=false:=by simp;omega
     go_wp2_with fail;go_roundw
     case rel=>exact ⟨rfl,f+1,z,t,by omega,by go_num,(by rw [L.o];omega:t.length=(f+1)*4),g,y⟩
     case measure=>simp [intOf];omega
  ·have tf:decide ((f:Int)<4)=false:=by simp;omega
   have b5:dN (t.length=16):=by show t.length=16;rw [L.o];omega
   have HV:=y;obtain ⟨i0,c7,d0,d1,d2⟩:=info_parts Tryz.infoSl;clear L y;go_wp2_with fail;go_loopw [7,12] (fun ok i wr=>ok=.bool true∧∃(n:Nat) (C:Value) (s:List (List ByteArray)),n≤p∧i=.int .i64 ((n:Int)+1)∧dN (s.length=n*4)∧dN (JZ w #[.string F,.slice G I H,.int .i64 p,.int .i64 o] z t C s (.slice none 0 0) [] wr)∧dN (Kd (fun i=>Jo (EF P) ((least P).I (pN (i / 4+1) (i % 4)))) s)) (fun _ i _=>p+1-(intOf i).toNat)
   case atStart=>exact ⟨rfl,0,_,[],by omega,rfl,rfl,g,fun i h=>by simp at h⟩
   case round=>
    clear g;obtain ⟨rfl,n,C,s,hn,rfl,K,g,y⟩:=hrel;have p2:=g.o.b0.cell 2;have a9:=Ae g.o.b0;simp only [dM,dJ,dK] at p2;by_cases e7:n<p
    ·have tn:decide ((n:Int)+1≤(p:Int))=true:=by simp;omega
     go_wp2_with fail;go_loopw [7,13] (fun ok i wr=>ok=.bool true∧∃(k:Nat) (C:Value) (s:List (List ByteArray)),k≤4∧i=.int .i64 k∧dN (s.length=n*4+k)∧dN (JZ w #[.string F,.slice G I H,.int .i64 p,.int .i64 o] z t C s (.slice none 0 0) [] wr)∧dN (Kd (fun i=>Jo (EF P) ((least P).I (pN (i / 4+1) (i % 4)))) s)) (fun _ i _=>4-(intOf i).toNat)
     case atStart=>exact ⟨rfl,0,C,s,by omega,rfl,K,g,y⟩
     case round=>
      clear g y K p2 a9;obtain ⟨rfl,k,C,s,hk,rfl,K,g,y⟩:=hrel;by_cases d6:k<4
      ·have tk:decide ((k:Int)<4)=true:=by simp;omega
       go_wp2_with fail;refine (KW HT.o P mn p o rp wr HY.o (HR.o.i9 g.o.o) (HI.o.go g.o.o) (n+1) k (by omega) (by omega) d6).mono ?_;rintro e w2 ⟨⟨lv,l,rfl,E,S,l2⟩,R⟩;obtain ⟨la,ll,lc,rfl⟩:=Ad E;have r:=Aa (g.o.quiet R);have M:=Aa (Ao E g.o.o.size);have c6:=K.o;have e6:s.length≤1000:=by omega
       have TL:dN (Jo (EF P) ((least P).I (pN (s.length / 4+1) (s.length % 4))) l):=by show Jo _ _ _;rw [c6,show (n*4+k) / 4=n by omega,show (n*4+k) % 4=k by omega];exact S
       have Q:=Ae r.o.b2;have a0:=r.o.b2.frozen 16;have U:=r.o.c16;obtain ⟨us,a7,D,a5⟩:=r.o.f;obtain ⟨va,b4,vc,rfl⟩:=Ad D;have a4:=Aa a7;have a3:=Aa a5;have T:=Aa (Aj D r.o.b2 (by decide));have b3:=r.o.o.size;clear g E S l2 R c6 a7 a5;go_wp2_with (at_builtin;refine EG _ rfl _ _ 31 rfl w.heap.size 28 i0 (.slice none 0 0) 1 24 Tryz.underlying31 c7 d0 d1 d2 rfl (by decide) _ _ _ rfl (D.alloc _) ⟨w2.heap.size,0,none⟩ 1 1 [.slice la ll lc] rfl rfl (A5 rfl _ _) (fun x hx=>by simp at hx;subst hx;rfl) (by decide) (by unfold maxLen;omega) (by omega) (by simp;omega) ?_;intro v' w5 V J a8;have q1:w5.cell? ⟨w.heap.size+2,16,none⟩=some (.slice va b4 vc):=(rM (J.block (w.heap.size+2) (by simp;omega) (fun h=>T.o _ h.symm rfl))).trans (by rw [←U];exact rM (Below.heap_alloc _ _ _ Q));have q2:w5.frozen? ⟨w.heap.size+2,16,none⟩=false:=(rS (J.block (w.heap.size+2) (by simp;omega) (fun h=>T.o _ h.symm rfl))).trans (by rw [←a0];exact rS (Below.heap_alloc _ _ _ Q));obtain ⟨d9,e3,e0,rfl⟩:=Ad V);have Z:=Aa (r.o.growF ((Ab.refl _ _).alloc _) J a4.o D a3.o M.o V rfl);clear r M D a4 a3 T V J a8 a0 U Q b3;go_roundw
       case rel=>exact ⟨rfl,k+1,_,s++[l],by omega,by go_num,(by rw [rV,K.o];rfl:(s++[l]).length=n*4+(k+1)),Z,y.o.snoc TL.o⟩
       case measure=>simp [intOf];omega
      ·have tk:decide ((k:Int)<4)=false:=by simp;omega
       go_wp2_with fail;go_roundw
       case rel=>exact ⟨rfl,n+1,C,s,by omega,by go_num,(by rw [K.o];omega:s.length=(n+1)*4),g,y⟩
       case measure=>simp [intOf];omega
    ·have tn:decide ((n:Int)+1≤(p:Int))=false:=by simp;omega
     have b8:dN (s.length=4*p):=by show s.length=4*p;rw [K.o];omega
     have HF:=y;clear K y;go_wp2_with fail;clear p2 a9;go_loopw [7,16] (fun ok i wr=>ok=.bool true∧∃(m:Nat) (ev:Value) (B:List (List ByteArray)),m≤o∧i=.int .i64 ((m:Int)+1)∧dN (B.length=m)∧dN (JZ w #[.string F,.slice G I H,.int .i64 p,.int .i64 o] z t C s ev B wr)∧dN (Kd (fun i=>Jo (Ex P) ((least P).E (i+1))) B)) (fun _ i _=>o+1-(intOf i).toNat)
     case atStart=>exact ⟨rfl,0,_,[],by omega,rfl,rfl,g,fun i h=>by simp at h⟩
     case round=>
      clear g;obtain ⟨rfl,m,ev,B,hm,rfl,b0,g,HE⟩:=hrel;have p3:=g.o.b0.cell 3;have a9:=Ae g.o.b0;simp only [dM,dJ,dK] at p3;by_cases e8:m<o
      ·have tm:decide ((m:Int)+1≤(o:Int))=true:=by simp;omega
       go_wp2_with fail;refine (Ox HT.o P mn p o rp wr HY.o (HR.o.i9 g.o.o) (m+1) (by omega) (by omega)).mono ?_;rintro e w2 ⟨⟨lv,l,rfl,E,S,l2⟩,R⟩;obtain ⟨la,ll,lc,rfl⟩:=Ad E;have r:=Aa (g.o.quiet R);have M:=Aa (Ao E g.o.o.size);have c4:=b0.o;have e5:B.length≤1000:=by omega
       have TL:dN (Jo (Ex P) ((least P).E (B.length+1)) l):=by show Jo _ _ _;rw [c4];exact S
       have Q:=Ae r.o.b2;have a0:=r.o.b2.frozen 17;have U:=r.o.c17;obtain ⟨us,a7,D,a5⟩:=r.o.e;obtain ⟨va,b4,vc,rfl⟩:=Ad D;have a4:=Aa a7;have a3:=Aa a5;have T:=Aa (Aj D r.o.b2 (by decide));have b3:=r.o.o.size;clear g E S l2 R c4 a7 a5 p3 a9;go_wp2_with (at_builtin;refine EG _ rfl _ _ 31 rfl w.heap.size 28 i0 (.slice none 0 0) 1 24 Tryz.underlying31 c7 d0 d1 d2 rfl (by decide) _ _ _ rfl (D.alloc _) ⟨w2.heap.size,0,none⟩ 1 1 [.slice la ll lc] rfl rfl (A5 rfl _ _) (fun x hx=>by simp at hx;subst hx;rfl) (by decide) (by unfold maxLen;omega) (by omega) (by simp;omega) ?_;intro v' w5 V J a8;have q1:w5.cell? ⟨w.heap.size+2,17,none⟩=some (.slice va b4 vc):=(rM (J.block (w.heap.size+2) (by simp;omega) (fun h=>T.o _ h.symm rfl))).trans (by rw [←U];exact rM (Below.heap_alloc _ _ _ Q));have q2:w5.frozen? ⟨w.heap.size+2,17,none⟩=false:=(rS (J.block (w.heap.size+2) (by simp;omega) (fun h=>T.o _ h.symm rfl))).trans (by rw [←a0];exact rS (Below.heap_alloc _ _ _ Q));obtain ⟨d9,e3,e0,rfl⟩:=Ad V);have Z:=Aa (r.o.growE ((Ab.refl _ _).alloc _) J a4.o D a3.o M.o V a8);clear r M D a4 a3 T V J a8 a0 U Q b3;go_roundw
       case rel=>exact ⟨rfl,m+1,_,B++[l],by omega,by go_num,(by rw [rV,b0.o];rfl:(B++[l]).length=m+1),Z,HE.o.snoc TL.o⟩
       case measure=>simp [intOf];omega
      ·have tm:decide ((m:Int)+1≤(o:Int))=false:=by simp;omega
       have b7:dN (B.length=o):=by show B.length=o;rw [b0.o];omega
       have a6:(Fv z C ev).size=18:=by simp [Fv,g.o.v16]
       obtain ⟨A,b1⟩:∃c,Fv z C ev=c:=⟨_,rfl⟩;have B2:=g.o.b2;rw [b1] at a6 B2;have d4:=Aa B2;have b6:=Aa b1;clear B2 b1;have c0:A.all (·.oneCell')=true:=by
        rw [←b6.o];refine all_oneCell_toArray (fun u hu=>?_);rcases List.mem_append.1 hu with q | q
        ·obtain ⟨i,hi,rfl⟩:=List.mem_iff_getElem.1 q;obtain ⟨a,b,c,e⟩:=Ad (g.o.v i (by rw [b5.o,←g.o.v16];exact hi) hi);rw [e];rfl
        ·obtain ⟨⟨a1,c1,e1⟩,a2,c2,e2⟩:=g.o.form;simp only [List.mem_cons,List.not_mem_nil,or_false] at q;rcases q with rfl | rfl
         ·rw [e1];rfl
         ·rw [e2];rfl
       have c8:wr.there (w.heap.size+1) 0 A.size:=fun j hj=>by rw [Nat.zero_add];refine ⟨?_,g.o.b1.frozen j⟩;rw [g.o.b1.cell j,Array.getElem?_eq_getElem (show j<IK.size by rw [a6] at hj;exact hj)];rfl
       have b9:=Aa c8;have d3:=Aa c0;clear c8 c0;go_wp2_with (first
        | (refine J7 rfl (.tmp 6) rfl (w.heap.size+1+1) rfl A a6 d4.o ?_)
        | (refine wpList_store_mid rfl 33 (.tmp 4) (.tmp 98) rfl (w.heap.size+1) 0 A rfl rfl b9.o (by rw [Tryz.infoSets,a6]) d3.o ?_))
       have O:=C9 (w.heap.size+1) A.toList 0 wr;have d7:(loadVar 33 ⟨w.heap.size+1,0,none⟩).run Tryz.prog (wr.setCells (w.heap.size+1) 0 A.toList)=.ok (.agg A) (wr.setCells (w.heap.size+1) 0 A.toList):=by obtain ⟨d,hu,hd⟩:=Tryz.rowSets;have:=run_loadVar_mid (P:=Tryz.prog) (wr.setCells (w.heap.size+1) 0 A.toList) (w.heap.size+1) 0 33 A.toList d (World.rangeAt_setCells_same wr (w.heap.size+1) 0 A.toList (by simpa using b9.o)) hu hd (by rw [Tryz.infoSets];simp [a6]);simpa using this
       refine bodyPost_ret (v:=.tuple #[.agg A,.bool true]) (by rw [results_cell_tmp rfl];simp [asAddr,Result.andThen,d7]) rfl ⟨⟨z,C,ev,⟨t,s,B⟩,by rw [b6.o],⟨g.o.v16,b5.o,fun i N h2=>?_,?_,?_,?_,?_⟩,HV.o,b8.o,HF.o,b7.o,HE.o⟩,?_⟩
       ·have:=g.o.v i h2 N;exact Ao (Ac this O (Aj this g.o.b1 (by decide))) (rR _)
       ·exact (g.o.f.s9 O g.o.b1 (by decide) (by decide)).at
       ·exact (g.o.e.s9 O g.o.b1 (by decide) (by decide)).at
       ·show s.length≤1000;have:=b8.o;omega
       ·show B.length≤1000;have:=b7.o;omega
       ·have N:=g.o.o;refine ⟨O.os.trans N.os,O.tape.trans N.tape,O.output.trans N.output,rO N.size O.size,fun k hk _=>?_⟩;rw [O.block k (rP hk N.size) (by omega)];exact N.block k hk (fun q=>q)
def Ty(a:Array Value):Nat→List Value→Array Value
 | _,[]=>a
 | o,v::r=>Ty (a.setIfInBounds o v) (o+1) r
theorem OH:∀(b:List Value) (o i:Nat) (a:Array Value),o+b.length≤a.size→(Ty a o b)[i]? =if o≤i∧i<o+b.length then b[i-o]? else a[i]?
 | [],o,i,a,_=>by rw [Ty,if_neg (fun q=>by simp only [List.length_nil] at q;omega)]
 | v::r,o,i,a,h=>by
   simp only [rW] at h⊢;rw [Ty,OH r (o+1) i _ (by rw [Array.size_setIfInBounds];omega)];by_cases d:i=o
   ·subst d;rw [if_neg (by omega),if_pos (by omega),Array.getElem?_setIfInBounds_self_of_lt (by omega)];simp
   ·by_cases c:o+1≤i∧i<o+1+r.length
    ·rw [if_pos c,if_pos (by omega),show i-o=(i-(o+1))+1 by omega,dK]
    ·rw [if_neg c,if_neg (by omega),Array.getElem?_setIfInBounds_ne (by omega)]
theorem VV(a b:Array Value)(h:b.size=a.size):Ty b 0 a.toList=a:=by
 apply Array.ext_getElem?;intro i;rw [OH _ _ _ _ (by simp [h])];simp only [rR,true_and,Nat.zero_add,Array.length_toList,Nat.sub_zero,Array.getElem?_toList];split
 ·rfl
 ·rw [Array.getElem?_eq_none (by omega),Array.getElem?_eq_none (by omega)]
theorem Hs{b T}:∀(c:List Value) (o:Nat) (a:Array Value) (w:World),Ak b a T w→Ak b (Ty a o c) T (w.setCells b o c)
 | [],_,_,_,h=>h
 | v::r,o,_,_,h=>Hs r (o+1) _ _ (h.set o v)
theorem IR{b T}{cs a:Array Value}{w:World}(h:Ak b a T w)(c:a.size=cs.size):Ak b cs T (w.setCells b 0 cs.toList):=by have:=Hs cs.toList 0 a w h;rwa [VV cs a c] at this
theorem IS{b T n}{a:Array Value}{w:World}(h:Ak b a T w)(d:a.size=n):w.there b 0 n:=fun j c=>by rw [Nat.zero_add];refine ⟨?_,h.frozen j⟩;rw [h.cell j,Array.getElem?_eq_getElem (by omega)];rfl
theorem Ek.one{w j f d T}(h:Ek w j f d T):∀v,v∈j++[f,d]→v.oneCell'=true:=fun u m=>by
 rcases List.mem_append.1 m with q | q
 ·obtain ⟨i,g,rfl⟩:=List.mem_iff_getElem.1 q;obtain ⟨a,b,c,e⟩:=Ad (h.v i g (by rw [h.t16,←h.v16];exact g));rw [e];rfl
 ·obtain ⟨z,_,n,_⟩:=h.f;obtain ⟨A,_,o,_⟩:=h.e;obtain ⟨p,s,x,k⟩:=Ad n;obtain ⟨r,t,y,l⟩:=Ad o;simp only [List.mem_cons,List.not_mem_nil,or_false] at q;rcases q with rfl | rfl
  ·rw [k];rfl
  ·rw [l];rfl
theorem Dj.s9{w l v j b T}{m:Array Value}(h:Dj w v j)(f:Ab (fun k=>k=b) w l)(d:Ak b m T w)(n:T≠28)(o:T≠9):Dj l v j:=by obtain ⟨p,e,g,c⟩:=h;exact ⟨p,e,Ac g f (Aj g d n),fun i h a=>Ac (c i h a) f (Aj (c i h a) d o)⟩
theorem Ek.s9{w l j e d T b}{m:Array Value}(h:Ek w j e d T)(c:Ab (fun k=>k=b) w l)(a:Ak b m 33 w):Ek l j e d T:=
 ⟨h.v16,h.t16,fun i f g=>Ac (h.v i f g) c (Aj (h.v i f g) a (by decide)),h.f.s9 c a (by decide) (by decide),h.e.s9 c a (by decide) (by decide),h.fl,h.el⟩
theorem Oy{c:Func}{t p u:Tmp}{d:TypeId}(h:c.results=#[.tmp t,.cell p d,.tmp u])(b:Array Value)(P:Program)(w:World):
 (results c b).run P w=((asAddr (b.getD p undef)).run P w).andThen fun a e=>((loadVar d a).run P e).andThen fun v f=>.ok (.tuple #[b.getD t undef,v,b.getD u undef]) f:=by
 simp only [results,h];simp [Sem.run_bind,Result.andThen]
def Cd(a:List Sm):List Sm:=(fsOf a).flatMap (·.2)
def qM(i:List PFn→Nat→Prop)(a:List Sm)(w:World)(e:Ending)(c:World):Prop:=
 (∃P b g h f d T,i P b∧MadeP (fsOf a) 0 0 P∧NmP P∧AnHy P b (DS (Cd a)) (DT (Cd a))∧e=.returned (.tuple #[.pointer (some ⟨g,0,none⟩),.agg (Fv h f d),.bool true])∧Ek c h f d T∧TbP P (DS (Cd a)) (DT (Cd a)) T∧GH P b (DS (Cd a)) (DT (Cd a)) g c)∧Ab (fun _=>False) w c
structure Nf(B0:Nat)(w00 w:World):Prop where
 fo:Cf B0 w00
 cl:RZ
 sr:SrtAll
 it:ItOk w
 tb:JL w
 tl:0<w.heap.size
 bl:Below B0 w00 w
 sz:B0≤w.heap.size
theorem Nf.go{a c w b}(h:Nf a c w)(k:Ab (fun _=>False) w b):Nf a c b:=
 ⟨h.fo,h.cl,h.sr,h.it.go k,h.tb.O k (fun q=>q) h.tl,rP h.tl k.size,h.bl.trans (k.bL h.sz (fun _ q=>q.elim)),rO h.sz k.size⟩
theorem Pp{d j w}(h:Nf d j w):Calls Tryz.prog 19 #[.string PH] w fun e c=>∃i b f a,e=.returned (.tuple #[.pointer (some ⟨a,0,none⟩),.int .i64 0,.int .i64 0])∧AnHy Nc i b f∧GH Nc i b f a c∧b=1∧Ab (fun _=>False) w c:=by obtain ⟨g,k,l⟩:=Ml d j h.fo PH (by decide) Y6 WW Uf.1 Uf.2.1 Uf.2.2 rfl Zj (fun _ _ _ _=>Yy);refine (Hp h.cl PH Uf.1 Uf.2.1 g k w h.tb h.tl (l w h.bl h.sz)).mono ?_;rintro e c ⟨a,rfl,_,n,m⟩;exact ⟨_,_,_,a,rfl,g.anHy,n,YA,m⟩
structure Z5(s:ByteArray)(ss:List Sm):Prop where
 ok:∀s,s∈ss→s.In
 sz:s.size≤4000
 tk:∃y,Aw s s.size 0 x0=.inr y∧(AH s y).map Wv=Lo (fsOf ss)++[(0,[])]
def qQ(c:List Sm)(P:List PFn)(b:Nat):Prop:=∃a,Pe (fsOf c) a∧GoodP a∧P=Bu fnL a 0 0∧b=vx fnL EA
theorem Mx{m t w}(h:Nf m t w)(s:ByteArray)(a:List Sm)(x:Z5 s a):
 Calls Tryz.prog 19 #[.string s] w fun e l=>∃P k c,e=.returned (.tuple #[.pointer (some ⟨c,0,none⟩),.int .i64 0,.int .i64 0])∧qQ a P k∧MadeP (fsOf a) 0 0 P∧NmP P∧AnHy P k (DS (Cd a)) (DT (Cd a))∧GH P k (DS (Cd a)) (DT (Cd a)) c l∧Ab (fun _=>False) w l:=by
 obtain ⟨n,i,y,z,B⟩:=x;obtain ⟨d,G,g,b,u,v⟩:=TT m t h.fo s a n i y z B;have A:DU d=fnL:=(LS g).1;have D:∀q,q∈fsOf a→∀s,s∈q.2→s.In:=fun q p s i=>by unfold fsOf at p;obtain ⟨f,_,rfl⟩:=List.mem_map.1 p;exact n s (List.mem_filter.1 i).1
 obtain ⟨F,r⟩:=KT 0 0 D g;simp only [Nat.zero_add] at r;have j:=b.anHy;have o:=b.dA;refine (Hp h.cl s d G b u w h.tb h.tl (v w h.bl h.sz)).mono ?_;rw [A] at j o⊢;rw [r] at j⊢;rintro e l ⟨c,rfl,_,E,C⟩;exact ⟨_,_,c,rfl,⟨d,g,b,rfl,rfl⟩,F,o,j,E,C⟩
theorem Jo.aY{f:Nat→ByteArray}{m:Nat→Prop}{l:List ByteArray}(h:Jo f m l){s:ByteArray}:s∈l↔∃x,m x∧s=f x:=by obtain ⟨_,n,_,i,k⟩:=h;rw [k.mem_iff,List.mem_map];exact ⟨fun ⟨x,g,e⟩=>⟨x,(i x).1 g,e.symm⟩,fun ⟨x,g,e⟩=>⟨x,(i x).2 g,e.symm⟩⟩
theorem XD{t u:Nat}(h:ON t=ON u):t=u:=by have e:(CD t).1=(CD u).1:=congrArg Tg.kind h;have f:(CD t).2.1=(CD u).2.1:=congrArg Tg.aV h;have g:(CD t).2.2=(CD u).2.2:=congrArg Tg.aX h;unfold CD at e f g;by_cases i:t<144<;>by_cases k:t<156<;>by_cases l:u<144<;>by_cases m:u<156<;>simp only [i,k,l,m,if_true,if_false] at e f g<;>omega
section
variable {j : List Sm} {P : List PFn} (M : MadeP (fsOf j) 0 0 P) {d a c : Nat} (N : NmP P) (Y : AnHy P d a c)
include M
theorem Ip:P.length=4:=by rw [M.len,Ic]
theorem Wg{f v:Nat}(k:f<4)(l:v<4):EF P (vN f v)=GD f v:=by
 obtain ⟨h,i,_⟩:=Fu M k;have e:ON (vN f v)=⟨0,f,v⟩:=by unfold ON CD vN;rw [if_pos (by omega)];simp only;rw [show (f*12+v) / 12=f by omega,show (f*12+v) % 12=v by omega]
 have g:QE P f v=GA v:=by
  unfold QE;rw [i];have:v=0∨v=1∨v=2∨v=3:=by omega
  rcases this with rfl | rfl | rfl | rfl<;>rfl
 unfold EF GQ GD;rw [e];simp only [show¬(0:Nat)=1 by omega,show¬(0:Nat)=2 by omega,if_false];rw [h,g];apply ByteArray.ext;apply Array.ext';simp
omit M in
theorem OQ{n k:Nat}(g:1≤n)(f:k<4):EF P (pN n k)=EX n k:=by
 have e:ON (pN n k)=⟨1,n,k⟩:=by unfold ON CD pN;rw [if_neg (by omega),if_neg (by omega)];simp only;rw [show (156+(n-1)*4+k-156) / 4+1=n by omega,show (156+(n-1)*4+k-156) % 4=k by omega]
 unfold EF GQ EX JR;rw [e];apply ByteArray.ext;apply Array.ext';simp
theorem Yh{g:Nat}(h:g<4):EF P (fN g)=Yu g:=by
 obtain ⟨f,_⟩:=Fu M h;have e:ON (fN g)=⟨2,g,0⟩:=by unfold ON CD fN;rw [if_neg (by omega),if_pos (by omega)];simp only;rw [show 144+g-144=g by omega]
 unfold EF GQ Yu;rw [e];simp only [show¬(2:Nat)=1 by omega,if_false,if_true];rw [f];apply ByteArray.ext;apply Array.ext';simp
theorem Yg{f v:Nat}(e:f<4)(g:v<4):EM P a (vN f v):=.inl (.inl ⟨f,v,by rw [Ip M];exact e,by rw [(Fu M e).2.1];exact g,rfl⟩)
omit M in
theorem We{n k:Nat}(f:1≤n)(g:n≤a)(e:k<4):EM P a (pN n k):=.inl (.inr ⟨n,k,f,g,e,rfl⟩)
include N Y
theorem Gy{t u:Nat}(h:EM P a t)(i:EM P a u)(e:EF P t=EF P u):t=u:=by
 have f:P.length≤12:=by rw [Ip M];omega
 have g:=Y.ok.ok.l8;have k:=Qz f g Y.pn h;have l:=Qz f g Y.pn i;exact XD (XE N k l (YJ e))
variable {T : Tb} (B : TbP P a c T) (b : T.V.length = 16)
include B b
omit M N Y in
theorem QB{f v:Nat}(g:f<4)(h:v<4){s:ByteArray}:s∈FD T f v↔∃t,(least P).I (vN f v) t∧s=EF P t:=by
 have e:f*4+v<T.V.length:=by omega
 have:=B.v (f*4+v) e;dsimp only at this;rw [show (f*4+v) / 4=f by omega,show (f*4+v) % 4=v by omega] at this;unfold FD;rw [rU e];exact this.aY
omit M N Y in
theorem RP{f v t:Nat}(e:f<4)(g:v<4)(h:(least P).I (vN f v) t):FY (FD T f v) (EF P t)=true:=Ih.2 ((QB B b e g).2 ⟨t,h,rfl⟩)
omit M N Y in
theorem OT{f v e g:Nat}(i:f<4)(n:v<4)(k:e<4)(o:g<4)(h:(least P).F (vN f v) (vN e g)):Fj (FD T f v) (FD T e g)=true:=by
 refine Lj.2 fun s l=>?_
 obtain ⟨t,m,rfl⟩:=(QB B b i n).1 l;exact (QB B b k o).2 ⟨t,(CU P).flow _ _ _ h m,rfl⟩
omit M N Y in
theorem Zl{f v i:Nat}(g:i<T.F.length)(e:f<4)(m:v<4)(h:(least P).F (pN (i / 4+1) (i % 4)) (vN f v)):Fj T.F[i] (FD T f v)=true:=by
 refine Lj.2 fun s k=>?_
 obtain ⟨t,l,rfl⟩:=(B.f i g).aY.1 k;exact (QB B b e m).2 ⟨t,(CU P).flow _ _ _ h l,rfl⟩
omit M N Y in
theorem ZK{f v i:Nat}(g:i<T.F.length)(e:f<4)(m:v<4)(h:(least P).F (vN f v) (pN (i / 4+1) (i % 4))):Fj (FD T f v) T.F[i]=true:=by
 refine Lj.2 fun s k=>?_
 obtain ⟨t,l,rfl⟩:=(QB B b e m).1 k;exact (B.f i g).aY.2 ⟨t,(CU P).flow _ _ _ h l,rfl⟩
end
theorem Tr(R:Act→World→Prop)(b a e:Nat)(c:Array Value)(W:World){g j x2 x4 x5 x6 x7 x8 l m n o p r s t u x y z A B C D E F G H I J L M N O Q T U V X Y Z a0 a1 a2 a3 a4 a5 a6 a7 a8 a9 b0 b1 b2 b3 b4 b5 b6 b7 b8 c4 c1 c0:Value}
 (hz:c.size=18)(c2:c.all (·.oneCell')=true)(c3:e≠b)(hB:Ak b IK 33 W)(hN:Ak e c 33 W)
 (hQ:∀d,Ak b c 33 d→Ab (fun k=>k=b) W d→R {tmps:=#[g,j,.pointer (some ⟨a,0,none⟩),.pointer (some ⟨b,0,none⟩),.bool true,x5,x6,x7,x8,.pointer (some ⟨a,0,none⟩),l,.pointer (some ⟨e,0,none⟩),.bool true,m,n,o,p,r,s,t,u,x,y,z,A,B,C,D,E,F,G,H,I,J,L,M,N,O,Q,T,U,V,X,Y,Z,a0,a1,a2,a3,a4,a5,a6,a7,a8,a9,b0,b1,b2,b3,b4,b5,b6,b7,b8,.pointer (some ⟨a,0,none⟩),.agg c,.bool true],defers:=[]} d):
 Code.wp Tryz.prog (.region 11 #[⟨some 64,.move (.tmp 9),27, "make.go:266",#[],none⟩,⟨some 65,.load 33 (.tmp 11),33, "make.go:266",#[⟨3,.gcOnly .lateStores⟩],none⟩,⟨some 66,.move (.tmp 12),4, "make.go:266",#[⟨4,.gcOnly .lateStores⟩],none⟩,⟨some 2,.assign (.tmp 64),27, "make.go:266",#[⟨0,.data⟩,⟨0,.phase⟩,⟨1,.textOnly .lateStores⟩,⟨2,.textOnly .lateStores⟩],none⟩,⟨none,.store 33 (.tmp 3) (.tmp 65),0, "make.go:266",#[⟨1,.data⟩,⟨3,.chain⟩,⟨0,.phase⟩,⟨1,.phase⟩,⟨2,.textOnly .lateStores⟩,⟨3,.phase⟩],none⟩,⟨some 4,.assign (.tmp 66),4, "make.go:266",#[⟨2,.data⟩,⟨4,.chain⟩,⟨0,.phase⟩,⟨1,.phase⟩,⟨2,.phase⟩,⟨3,.phase⟩,⟨4,.phase⟩],none⟩] true) (Zw R) {tmps:=#[g,j,x2,.pointer (some ⟨b,0,none⟩),x4,x5,x6,x7,x8,.pointer (some ⟨a,0,none⟩),l,.pointer (some ⟨e,0,none⟩),.bool true,m,n,o,p,r,s,t,u,x,y,z,A,B,C,D,E,F,G,H,I,J,L,M,N,O,Q,T,U,V,X,Y,Z,a0,a1,a2,a3,a4,a5,a6,a7,a8,a9,b0,b1,b2,b3,b4,b5,b6,b7,b8,c4,c1,c0],defers:=[]} W:=by
 have HN:dN (∀d,Ab (fun k=>k=b) W d→Ak e c 33 d):=fun d h=>hN.O h c3
 have HB:dN (∀d,Ab (fun _=>False) W d→Ak b IK 33 d):=fun d h=>hB.O h (fun q=>q)
 have HQ:=Aa hQ;clear hN hB hQ;refine wp_region_held_drew (S:=fun d=>Ab (fun k=>k=b) W d) (by kernel_rfl) ((Ab.refl _ W).drew) (fun f=>?_);refine CX (i:=0) (v:=.pointer (some ⟨a,0,none⟩)) (a':={tmps:=#[g,j,x2,.pointer (some ⟨b,0,none⟩),x4,x5,x6,x7,x8,.pointer (some ⟨a,0,none⟩),l,.pointer (some ⟨e,0,none⟩),.bool true,m,n,o,p,r,s,t,u,x,y,z,A,B,C,D,E,F,G,H,I,J,L,M,N,O,Q,T,U,V,X,Y,Z,a0,a1,a2,a3,a4,a5,a6,a7,a8,a9,b0,b1,b2,b3,b4,b5,b6,b7,b8,.pointer (some ⟨a,0,none⟩),c1,c0],defers:=[]}) rfl (by kernel_rfl) (by kernel_rfl) (by kernel_rfl) (fun _ _ _ h=>h) (Or.inl ⟨by rfl,fun w b9=>by go_simp⟩) f (by kernel_rfl) ?_;refine CX (i:=1) (v:=.agg c) (a':={tmps:=#[g,j,x2,.pointer (some ⟨b,0,none⟩),x4,x5,x6,x7,x8,.pointer (some ⟨a,0,none⟩),l,.pointer (some ⟨e,0,none⟩),.bool true,m,n,o,p,r,s,t,u,x,y,z,A,B,C,D,E,F,G,H,I,J,L,M,N,O,Q,T,U,V,X,Y,Z,a0,a1,a2,a3,a4,a5,a6,a7,a8,a9,b0,b1,b2,b3,b4,b5,b6,b7,b8,.pointer (some ⟨a,0,none⟩),.agg c,c0],defers:=[]}) rfl (by kernel_rfl) (by kernel_rfl) (by kernel_rfl) (fun _ _ _ h=>h) (Or.inl ⟨by rfl,fun w b9=>Ja rfl _ rfl e rfl c Tryz.rowSets 18 Tryz.infoSets hz (HN.o w b9)⟩) f (by kernel_rfl) ?_;refine CX (i:=2) (v:=.bool true) (a':={tmps:=#[g,j,x2,.pointer (some ⟨b,0,none⟩),x4,x5,x6,x7,x8,.pointer (some ⟨a,0,none⟩),l,.pointer (some ⟨e,0,none⟩),.bool true,m,n,o,p,r,s,t,u,x,y,z,A,B,C,D,E,F,G,H,I,J,L,M,N,O,Q,T,U,V,X,Y,Z,a0,a1,a2,a3,a4,a5,a6,a7,a8,a9,b0,b1,b2,b3,b4,b5,b6,b7,b8,.pointer (some ⟨a,0,none⟩),.agg c,.bool true],defers:=[]}) rfl (by kernel_rfl) (by kernel_rfl) (by kernel_rfl) (fun _ _ _ h=>h) (Or.inl ⟨by rfl,fun w b9=>by go_simp⟩) f (by kernel_rfl) ?_;refine CX (i:=3) (v:=.pointer (some ⟨a,0,none⟩)) (a':={tmps:=#[g,j,.pointer (some ⟨a,0,none⟩),.pointer (some ⟨b,0,none⟩),x4,x5,x6,x7,x8,.pointer (some ⟨a,0,none⟩),l,.pointer (some ⟨e,0,none⟩),.bool true,m,n,o,p,r,s,t,u,x,y,z,A,B,C,D,E,F,G,H,I,J,L,M,N,O,Q,T,U,V,X,Y,Z,a0,a1,a2,a3,a4,a5,a6,a7,a8,a9,b0,b1,b2,b3,b4,b5,b6,b7,b8,.pointer (some ⟨a,0,none⟩),.agg c,.bool true],defers:=[]}) rfl (by kernel_rfl) (by kernel_rfl) (by kernel_rfl) (fun _ _ _ h=>h) (Or.inl ⟨by rfl,fun w b9=>by go_simp⟩) f (by kernel_rfl) ?_;refine wpAnyH_ready (rs:=[4]) (by kernel_rfl) (by simp) ?_;refine AllReadyH.cons rfl (fun K hK=>?_) AllReadyH.nil;rw [if_pos (by rfl)];refine wp_store_mid (P:=Tryz.prog) 33 (.tmp 3) (.tmp 65) rfl b 0 c rfl rfl (IS (HB.o _ ((Ab.refl _ W).drew)) (by rw [hz];rfl)) (by rw [Tryz.infoSets,hz]) c2 ?_;refine hK.out _ _ (f.trans (C9 b c.toList 0 _)) (fun f=>?_);clear hK K;refine CX (i:=5) (v:=.bool true) (a':={tmps:=#[g,j,.pointer (some ⟨a,0,none⟩),.pointer (some ⟨b,0,none⟩),.bool true,x5,x6,x7,x8,.pointer (some ⟨a,0,none⟩),l,.pointer (some ⟨e,0,none⟩),.bool true,m,n,o,p,r,s,t,u,x,y,z,A,B,C,D,E,F,G,H,I,J,L,M,N,O,Q,T,U,V,X,Y,Z,a0,a1,a2,a3,a4,a5,a6,a7,a8,a9,b0,b1,b2,b3,b4,b5,b6,b7,b8,.pointer (some ⟨a,0,none⟩),.agg c,.bool true],defers:=[]}) rfl (by kernel_rfl) (by kernel_rfl) (by kernel_rfl) (fun _ _ _ h=>h) (Or.inl ⟨by rfl,fun w b9=>by go_simp⟩) f (by kernel_rfl) ?_;refine wpAnyH_done (by kernel_rfl) ?_ _;exact HQ.o _ (IR (HB.o _ ((Ab.refl _ W).drew)) (by rw [hz];rfl)) f
theorem GH.s9{P g i e j w l b m t}(h:GH P g i e j w)(f:Ab (fun k=>k=b) w l)(c:Ak b m t w)(a:t≠3∧t≠9∧t≠190∧t≠136∧t≠98)(r:0≠b):GH P g i e j l:=by obtain ⟨o,s,n,u,d,p⟩:=h;exact ⟨o,s,n,u,d.O f (fun q=>by subst q;unfold Ak at d c;rw [d] at c;cases c;exact a.2.2.2.2 rfl),p.other f c ⟨a.1,a.2.1,a.2.2.1,a.2.2.2.1⟩ r⟩
theorem kA(B0:Nat)(e8 w:World)(h:Nf B0 e8 w)(s:ByteArray)(m:List Sm)(hM:Z5 s m)(sv:Value)(c6:∃a l c,sv=.slice a l c)(c3:DS (Cd m)≤240)(b9:DT (Cd m)≤240):
 Calls Tryz.prog 11 #[.agg (Vs s sv (DS (Cd m)) (DT (Cd m)))] w fun e w'=>qM (qQ m) m w e w':=by
 have c7:=c6;obtain ⟨D,F,E,rfl⟩:=c6;have d6:=Aa c7;have r:=Aa h;have HM:=Aa hM;clear h hM c7;unfold qM Vs;obtain ⟨y,a6⟩:∃p,DS (Cd m)=p:=⟨_,rfl⟩;obtain ⟨u,a3⟩:∃p,DT (Cd m)=p:=⟨_,rfl⟩;rw [a6] at c3⊢;rw [a3] at b9⊢;have d3:=Aa a6;have d0:=Aa a3;clear a6 a3;have AL:=Aa (((Ab.refl (fun _=>False) w).alloc (.cells #[.string s,.slice D F E,.int .i64 y,.int .i64 u] 25)).alloc (.cells IK 33));have a0:=Aa ((Ak.new w #[.string s,.slice D F E,.int .i64 y,.int .i64 u] 25).alloc (.cells IK 33));have a1:dN (Ak (w.heap.size+1) IK 33 ((w.alloc (.cells #[.string s,.slice D F E,.int .i64 y,.int .i64 u] 25)).alloc (.cells IK 33))):=by have:=Ak.new (w.alloc (.cells #[.string s,.slice D F E,.int .i64 y,.int .i64 u] 25)) IK 33;simp only [World.size_alloc] at this;exact this
 go_enter Tryz.func11,Tryz.ntmps11;go_wp2_with fail;generalize (w.alloc (.cells #[.string s,.slice D F E,.int .i64 y,.int .i64 u] 25)).alloc (.cells IK 33)=W at AL a0 a1⊢;refine (Pp (r.o.go AL.o)).mono ?_;rintro e w1 ⟨e5,e6,d8,e7,rfl,c9,c5,e2,S⟩;have O1:=Aa (AL.o.trans S);have a8:=Aa (a0.o.O S (fun q=>q));have a9:=Aa (a1.o.O S (fun q=>q));have b6:=Aa c9;have b3:=Aa c5;clear S a0 a1 c9 c5;go_wp2_with fail;refine (KW r.o.sr Nc e5 e6 d8 e7 w1 b6.o b3.o (r.o.it.go O1.o) 1 2 (by omega) (by omega) (by omega)).mono ?_;rintro e w2 ⟨⟨lv,l,rfl,C,t2,l2⟩,V⟩;have hl:=WV t2;subst hl;obtain ⟨la,ll,lc,rfl⟩:=Ad C;have c0:=Aq C;simp only [rW,List.length_nil,Nat.zero_add] at c0;subst c0;obtain ⟨lg,rfl⟩:=AA C (by simp);have b8:=Gv (l:=[⟨#[49,46,48]⟩]) C 0 (by simp);have e1:=(C.lt lg rfl).2;simp only [List.getElem_cons_zero] at b8;have O2:=Aa (O1.o.trans V);have M:=Aa (a8.o.O V (fun q=>q));have b0:=Aa (a9.o.O V (fun q=>q));clear C t2 l2 V a8 a9 O1 b6 b3 e2;have K:=M.o.cell 0;have a7:=Ae M.o;simp only [dM,dJ] at K;go_wp2_with fail;refine (Mx (r.o.go O2.o) s m HM.o).mono ?_;rintro e w3 ⟨P,mn,L,rfl,c4,c1,hn,hy,hr,X⟩;rw [d3.o,d0.o] at hy hr;have O3:=Aa (O2.o.trans X);have z:=Aa (M.o.O X (fun q=>q));have b1:=Aa (b0.o.O X (fun q=>q));have d4:=Aa c4;have b2:=Aa c1;have d2:=Aa hn;have HY:=Aa hy;have HR:=Aa hr;clear X M b0 O2 K a7 b8 e1 c4 c1 hy hr hn;have K:=z.o.cell 0;have p1:=z.o.cell 1;have p2:=z.o.cell 2;have p3:=z.o.cell 3;have a7:=Ae z.o;simp only [dM,dJ,dK] at K p1 p2 p3;go_wp2_with fail;refine (VW r.o.sr P mn y u L s (.slice D F E) w3 HY.o HR.o (r.o.it.go O3.o) (fun f v hf hv=>Vj b2.o hf hv) c3 b9 d6.o).mono ?_;rintro e i ⟨⟨Z,Q,O,T,rfl,U,c8⟩,Y⟩;obtain ⟨g,R⟩:∃c,Z++[Q,O]=c:=⟨_,rfl⟩;have a4:Fv Z Q O=g.toArray:=by rw [←R];rfl
 have J:g.length=18:=by rw [←R];simp [U.v16]
 have a5:=U.one;rw [R] at a5;have O4:=Aa (O3.o.trans Y);have a2:=Aa (b1.o.O Y (fun q=>q));have d5:=Aa (HR.o.i9 Y);have b5:=Aa U;have d7:=Aa c8;have d1:=Aa a4;rw [a4];clear Y z b1 O3 K p1 p2 p3 a7 U c8 a4 R;have BN:=Aa (Ak.new i IK 33);have o:=Aa ((Ab.refl (fun _=>False) i).alloc (.cells IK 33));go_wp2_with (refine wpList_store_mid rfl 33 (.tmp 11) (.tmp 62) rfl i.heap.size 0 g.toArray rfl rfl (by have:=IS BN.o (n:=g.toArray.size) (by simp [J]);exact this) (by rw [Tryz.infoSets];simp [J]) (all_oneCell_toArray a5) ?_);have B:=C9 i.heap.size g 0 (i.alloc (.cells IK 33));have e9:=Ae a2.o;have H:Ab (fun _=>False) i ((i.alloc (.cells IK 33)).setCells i.heap.size 0 g):=by refine ⟨B.os.trans o.o.os,B.tape.trans o.o.tape,B.output.trans o.o.output,rO o.o.size B.size,fun k I _=>?_⟩;rw [B.block k (rP I o.o.size) (by omega)];exact o.o.block k I (fun q=>q)
 have N5:=Aa (IR (cs:=g.toArray) BN.o (by simp [J]));have N:=Aa (a2.o.O H (fun q=>q));have O5:=Aa (O4.o.trans H);have b7:=Aa (b5.o.i9 H);have b4:=Aa (d5.o.i9 H);have c2:i.heap.size≠w.heap.size+1:=by omega
 clear BN a2 O4 b5 o B H;generalize (i.alloc (.cells IK 33)).setCells i.heap.size 0 g=w5 at N5 N O5 b7 b4⊢;generalize i.heap.size=nb at N5 c2⊢;refine M7 ?_;refine Tr _ (w.heap.size+1) L nb g.toArray w5 (by simp [J]) (all_oneCell_toArray a5) c2 N.o N5.o ?_;intro G d9 x;have h6:Ab (fun _=>False) w G:=by have A:=O5.o;refine ⟨x.os.trans A.os,x.tape.trans A.tape,x.output.trans A.output,rO A.size x.size,fun k I _=>?_⟩;rw [x.block k (rP I A.size) (by omega)];exact A.block k I (fun q=>q)
 have e0:(loadVar 33 ⟨w.heap.size+1,0,none⟩).run Tryz.prog G=.ok (.agg g.toArray) G:=by obtain ⟨d,hu,hd⟩:=Tryz.rowSets;exact run_loadVar_mid (P:=Tryz.prog) G (w.heap.size+1) 0 33 g d (fun j v hv=>by rw [Nat.zero_add,d9.cell j];simpa using hv) hu hd (by rw [Tryz.infoSets,J])
 have e3:GH P mn y u L G:=GH.s9 (b:=w.heap.size+1) (t:=33) b4.o x N.o (by decide) (by have:=r.o.tl;omega);have e4:Ek G Z Q O T:=b7.o.s9 x N.o;go_wp2_with fail;refine bodyPost_ret (v:=.tuple #[.pointer (some ⟨L,0,none⟩),.agg g.toArray,.bool true]) (by rw [Oy rfl];simp [asAddr,Result.andThen,e0]) rfl ⟨⟨P,mn,L,Z,Q,O,T,d4.o,b2.o,d2.o,HY.o,by rw [d1.o],e4,d7.o,e3⟩,h6⟩
theorem Xv(l:Ln):(Qt l).In:=by
 have a:=Bz l.a1 10 (by omega);refine ⟨⟨Bz _ _ (by omega),?_,LY l⟩,Bz _ _ (by omega),Bz _ _ (by omega),Bz _ _ (by omega),Bz _ _ (by omega),NZ l,fun q=>?_⟩
 ·show AK l.a1 10≤9;omega
 ·have q:AK l.a1 10=7:=q;show (Fa l).length=AK l.a4 4 % 3;unfold Fa;rw [if_neg (by omega),if_pos q,Ki]
theorem RJ(a:List Ln):Hd a 4=Cd (IC a):=by unfold Hd Cd fsOf Hj IC;rw [List.flatMap_map]
theorem YZ(a:List Ln):tA a 4=CI (YN (IC a)):=rfl
theorem Zu{a:List Ln}{s:ByteArray}(h:s.data.toList=tA a 4)(g:s.size≤4000):Z5 s (IC a):=by
 have b:∀x,x∈IC a→x.In:=fun x c=>by unfold IC at c;obtain ⟨l,_,rfl⟩:=List.mem_map.1 c;exact Xv l
 rw [YZ] at h;obtain ⟨y,d,e⟩:=ST s (IC a) h;refine ⟨b,g,y,d,?_⟩;rw [e,Zz _ (fun s f=>(b s f).ok)]
theorem Xk(a:List Ln):(Cd (IC a)).length≤240:=by rw [←RJ];exact MU a 4
theorem oC(R:Act→World→Prop)(r k m d:Nat)(A y x D:Int)(u:Option Addr)(t s:Nat)(o:World)(H:Value→World→Prop)(I:World→Prop){V x6 x7 x8 x9 Y b0 c1 d2 d3 e0 f3 g0 g1 g3 g4 g6 g7 g8 g9 h0 h1 h2 h3 h4 h5 h6 h7 h8 h9 i0 i1 i2 i3 i4 i5 i6 i7 i8 i9 j0 j1 j2 j3 j4 j5 j6 j7 j8 j9 k0 k1 k2 k3 k4 k5 k6 k7 k8 k9 l0 l1 l2 l3 l4 l5 l6 l7 l8 l9 m0 m1 m2 m3 m4 m5 m6 m7 m8 m9 n0 n1 n2 n3 n4 n5 n6 n7 n8 n9 o0 o1 o2 o3 o4 a0 a1 a2 a3 a4 a5 a6 a7 a8 a9 b1 b2 b3 b4 b5 b6 b7 b8 b9 c0 c2 c3 c4 c5 c6 c7 c8 c9 d0 d1 o7 o8 o9 p0 p1 p2 p3 p4 p5 p6 p7 p8 p9 q0 d4 d5 d6 d7 d8 d9 e1 e3 e4 e6 e7 e8 e9 f0 f1 f2 f4 f5 f6 f7 f8 f9:Value}
 (J:o.cell? ⟨d,4,none⟩=some (.int .i64 x))(L:o.cell? ⟨d,5,none⟩=some (.slice u t s))(fb:o.cell? ⟨k,m+1,none⟩=some (.int .i64 D))(P:d<o.heap.size)
 (M:∀W,Ab (fun _=>False) o W→Calls Tryz.prog 85 #[.pointer (some ⟨r,0,none⟩),.int .i64 D,.slice u t s] W fun e n=>∃v,e=.returned v∧(∃a l c,v=.slice a l c)∧H v n∧Ab (fun _=>False) W n)
 (N:∀v W,H v W→Ab (fun _=>False) o W→Calls Tryz.prog 86 #[.pointer (some ⟨r,0,none⟩),.int .i64 y,.int .i64 x,v,.int .i64 A] W fun e n=>e=.returned (.tuple #[])∧I n∧n.cell? ⟨d,4,none⟩=some (.int .i64 x)∧n.cell? ⟨d,5,none⟩=some (.slice u t s))
 (O:∀(E:Option Addr) (G F:Nat) (B:World),I B→R {tmps:=#[.pointer (some ⟨r,0,none⟩),V,.pointer (some ⟨k,m,none⟩),.pointer (some ⟨d,0,none⟩),.int .i64 A,.int .i64 y,x6,x7,x8,x9,Y,b0,c1,d2,d3,e0,f3,g0,g1,g3,g4,g6,g7,g8,g9,h0,h1,h2,h3,h4,h5,h6,h7,h8,h9,i0,i1,i2,i3,i4,i5,i6,i7,i8,i9,j0,j1,j2,j3,j4,j5,j6,j7,j8,j9,k0,k1,k2,k3,k4,k5,k6,k7,k8,k9,l0,l1,l2,l3,l4,l5,l6,l7,l8,l9,m0,m1,m2,m3,m4,m5,m6,m7,m8,m9,n0,n1,n2,n3,n4,n5,n6,n7,n8,n9,o0,o1,o2,o3,o4,a0,a1,a2,a3,a4,a5,a6,a7,a8,a9,b1,b2,b3,b4,b5,b6,b7,b8,b9,c0,c2,c3,c4,c5,c6,c7,c8,c9,d0,d1,.pointer (some ⟨r,0,none⟩),.int .i64 y,.pointer (some ⟨d,4,none⟩),.int .i64 x,.pointer (some ⟨r,0,none⟩),.pointer (some ⟨k,m,none⟩),.pointer (some ⟨k,m,none⟩),.pointer (some ⟨k,m+1,none⟩),.int .i64 D,.pointer (some ⟨d,5,none⟩),.slice u t s,.slice E G F,.int .i64 A,.tuple #[],d4,d5,d6,d7,d8,d9,e1,e3,e4,e6,e7,e8,e9,f0,f1,f2,f4,f5,f6,f7,f8,f9],defers:=[]} B):
 Code.wp Tryz.prog (.region 22 #[⟨some 130,.move (.tmp 0),173, "runner.go:75",#[],none⟩,⟨some 131,.move (.tmp 5),3, "runner.go:75",#[],none⟩,⟨some 132,.fieldAddr 190 (.tmp 3) 4,0, "runner.go:75",#[],none⟩,⟨some 133,.load 3 (.tmp 132),3, "runner.go:75",#[⟨2,.data⟩],none⟩,⟨some 134,.move (.tmp 0),173, "runner.go:75",#[],none⟩,⟨some 135,.move (.tmp 2),187, "runner.go:75",#[],none⟩,⟨some 136,.nilCheck (.tmp 135),0, "runner.go:75",#[⟨5,.data⟩],none⟩,⟨some 137,.fieldAddr 176 (.tmp 136) 1,0, "runner.go:75",#[⟨6,.data⟩],none⟩,⟨some 138,.load 3 (.tmp 137),3, "runner.go:75",#[⟨7,.data⟩],none⟩,⟨some 139,.fieldAddr 190 (.tmp 3) 5,0, "runner.go:75",#[],none⟩,⟨some 140,.load 37 (.tmp 139),37, "runner.go:75",#[⟨9,.data⟩],none⟩,⟨some 141,.call ⟨.value (.func 85),#[.tmp 134,.tmp 138,.tmp 140],#[173,3,37]⟩,174, "runner.go:75",#[⟨4,.data⟩,⟨8,.data⟩,⟨10,.data⟩],none⟩,⟨some 142,.move (.tmp 4),3, "runner.go:75",#[],none⟩,⟨some 143,.call ⟨.value (.func 86),#[.tmp 130,.tmp 131,.tmp 133,.tmp 141,.tmp 142],#[173,3,3,174,3]⟩,0, "runner.go:75",#[⟨0,.data⟩,⟨1,.data⟩,⟨3,.data⟩,⟨11,.data⟩,⟨12,.data⟩,⟨11,.chain⟩],none⟩] true) (LD R) {tmps:=#[.pointer (some ⟨r,0,none⟩),V,.pointer (some ⟨k,m,none⟩),.pointer (some ⟨d,0,none⟩),.int .i64 A,.int .i64 y,x6,x7,x8,x9,Y,b0,c1,d2,d3,e0,f3,g0,g1,g3,g4,g6,g7,g8,g9,h0,h1,h2,h3,h4,h5,h6,h7,h8,h9,i0,i1,i2,i3,i4,i5,i6,i7,i8,i9,j0,j1,j2,j3,j4,j5,j6,j7,j8,j9,k0,k1,k2,k3,k4,k5,k6,k7,k8,k9,l0,l1,l2,l3,l4,l5,l6,l7,l8,l9,m0,m1,m2,m3,m4,m5,m6,m7,m8,m9,n0,n1,n2,n3,n4,n5,n6,n7,n8,n9,o0,o1,o2,o3,o4,a0,a1,a2,a3,a4,a5,a6,a7,a8,a9,b1,b2,b3,b4,b5,b6,b7,b8,b9,c0,c2,c3,c4,c5,c6,c7,c8,c9,d0,d1,o7,o8,o9,p0,p1,p2,p3,p4,p5,p6,p7,p8,p9,q0,d4,d5,d6,d7,d8,d9,e1,e3,e4,e6,e7,e8,e9,f0,f1,f2,f4,f5,f6,f7,f8,f9],defers:=[]} o:=by
 have HA:=Aa M;have HE:=Aa N;have HQ:=Aa O;clear M N O;refine wp_region_held_drew (S:=fun n=>n.cell? ⟨d,4,none⟩=some (.int .i64 x)∧n.cell? ⟨d,5,none⟩=some (.slice u t s)) (by kernel_rfl) ⟨J,L⟩ (fun f=>?_);refine wpAnyH_take (i:=0) (v:=.pointer (some ⟨r,0,none⟩)) rfl (by kernel_rfl) (by kernel_rfl) (by kernel_rfl) (fun _ _ _ h=>h) (Or.inl ⟨by rfl,fun w b=>by obtain ⟨g,j⟩:=b;go_simp⟩) f ?_;simp only [Act.put];refine wpAnyH_take (i:=1) (v:=.int .i64 y) rfl (by kernel_rfl) (by kernel_rfl) (by kernel_rfl) (fun _ _ _ h=>h) (Or.inl ⟨by rfl,fun w b=>by obtain ⟨g,j⟩:=b;go_simp⟩) f ?_;simp only [Act.put];refine wpAnyH_take (i:=2) (v:=.pointer (some ⟨d,4,none⟩)) rfl (by kernel_rfl) (by kernel_rfl) (by kernel_rfl) (fun _ _ _ h=>h) (Or.inl ⟨by rfl,fun w b=>by obtain ⟨g,j⟩:=b;go_simp⟩) f ?_;simp only [Act.put];refine wpAnyH_take (i:=3) (v:=.int .i64 x) rfl (by kernel_rfl) (by kernel_rfl) (by kernel_rfl) (fun _ _ _ h=>h) (Or.inl ⟨by rfl,fun w b=>by obtain ⟨g,j⟩:=b;go_simp⟩) f ?_;simp only [Act.put];refine wpAnyH_take (i:=4) (v:=.pointer (some ⟨r,0,none⟩)) rfl (by kernel_rfl) (by kernel_rfl) (by kernel_rfl) (fun _ _ _ h=>h) (Or.inl ⟨by rfl,fun w b=>by obtain ⟨g,j⟩:=b;go_simp⟩) f ?_;simp only [Act.put];refine wpAnyH_take (i:=5) (v:=.pointer (some ⟨k,m,none⟩)) rfl (by kernel_rfl) (by kernel_rfl) (by kernel_rfl) (fun _ _ _ h=>h) (Or.inl ⟨by rfl,fun w b=>by obtain ⟨g,j⟩:=b;go_simp⟩) f ?_;simp only [Act.put];refine wpAnyH_take (i:=6) (v:=.pointer (some ⟨k,m,none⟩)) rfl (by kernel_rfl) (by kernel_rfl) (by kernel_rfl) (fun _ _ _ h=>h) (Or.inl ⟨by rfl,fun w b=>by obtain ⟨g,j⟩:=b;go_simp⟩) f ?_;simp only [Act.put];refine wpAnyH_take (i:=7) (v:=.pointer (some ⟨k,m+1,none⟩)) rfl (by kernel_rfl) (by kernel_rfl) (by kernel_rfl) (fun _ _ _ h=>h) (Or.inl ⟨by rfl,fun w b=>by obtain ⟨g,j⟩:=b;go_simp⟩) f ?_;simp only [Act.put];refine wpAnyH_take (i:=9) (v:=.pointer (some ⟨d,5,none⟩)) rfl (by kernel_rfl) (by kernel_rfl) (by kernel_rfl) (fun _ _ _ h=>h) (Or.inl ⟨by rfl,fun w b=>by obtain ⟨g,j⟩:=b;go_simp⟩) f ?_;simp only [Act.put];refine wpAnyH_take (i:=10) (v:=.slice u t s) rfl (by kernel_rfl) (by kernel_rfl) (by kernel_rfl) (fun _ _ _ h=>h) (Or.inl ⟨by rfl,fun w b=>by obtain ⟨g,j⟩:=b;go_simp⟩) f ?_;simp only [Act.put];refine wpAnyH_take (i:=12) (v:=.int .i64 A) rfl (by kernel_rfl) (by kernel_rfl) (by kernel_rfl) (fun _ _ _ h=>h) (Or.inl ⟨by rfl,fun w b=>by obtain ⟨g,j⟩:=b;go_simp⟩) f ?_;simp only [Act.put];refine wpAnyH_ready (rs:=[8]) (by kernel_rfl) (by simp) ?_;refine AllReadyH.cons rfl (fun K p=>?_) AllReadyH.nil;go_simp;refine p.out _ _ f (fun f=>?_);clear p K;refine wpAnyH_ready (rs:=[11]) (by kernel_rfl) (by simp) ?_;refine AllReadyH.cons rfl (fun K p=>?_) AllReadyH.nil;go_simp;refine (HA.o _ (by repeat (first | exact Ab.refl _ _ | refine Ab.drew ?_ | refine Ab.drewN ?_ _ | refine Ab.alloc ?_ _))).mono ?_;rintro e U ⟨v2,rfl,⟨E,G,F,rfl⟩,Q,T⟩;have U1:=Aa Q;have C:=Aa (Ab.trans (X:=fun _=>False) (a:=o) (by repeat (first | exact Ab.refl _ _ | refine Ab.drew ?_ | refine Ab.drewN ?_ _ | refine Ab.alloc ?_ _)) T);have g2:U.cell? ⟨d,4,none⟩=some (.int .i64 x):=(rM (C.o.block d P (fun q=>q))).trans J;have g5:U.cell? ⟨d,5,none⟩=some (.slice u t s):=(rM (C.o.block d P (fun q=>q))).trans L;clear Q T;dsimp only;refine p.out _ _ ⟨g2,g5⟩ (fun f=>?_);clear p K;refine wpAnyH_ready (rs:=[13]) (by kernel_rfl) (by simp) ?_;refine AllReadyH.cons rfl (fun K p=>?_) AllReadyH.nil;go_simp;refine (HE.o _ _ U1.o C.o).mono ?_;rintro e B ⟨rfl,z,o5,o6⟩;have Z:=Aa z;clear z;try dsimp only
 refine p.out _ _ ⟨o5,o6⟩ (fun _=>?_);clear p K;refine wpAnyH_done (by kernel_rfl) ?_ _;exact HQ.o E G F B Z.o
end Go.Proofs.YtegmjgjkcdbmkaaGreatDoor
