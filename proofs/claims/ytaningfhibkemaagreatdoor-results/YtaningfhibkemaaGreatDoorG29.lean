/- Part of the proof: LuA LuB LuC LuD. -/
import Derived.Test.YtaningfhibkemaaGreatDoorG32
import Derived.Test.YtaningfhibkemaaGreatDoorG31
set_option maxRecDepth 100000
set_option maxHeartbeats 4000000
namespace Go.Proofs.YtaningfhibkemaaGreatDoor
open Go.RowKit Go.Proofs.Tryz
open Option renaming none->Z,some->T
open Value renaming int->G,slice->Y
open IntKind renaming i64->A
theorem Pv{l:List ByteArray}(h:l.Nodup){v:Nat}(e:v<l.length):BC l l[v] 0=(v:Int):=by have b:=iA e;obtain⟨c,d⟩:=Iy b;have a:=MP b ByteArray.empty;rw[gV c]at a;rw[d,(List.getElem_inj h).1 a]
theorem Yk{P:List PFn}(N:NmP P){f v:Nat}(a:f<P.length)(c:v<(As P f).t8.length):GH P (CR P f) (Ii P f v) 0=T (vN f v):=by
 have e:∀k (h:k<P.length),As P k=P[k]:=fun k h=>by unfold As;rw[gV h];rfl
 have g:BC (As P f).t8 (Ii P f v) 0=(v:Int):=by
  have:Ii P f v=(As P f).t8[v]:=by unfold Ii;rw[gV c];rfl
  rw[this];exact Pv (N.gE f) c
 have:∀d k,k+d=f->GH (P.drop k) (CR P f) (Ii P f v) k=T (vN f v):=by
  intro d;induction d with
  |zero=>
   intro k i;obtain rfl:k=f:=by omega
   rw[J3 P _ _ k a,<-e k a,g,jR ⟨rfl,by omega⟩];rfl
  |succ d j=>
   intro k i;have b:k<P.length:=by omega
   rw[J3 P _ _ k b,jQ,j (k+1) (by omega)];rintro⟨q,_⟩;have:=N.inj k f b a (by rw[e k b];exact CA q);omega
 exact this f 0 (by omega)
theorem ZD{P:List PFn}{o p h:Nat}{a:List RF}{k:List FS}(K:LsK P o p h a k){f v:Nat}(d:f<a.length)(n:v<a[f].t8.length):Ui a a[f].name.d9 a[f].t8[v]=true:=by
 have m:(a.map fun x=>x.name.d9).Nodup:=by
  refine List.pairwise_iff_getElem.2 fun i j e g q c=>?_
  rw[iT]at e g;rw[jE,jE,K.name i e,K.name j g]at c;have:=K.nm.inj i j (by rw[<-K.len];omega) (by rw[<-K.len];omega) c;omega
 have b:=Pv m (v:=f) (by rw[iT];exact d);rw[jE]at b;unfold Ui;rw[b,Int.toNat_natCast,gV d];obtain⟨_,l⟩:=Iy (iA n);simp only[Option.map_some,Option.getD_some,l];simp
structure WdS(w1:World)(wb:Nat)(rv lv pv:Value)(n:Nat)(w:World):Prop where
 o:O (fun k=>k=wb) w1 w
 hd:∃hv us,W wb #[rv,lv,pv,hv] 29 w/\w.ownsRow w1.heap.size 51 1 hv n us
theorem WdS.s9{e f c a b n w d}(h:WdS e f c a b n w)(k:O kJ w d):WdS e f c a b n d:=by obtain⟨j,l,g,i⟩:=h.hd;exact⟨h.o.dM k,j,l,g.d8 k id,Ac i k (fun _ _ q=>q)⟩
def JT(w c:World):Prop:=∀b a t,t≠29->t≠9->t≠51->W b a t w->W b a t c
theorem JT.of{w a}(k:O kJ w a):JT w a:=fun _ _ _ _ _ _ h=>h.d8 k id
theorem JT.trans{a b c}(h:JT a b)(k:JT b c):JT a c:=fun x d t e f g q=>k x d t e f g (h x d t e f g q)
theorem WdS.row{e r p l o n w d v m x}(h:WdS e r p l o n w)(c:w.ownsRow e.heap.size 9 1 v m x)(k:O (fun k=>v.ownBlock=T k) w d):WdS e r p l o n d/\JT w d:=by obtain⟨s,u,f,g⟩:=h.hd;exact⟨⟨h.o.thn k (fun j i q=>by have:=(c.lt j q).1;omega),s,u,f.d8 k (fun q=>Am c f (by decide) _ q rfl),Ac g k (fun j i=>Gz g c (by decide) j i)⟩,fun b y t _ a _ q=>q.d8 k (fun z=>Am c q a _ z rfl)⟩
theorem WdS.app{b f e c d n w a v m j o}(h:WdS b f e c d n w)(i:w.ownsRow b.heap.size 9 1 v m j)(g:(w.alloc o).grownBy a v.ownBlock):WdS b f e c d n a/\JT w a:=h.row i (O.grown ((O.refl _ w).alloc o) g (fun _ q=>.inl q))
theorem WdS.push{o c l f i n w Wz a d C}(h:WdS o c l f i n w)(m:W c #[l,f,i,d] 29 w)(s:w.ownsRow o.heap.size 51 1 d n C)(k:O kJ w Wz)(g:Wz.grownBy a d.ownBlock){e x}(r:a.ownsRow o.heap.size 51 1 e (n+1) x):WdS o c l f i (n+1) (a.setCell ⟨c,3,Z⟩ e)/\JT w (a.setCell ⟨c,3,Z⟩ e)/\W c #[l,f,i,d] 29 a:=by have u:O (fun k=>d.ownBlock=T k) w a:=(k.mono (fun _ _ q=>q.elim)).grown g (fun _ q=>.inl q);have p:W c #[l,f,i,d] 29 a:=m.d8 u (fun q=>Am s m (by decide) _ q rfl);have v:O (fun k=>k=c) a (a.setCell ⟨c,3,Z⟩ e):=(O.refl _ a).t9 3 _;exact⟨⟨(h.o.thn u (fun j F q=>by have:=(s.lt j q).1;omega)).trans v,e,x,p.set 3 _,Ac r v (Am r p (by decide))⟩,fun b E t y _ B q=>(q.d8 u (fun z=>Am s q B _ z rfl)).d8 v (fun z=>by subst z;unfold W at m q;rw[m]at q;cases q;exact y rfl),p⟩
theorem PP(s:World)(wb:Nat)(r1:Option Addr)(r2 r3:Nat)(l1:Option Addr)(l2 l3:Nat)(p1:Option Addr)(p2 p3 n:Nat)(w:World)(h:WdS s wb (Y r1 r2 r3) (Y l1 l2 l3) (Y p1 p2 p3) (4*n) w)(hn:n<=30000)(va:Value)(L:List ByteArray)(P:Au s.heap.size w va L)(hl:L.length<=20000):
 Calls prog 66 #[.pointer (T ⟨wb,0,Z⟩),va] w fun e w'=>e=.returned (.tuple #[])/\WdS s wb (Y r1 r2 r3) (Y l1 l2 l3) (Y p1 p2 p3) (4*(n+1)) w'/\JT w w':=by
 obtain⟨i0,a0,a4,a5,a6⟩:=info_parts Tryz.infoStr;obtain⟨V,Q,R,S,U⟩:=info_parts Tryz.infoRowS;obtain⟨a1,a2,N,rfl⟩:=Ad P;have ha:=Ag P;subst ha;obtain⟨hv,us,a,d⟩:=h.hd;obtain⟨h1,h2,h3,rfl⟩:=Ad d;have B:=Ag d;subst B;have r:=a.cell 3;have C:=Ae a;simp only[gR,gP,gQ]at r;have e4:((4*n:Nat):Int).tdiv 4=(n:Int):=by rw[Int.tdiv_eq_ediv_of_nonneg (by omega)];omega
 have HW:=J h;have HL:D (w.ownsRow s.heap.size 9 1 (Y a1 L.length N) L.length (L.map .string)):=P;clear h P a d;go_enter func66,ntmps66;go_wp2_with fail;refine(Wy n (by omega) w).mono ?_;rintro e w2 ⟨x,rfl,_,o2⟩;obtain⟨b,c,l⟩:=Ax (HW.o.s9 o2) (JT.of o2) (Ac HL.o o2 (fun _ _ q=>q));clear HW HL o2 r C e4;go_wp2_with fail;go_loopw[5] (fun i wr=>∃(k:Nat) (us:List Value),k<=L.length/\i=G A k/\D (WdS s wb (Y r1 r2 r3) (Y l1 l2 l3) (Y p1 p2 p3) (4*n) wr)/\D (JT w wr)/\D (wr.ownsRow s.heap.size 9 1 (Y a1 L.length N) L.length us)) (fun i _=>L.length-(intOf i).toNat)
 case atStart=>exact⟨0,_,by omega,rfl,b,c,l⟩
 case round=>
  clear b c l;obtain⟨k,us,hk,rfl,b,c,l⟩:=hrel;by_cases a8:k<L.length
  .have tk:decide ((k:Int)<(L.length:Int))=true:=by simp;omega
   obtain⟨g,rfl⟩:=Ap l.o (by omega);have lg:=(l.o.lt g rfl).2;have fz:=l.o.frozenAt k;have cu:=l.o.cellAt k (by omega);obtain⟨s1,s2⟩:=l.o.stored k (.string x);obtain⟨f,j⟩:=b.o.row l.o (O.grown (X:=fun k=>Value.ownBlock (Y (T ⟨g,0,Z⟩) L.length N)=T k) (O.refl _ wr) s2 (fun _ q=>.inl q));obtain⟨u0,a7⟩:∃u,us[k]? =T u:=⟨_,gV (by have:=l.o.1;omega)⟩;rw[a7]at cu;obtain⟨W3,N3,L3⟩:=Ax f (c.o.trans j) s1;clear b c l s1 s2 f j a7;go_wp2_with fail;go_roundw
   case rel=>exact⟨k+1,_,by omega,by go_num,W3,N3,L3⟩
   case measure=>simp[intOf];omega
  .have tk:decide ((k:Int)<(L.length:Int))=false:=by simp;omega
   have z:=b.o.o.size;go_upto_region 8 with(first
    |(at_builtin;refine Ek _ rfl _ _ 51 rfl s.heap.size 9 i0 (.string ByteArray.empty) 1 16 underlying51 a0 a4 a5 a6 rfl (by decide) _ _ _ rfl (l.o.alloc _) _ 1 1 [.string x] rfl rfl (AD (by simp) _ _) (fun x m=>by simp at m;subst m;rfl) (by unfold maxLen;omega) (by omega) (by simp;omega) ?_;intro v5 w5 F E H;obtain⟨d5,e5,f5,rfl⟩:=Ad F;obtain⟨f,j⟩:=b.o.app l.o E;obtain⟨l,b,c⟩:=Ax H f (c.o.trans j);have z:=b.o.o.size;clear F E H f j)
    |(at_builtin;refine Ek _ rfl _ _ 51 rfl s.heap.size 9 i0 (.string ByteArray.empty) 1 16 underlying51 a0 a4 a5 a6 rfl (by decide) _ _ _ rfl (l.o.alloc _) _ 2 2 [.string x,.string x] rfl rfl (AD (by simp) _ _) (fun x m=>by simp at m;subst m;rfl) (by unfold maxLen;omega) (by omega) (by simp;omega) ?_;intro v6 w6 F E H;obtain⟨d6,e6,f6,rfl⟩:=Ad F;obtain⟨f,j⟩:=b.o.app l.o E;obtain⟨l,b,c⟩:=Ax H f (c.o.trans j);have z:=b.o.o.size;clear F E H f j)
    |(at_builtin;refine Ek _ rfl _ _ 51 rfl s.heap.size 9 i0 (.string ByteArray.empty) 1 16 underlying51 a0 a4 a5 a6 rfl (by decide) _ _ _ rfl (l.o.alloc _) _ 3 3 [.string x,.string x,.string x] rfl rfl (AD (by simp) _ _) (fun x m=>by simp at m;subst m;rfl) (by unfold maxLen;omega) (by omega) (by simp;omega) ?_;intro v7 w7 F E H;obtain⟨d7,e7,f7,rfl⟩:=Ad F;obtain⟨f,j⟩:=b.o.app l.o E;obtain⟨l,b,c⟩:=Ax H f (c.o.trans j);have z:=b.o.o.size;clear F E H f j))
   obtain⟨_,_,a,d⟩:=b.o.hd;obtain⟨_,_,_,rfl⟩:=Ad d;have B:=Ag d;subst B;have r:=a.cell 3;have C:=Ae a;simp only[gR,gP,gQ]at r;have t:=J a;have o:=J d;clear a d;go_upto_region 9 with(at_builtin;refine jA _ rfl _ _ 27 rfl s.heap.size 51 V (Y Z 0 0) 1 24 underlying27 Q R S U rfl (by decide) _ _ _ rfl (o.o.alloc _) _ 1 1 [Y a1 L.length N] rfl rfl (AD (by simp) _ _) (fun x m=>by simp at m;subst m;rfl) (by unfold maxLen;omega) (by omega) (by simp;omega) ?_;intro v8 M p y _;obtain⟨_,_,_,rfl⟩:=Ad p;obtain⟨f,j,a⟩:=b.o.push t.o o.o ((O.refl _ _).alloc _) y p;have v:=a.cell 3;have I:=a.frozen 3;have K:=Ae a;simp only[gR,gP,gQ]at v;have b:=J f;have c:=J (c.o.trans j);have z:=b.o.o.size;clear p y f j a t o r C);clear v I K;generalize World.setCell M _ _=b1 at b c z⊢;obtain⟨_,_,a,d⟩:=b.o.hd;obtain⟨_,_,_,rfl⟩:=Ad d;have B:=Ag d;subst B;have r:=a.cell 3;have C:=Ae a;simp only[gR,gP,gQ]at r;have t:=J a;have o:=J d;clear a d;go_upto_region 10 with(at_builtin;refine jA _ rfl _ _ 27 rfl s.heap.size 51 V (Y Z 0 0) 1 24 underlying27 Q R S U rfl (by decide) _ _ _ rfl (o.o.alloc _) _ 1 1 [Y d5 e5 f5] rfl rfl (AD (by simp) _ _) (fun x m=>by simp at m;subst m;rfl) (by unfold maxLen;omega) (by omega) (by simp;omega) ?_;intro v8 M p y _;obtain⟨_,_,_,rfl⟩:=Ad p;obtain⟨f,j,a⟩:=b.o.push t.o o.o ((O.refl _ _).alloc _) y p;have v:=a.cell 3;have I:=a.frozen 3;have K:=Ae a;simp only[gR,gP,gQ]at v;have b:=J f;have c:=J (c.o.trans j);have z:=b.o.o.size;clear p y f j a t o r C);clear v I K;generalize World.setCell M _ _=b2 at b c z⊢;obtain⟨_,_,a,d⟩:=b.o.hd;obtain⟨_,_,_,rfl⟩:=Ad d;have B:=Ag d;subst B;have r:=a.cell 3;have C:=Ae a;simp only[gR,gP,gQ]at r;have t:=J a;have o:=J d;clear a d;go_upto_region 11 with(at_builtin;refine jA _ rfl _ _ 27 rfl s.heap.size 51 V (Y Z 0 0) 1 24 underlying27 Q R S U rfl (by decide) _ _ _ rfl (o.o.alloc _) _ 1 1 [Y d6 e6 f6] rfl rfl (AD (by simp) _ _) (fun x m=>by simp at m;subst m;rfl) (by unfold maxLen;omega) (by omega) (by simp;omega) ?_;intro v8 M p y _;obtain⟨_,_,_,rfl⟩:=Ad p;obtain⟨f,j,a⟩:=b.o.push t.o o.o ((O.refl _ _).alloc _) y p;have v:=a.cell 3;have I:=a.frozen 3;have K:=Ae a;simp only[gR,gP,gQ]at v;have b:=J f;have c:=J (c.o.trans j);have z:=b.o.o.size;clear p y f j a t o r C);clear v I K;generalize World.setCell M _ _=a9 at b c z⊢;obtain⟨_,_,a,d⟩:=b.o.hd;obtain⟨_,_,_,rfl⟩:=Ad d;have B:=Ag d;subst B;have r:=a.cell 3;have C:=Ae a;simp only[gR,gP,gQ]at r;have t:=J a;have o:=J d;clear a d;go_wp2_with(at_builtin;refine jA _ rfl _ _ 27 rfl s.heap.size 51 V (Y Z 0 0) 1 24 underlying27 Q R S U rfl (by decide) _ _ _ rfl (o.o.alloc _) _ 1 1 [Y d7 e7 f7] rfl rfl (AD (by simp) _ _) (fun x m=>by simp at m;subst m;rfl) (by unfold maxLen;omega) (by omega) (by simp;omega) ?_;intro v8 M p y _;obtain⟨_,_,_,rfl⟩:=Ad p;obtain⟨f,j,a⟩:=b.o.push t.o o.o ((O.refl _ _).alloc _) y p;have v:=a.cell 3;have I:=a.frozen 3;have K:=Ae a;simp only[gR,gP,gQ]at v;have b:=J f;have c:=J (c.o.trans j);have z:=b.o.o.size;clear p y f j a t o r C);clear v I K;generalize World.setCell M _ _=b0 at b c z⊢;go_end0;exact⟨rfl,b.o,c.o⟩
section
variable(a:World)(b:Nat)(l:Option Addr)(m o:Nat)(c:Option Addr)(d f:Nat)(g:Option Addr)(i j n:Nat)(w:World)(h:WdS a b (Y l m o) (Y c d f) (Y g i j) (4*n) w)(p:n<=30000)
include h p
theorem MJ(t x:Value)(B:Nat)(L:List ByteArray)(s:Au a.heap.size w t L)(u:Au B w x L)(z:L.length<=20000):
 Calls prog 28 #[.pointer (T ⟨b,0,Z⟩),t,G A 0,x,.bool true] w fun e r=>e=.returned (.bool true)/\WdS a b (Y l m o) (Y c d f) (Y g i j) (4*(n+1)) r/\JT w r:=by
 have I:=J (US a.heap.size B t x L w s u z);have H:=J (fun r (k:O kJ w r)=>PP a b l m o c d f g i j n r (h.s9 k) p t L (Ac s k (fun _ _ q=>q)) z);obtain⟨P,N,Q,rfl⟩:=Ad s;obtain⟨R,S,U,rfl⟩:=Ad u;clear s u h;rcases Nat.eq_zero_or_pos N with rfl|V
 all_goals
  go_enter func28,ntmps28;go_upto_region 3 with(go_at_call 10;refine(Lh _ _).mono ?_;rintro e r ⟨rfl,v⟩;have v:=v.symm;subst v);go_wp2_with fail;refine I.o.mono ?_;rintro e X ⟨rfl,E⟩;have y:=J E;clear E;go_wp2_with fail;refine(H.o _ y.o).mono ?_;rintro e w3 ⟨rfl,F,C⟩;have M:=J F;have K:=J ((JT.of y.o).trans C);clear F C;go_wp2_with fail;go_ret;exact⟨rfl,M.o,K.o⟩
theorem TA:Calls prog 28 #[.pointer (T ⟨b,0,Z⟩),Y Z 0 0,G A 8,Y Z 0 0,.bool false] w fun e q=>e=.returned (.bool true)/\WdS a b (Y l m o) (Y c d f) (Y g i j) (4*(n+1)) q/\JT w q:=by
 have s:=J (PP a b l m o c d f g i j n w h p (Y Z 0 0) [] (iB _ _ _ _) (by decide));clear h;go_enter func28,ntmps28;go_wp2_with(first
  |(go_at_call 10;refine(Lh _ _).mono ?_;rintro e q ⟨rfl,k⟩;have k:=k.symm;subst k)
  |(go_at_call 66;refine s.o.mono ?_;rintro e u ⟨rfl,r⟩;have t:=J r;clear r))
 go_ret;exact⟨rfl,t.o⟩
end
theorem WH(w:World):Calls prog 25 #[G A 0,G A 1] w fun e h=>e=.returned (G A 0)/\h=w:=by go_enter func25,ntmps25;go_wp2;go_ret;exact⟨rfl,rfl⟩
theorem Pe.cI{n B x r b g t}{U:Nat->Prop}{v z y s w C}(h:Pe n B U v z y s x r w)(j:O (fun k=>k=b) w C)(f:W b g t w)(a:t≠47/\t≠53/\t≠92/\t≠3/\t≠49/\t≠9):Pe n B U v z y s x r C:=by
 have m:∀(k:Nat) (c:Array Value) (u:TypeId) (d:Nat×Nat),k=b->w.heap[k]? =T (.cells c u d)->u=t:=fun k c u d e q=>by subst e;unfold W at f;rw[f]at q;cases q;rfl
 refine⟨?_,h.fn.d8 j (fun k i q=>?_) (fun k c u d o p=>by rw[m k c u d o p];exact⟨a.2.2.2.1,a.2.2.2.2.1,a.2.2.2.2.2⟩),h.st.d8 j (fun k i q=>?_) (fun k c u d o p=>by rw[m k c u d o p];exact⟨a.2.2.2.1,a.2.2.2.2.1⟩)⟩
 .have:=h.pr;unfold Cg at this⊢;rw[j.block n (Ae this) (fun q=>a.1 (m _ _ _ _ q this).symm)];exact this
 .obtain⟨g,l,_⟩:=h.fn;exact Am l f a.2.1 k i q
 .obtain⟨g,l,_⟩:=h.st;exact Am l f a.2.2.1 k i q
theorem Gt.at_box{B z x u i l r s w g b C t}(h:Gt B z x u i l r s w)(c:O (fun k=>k=b) w g)(a:W b C t w)(d:t≠88/\t≠9/\t≠51):Gt B z x u i l r s g:=by
 have y:∀{v f},Em B w v f->Em B g v f:=fun{v f} q=>by obtain⟨E,e,p,o⟩:=q;exact⟨E,e,Ac p c (Am p a d.2.2),fun j m n=>Ac (o j m n) c (Am (o j m n) a d.2.1)⟩
 exact⟨h.bx.d8 c (fun q=>W.ne h.bx a (fun e=>d.1 e.symm) q),Ac h.nr c (Am h.nr a d.2.1),h.nl,y h.cl,y h.en,h.sb,h.ne,h.ln,h.sh⟩
abbrev CL(a c:Nat):Value:=Y (T ⟨a,0,Z⟩) 1 c
structure Z7(P:List PFn)(mn pn cn:Nat)(rf:List RF)(fs:List FS)(w1:World)(wb rp sb pb Bp B:Nat)(U:Nat->Prop)(fv sv nv cv ev:Value)(s:Ls)(ra rc la lc pa pc:Nat):Prop where
 bx:W wb #[CL ra rc,CL la lc,CL pa pc,Y Z 0 0] 29 w1
 r0:w1.ownsRow 0 34 1 (CL ra rc) 1 [.pointer (T ⟨rp,0,Z⟩)]
 r1:w1.ownsRow 0 42 1 (CL la lc) 1 [.pointer (T ⟨sb,0,Z⟩)]
 r2:w1.ownsRow 0 37 1 (CL pa pc) 1 [.pointer (T ⟨pb,0,Z⟩)]
 rs:FH P mn pn cn rp w1
 ls:Gt B sb pb nv cv ev (Iv P pn) s w1
 li:Ra P pn cn s
 le:(least P).le (OF P pn s)
 ru:Pe pb Bp U fv sv rf fs pn cn w1
 K:LsK P mn pn cn rf fs
 hv:∀f (h:f<rf.length),rf[f].t8=(As P f).t8
 tl:0≠wb
 it:∀Wz,O (fun k=>k=wb) w1 Wz->ItOk Wz
 st:SrtAll
structure cG(P:List PFn)(mn pn cn:Nat)(rf:List RF)(fs:List FS)(wb rp sb pb Bp B:Nat)(U:Nat->Prop)(fv sv nv cv ev:Value)(s:Ls)(ra rc la lc pa pc:Nat)(w:World):Prop where
 b0:w.cell? ⟨wb,0,Z⟩=T (CL ra rc)
 b1:w.cell? ⟨wb,1,Z⟩=T (CL la lc)
 b2:w.cell? ⟨wb,2,Z⟩=T (CL pa pc)
 lb:wb<w.heap.size
 r0:w.cell? ⟨ra,0,Z⟩=T (.pointer (T ⟨rp,0,Z⟩))
 r1:w.cell? ⟨la,0,Z⟩=T (.pointer (T ⟨sb,0,Z⟩))
 r2:w.cell? ⟨pa,0,Z⟩=T (.pointer (T ⟨pb,0,Z⟩))
 l0:ra<w.heap.size
 l1:la<w.heap.size
 l2:pa<w.heap.size
 rs:FH P mn pn cn rp w
 ls:Gt B sb pb nv cv ev (Iv P pn) s w
 ru:Pe pb Bp U fv sv rf fs pn cn w
 it:ItOk w
theorem Z7.at{P p t j y m H h z E r i B U o F q k l s d g b e c f n w}(C:Z7 P p t j y m H h z E r i B U o F q k l s d g b e c f)(S:WdS H h (CL d g) (CL b e) (CL c f) n w):cG P p t j y m h z E r i B U o F q k l s d g b e c f w:=by obtain⟨I,K,a,_⟩:=S.hd;have u:=Ac C.r0 S.o (Am C.r0 C.bx (by decide));have v:=Ac C.r1 S.o (Am C.r1 C.bx (by decide));have x:=Ac C.r2 S.o (Am C.r2 C.bx (by decide));exact⟨a.cell 0,a.cell 1,a.cell 2,Ae a,u.cellAt 0 (by decide),v.cellAt 0 (by decide),x.cellAt 0 (by decide),(u.lt d rfl).2,(v.lt b rfl).2,(x.lt c rfl).2,C.rs.cI S.o C.bx (by decide) C.tl,C.ls.at_box S.o C.bx (by decide),C.ru.cI S.o C.bx (by decide),C.it w S.o⟩
