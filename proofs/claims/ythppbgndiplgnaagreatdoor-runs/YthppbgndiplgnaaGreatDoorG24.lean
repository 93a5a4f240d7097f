/- One of the texts of the proof of runs_card_holds: CkK CkL EqH. -/
import Derived.Test.YthppbgndiplgnaaGreatDoorG23
import Derived.Maps.Views
set_option maxRecDepth 100000
set_option maxHeartbeats 4000000
namespace Go.Proofs.YthppbgndiplgnaaGreatDoor
open Go.RowKit Go.Maps
def Pu(F:DataW Unit)(f:List TF)(d b:Nat)(t:TF)(c:CS):CS:=
 let a:=if 12≤b then BK 4 t.name.i9 c else c
 let e:=if Ce F t.name.i6=b then a else BK 5 t.name.i9 a
 (Nc F f d 1 (t.i9,t.Yg) (Q0 t.p8 (.map [],e))).2
structure Tf(b d:Nat)(U:Nat→Prop)(fs:Value)(fns:List TF)(stop:Int)(mf nf:Nat)(F:DataW Unit)(mv:Value)(fa:Array Value)(w:World)(c:CS)(W:World):Prop where
 YC:CN b fs stop (.map (some mf)) mv c W
 YJ:Bh mf nf F W
 rows:DF d U W fs fns
 l9:Ar w.heap.size fa 98 W
 f8:Ab (fun k=>k=b) w W
theorem Tf.step{b d:Nat}{U:Nat→Prop}{f:Value}{n:List TF}{j:Int}{g o:Nat}{F:DataW Unit}{i:Value}{m:Array Value}{w W e:World}{c l:CS}(h:Tf b d U f n j g o F i m w c W)(s:¬U b)(t:b<w.heap.size)(p:CN b f j (.map (some g)) i l e)(a:Ab (fun k=>k=b) W e):Tf b d U f n j g o F i m w l e:=
 ⟨p,h.YJ.f8 a (h.YJ.ne h.YC),h.rows.f8 a (fun _ r q=>s (q▸r)),Ar.f8 h.l9 a (by omega),h.f8.trans a⟩
theorem Tf.quiet{b d}{U:Nat→Prop}{i g m j l F k f w W e c}(h:Tf b d U i g m j l F k f w c W)(a:Ab (fun _=>False) W e):Tf b d U i g m j l F k f w c e:=
 ⟨Ar.f8 h.YC a (fun q=>q),h.YJ.f8 a (fun q=>q),h.rows.f8 a (fun _ _ q=>q),Ar.f8 h.l9 a (fun q=>q),h.f8.trans (a.mono (fun _ _ q=>q.elim))⟩
theorem Tf.made{b d:Nat}{U:Nat→Prop}{g:Value}{a:List TF}{l:Int}{i j:Nat}{F:DataW Unit}{s:Value}{f:Array Value}{w W:World}{c:CS}(h:Tf b d U g a l i j F s f w c W)(m:¬U b)(v:b<w.heap.size)(p:∀k,U k→k<w.heap.size)(o:J2 F a.length)(n:a.length≤4001):
 Ck b d U g a l i j W.heap.size 0 F (.map []) c ((W.alloc (.map #[] 0)).setCell ⟨b,3,none⟩ (.map (some W.heap.size)))∧Ar w.heap.size f 98 ((W.alloc (.map #[] 0)).setCell ⟨b,3,none⟩ (.map (some W.heap.size)))∧Ab (fun k=>k=b) w ((W.alloc (.map #[] 0)).setCell ⟨b,3,none⟩ (.map (some W.heap.size))):=by
 have e:Ab (fun k=>k=b) W ((W.alloc (.map #[] 0)).setCell ⟨b,3,none⟩ (.map (some W.heap.size))):=((Ab.refl _ W).alloc _).p7 3 _;have u:=h.f8.size;have t:=World.ownsMap.lt h.YJ;refine ⟨⟨?_,?_,h.YJ.f8 e (h.YJ.ne h.YC),h.rows.f8 e (fun _ r q=>m (q▸r)),o,n,by omega,m,fun q=>by have:=p _ q;omega⟩,Ar.f8 h.l9 e (by omega),h.f8.trans e⟩
 ·have:=Ar.set (Ar.alloc h.YC (.map #[] 0)) 3 (.map (some W.heap.size));simpa [CN] using this
 ·have:=World.ownsMap_made (H:=Unit) W Tryz.prog 9 (plainElem Tryz.prog 3);exact Bh.f8 this ((Ab.refl (fun k=>k=b) _).p7 3 _) (by omega)
theorem Tz(b d f:Nat)(U:Nat→Prop)(fs:Value)(a:List TF)(o:Int)(m E:Nat)(F:DataW Unit)(c:CS)(D:Value)(w:World)(I:CN b fs o (.map (some m)) D c w)(hm:Bh m E F w)(Z:DF d U w fs a)(a7:J2 F a.length)(b6:a.length≤4001)(ub:¬U b)(hU:∀k,U k→k<w.heap.size)(c4:f<a.length)
 (hO:∀t,t∈a[f].Yg→Nb d t)(c5:a[f].name.i6.size≤4000)(c6:∀t,t∈a[f].p8→t.i6.size≤4000∧t.i9≤4000)(c0:a[f].p8.length+(a[f].Yg.map (Cw d)).sum≤4000)(hd:1+d≤4001)(hl:a[f].Yg.length≤4000):
 Calls Tryz.prog 47 #[.pointer (some ⟨b,0,none⟩),.int .i64 f] w fun e w'=>e=.returned (.tuple #[])∧(∃m',CN b fs o (.map (some m)) (.map (some m')) (Pu F a d f a[f] c) w')∧Ab (fun k=>k=b) w w':=by
 have c3:=Z;obtain ⟨d1,O,_⟩:=c3;obtain ⟨va,vl,vc,rfl⟩:=Ad O;obtain ⟨g,rfl⟩:=As O (by omega);have c9:=Ah O;subst c9;have lg:=(O.lt g rfl).2;obtain ⟨av,sv,C,v,a8,a4⟩:=Z.get c4;obtain ⟨z,l1,A,rfl⟩:=Ad v;have b8:=Ah v;subst b8;have c8:=a4;obtain ⟨d2,p2,_⟩:=c8;obtain ⟨r,y,s,rfl⟩:=Ad p2;have f0:=C 0 (by omega);have f1:=C 1 (by omega);have f2:=C 2 (by omega);have f3:=C 3 (by omega);have f4:=C 4 (by omega);simp only [Lx,aU,aS,aT,bK] at f0 f1 f2 f3 f4;clear O p2 C;have r0:=Ao I 0;have r2:=Ao I 2;simp only [aU,aS,aT] at r0 r2;have lb:=Ae I;have d4:=@run_makeMap Tryz.prog;generalize a[f]=t at*;have P:=(Ab.refl (fun _=>False) w).alloc (.cells #[.string t.name.i6,.int .i64 t.name.i9,.slice z t.p8.length A,.int .i64 t.i9,.slice r y s] 98);have Q:=Aa (show Tf b d U _ a o m E F D #[.string t.name.i6,.int .i64 t.name.i9,.slice z t.p8.length A,.int .i64 t.i9,.slice r y s] w c (w.alloc (.cells #[.string t.name.i6,.int .i64 t.name.i9,.slice z t.p8.length A,.int .i64 t.i9,.slice r y s] 98)) from ⟨Ar.f8 I P (fun q=>q),hm.f8 P (fun q=>q),Z.f8 P (fun _ _ q=>q),Ar.new w _ _,P.mono (fun _ _ q=>q.elim)⟩);have HA:=Aa v;have HT:=Aa a4;have HO:=Aa hO;have b4:=Aa a8;clear I hm Z v a4 hO a8 P;go_enter Tryz.func47,Tryz.ntmps47;go_upto_if 16 with fail;go_cut [] (fun wx=>∃l,dJ ((if 12≤f then BK 4 t.name.i9 c else c)=l)∧dJ (Tf b d U (.slice (some ⟨g,0,none⟩) a.length vc) a o m E F D #[.string t.name.i6,.int .i64 t.name.i9,.slice z t.p8.length A,.int .i64 t.i9,.slice r y s] w l wx))
 case first=>
  by_cases S:12≤f
  ·have b7:(12:Int)≤(f:Int):=by omega
   have a0:=Aa S;clear S;go_wp2_with (go_at_call 49;refine (Cg b 4 t.name.i9 _ o (.map (some m)) D c _ Q.o.YC).mono ?_);rintro e W ⟨rfl,K,N⟩;have n:=Aa (Q.o.step ub lb K N);clear K N;go_wp2_with fail;go_meet
   case rel=>exact ⟨_,cU a0.o,n⟩
  ·have b7:¬(12:Int)≤(f:Int):=by omega
   have a0:=Aa S;clear S;go_wp2_with fail;go_meet
   case rel=>exact ⟨_,cT a0.o,Q⟩
 case rest=>
 obtain ⟨l,E1,n⟩:=hcut;clear Q r0 r2 f0 f1 f2 f3 f4;have i0:=Ao n.o.l9 0;have i1:=Ao n.o.l9 1;simp only [aU,aS,aT] at i0 i1;have b2:=Ao n.o.YC 2;simp only [aU,aS,aT] at b2;have lw:=n.o.f8.size;have d0:=Ae n.o.l9;have a3:=RI (w:=wc.drew) (n.o.YJ.f8 ((Ab.refl (fun _=>False) wc).drew) (fun q=>q)) a7 c5;go_wp2;go_region;go_upto_if 31 with fail;go_cut [] (fun wx=>∃B,dJ ((if Ce F t.name.i6=f then l else BK 5 t.name.i9 l)=B)∧dJ (Tf b d U (.slice (some ⟨g,0,none⟩) a.length vc) a o m E F D #[.string t.name.i6,.int .i64 t.name.i9,.slice z t.p8.length A,.int .i64 t.i9,.slice r y s] w B wx))
 case first=>
  have h:=Aa (n.o.quiet ((Ab.refl (fun _=>False) wc).drew));by_cases J:Ce F t.name.i6=f
  ·have a6:(((Ce F t.name.i6:Nat):Int) !=(f:Int))=false:=by simp [J]
   have HX:=Aa J;clear J a3;rw [a6];go_wp2_with fail;go_meet
   case rel=>exact ⟨_,cU HX.o,h⟩
  ·have a6:(((Ce F t.name.i6:Nat):Int) !=(f:Int))=true:=by simp;omega
   have HX:=Aa J;clear J a3;rw [a6];go_wp2_with (go_at_call 49;refine (Cg b 5 t.name.i9 _ o (.map (some m)) D l _ h.o.YC).mono ?_);rintro e W ⟨rfl,K,N⟩;have FX:=Aa (h.o.step ub lb K N);clear K N;go_wp2_with fail;go_meet
   case rel=>exact ⟨_,cT HX.o,FX⟩
 case rest=>
 obtain ⟨B,E2,h⟩:=hcut;obtain ⟨R,hR⟩:∃R,Q0 t.p8 (.map [],B)=R:=⟨_,rfl⟩;have HR:dJ ((t.p8.drop 0).foldl (fun x t=>(G8 x.1 t,EM x.1 t x.2)) (.map [],B)=R):=hR;have a9:Pu F a d f t c=(Nc F a d 1 (t.i9,t.Yg) R).2:=by unfold Pu;dsimp only;rw [E1.o,E2.o,hR]
 have b5:=Aa a9;clear a9 hR a3 n i0 i1 b2 lw d0;generalize hV:wc=V at*;have b3:=Ao h.o.YC 3;have bf:=fun i=>Aw h.o.YC i
 have lv:=h.o.f8.size;have d6:=Ae h.o.l9;have j0:=Ao h.o.l9 0;have j1:=Ao h.o.l9 1;have j2:=Ao h.o.l9 2;have j3:=Ao h.o.l9 3;have j4:=Ao h.o.l9 4;simp only [aU,aS,aT] at j0 j1 j2 j3 j4;simp only [aU,aS,aT] at b3;have Y:=h.o.made ub lb hU a7 b6;have KX:=Aa Y.1;have BX:=Aa Y.2.1;have OX:=Aa Y.2.2;clear Y;have xq:∀i,(V.alloc (.map #[] 0)).cell? ⟨b,i,none⟩=V.cell? ⟨b,i,none⟩:=fun i=>aW (w:=V) (((Ab.refl (fun _=>False) V).alloc (.map #[] 0)).block b (by omega) (fun q=>q))
 have x3:=xq 3;rw [b3] at x3;have xf:=fun i=>Aw (Ar.alloc h.o.YC (.map #[] 0)) i
 have z2:=Ao BX.o 2;simp only [aU,aS,aT] at z2;clear xq;go_wp2;generalize (V.alloc (.map #[] 0)).setCell ⟨b,3,none⟩ (.map (some V.heap.size))=X at*;go_loopw [44] (fun i wr=>∃(k:Nat) (p:DataW Unit) (l:CS),k≤t.p8.length∧i=.int .i64 k∧dJ (Ck b d U (.slice (some ⟨g,0,none⟩) a.length vc) a o m E V.heap.size k F p l wr)∧dJ (Ab (fun k=>k=b∨k=V.heap.size) w wr)∧dJ (Ar w.heap.size #[.string t.name.i6,.int .i64 t.name.i9,.slice z t.p8.length A,.int .i64 t.i9,.slice r y s] 98 wr)∧dJ ((t.p8.drop k).foldl (fun x t=>(G8 x.1 t,EM x.1 t x.2)) (p,l)=R)) (fun i _=>t.p8.length-(intOf i).toNat)
 case atStart=>exact ⟨0,.map [],B,by omega,rfl,KX,Aa (OX.o.mono (fun _ _ q=>.inl q)),BX,HR⟩
 case round=>
  obtain ⟨k,p,l,d3,rfl,k1,L,x1,b1⟩:=hrel;clear KX OX BX HR;have v:∀j,U j→¬(j=b∨j=V.heap.size):=fun j T q=>q.elim (fun e=>ub (e▸T)) (fun e=>by have:=hU j T;omega)
  have l0:=L.o.size;by_cases hk:k<t.p8.length
  ·have H:=Ac HA.o L.o (fun j T=>v j (b4.o j T));obtain ⟨ga,rfl⟩:=As H (by omega);have d5:=(H.lt ga rfl).2;have ha:=Fa hk;have n0:=H.cellAt (k*2) (by omega);have n1:=H.cellAt (k*2+1) (by omega);rw [ha.1] at n0;rw [ha.2] at n1;have c7:=Aa (EP (fun x t=>(G8 x.1 t,EM x.1 t x.2)) t.p8 k hk (p,l));have b0:=c6 t.p8[k] (bD _);clear ha H;generalize t.p8[k]=u at*;have G:=Aa ((Ab.refl (fun _=>False) wr).alloc (.cells #[.string u.i6,.int .i64 u.i9] 92));go_wp2_with (go_at_call 81;refine (Jo b _ o (.map (some m)) V.heap.size k p l u _ (k1.o.quiet G.o).YC (k1.o.quiet G.o).m9 b0.1 b0.2 (by omega)).mono ?_;rintro e w2 ⟨rfl,b9,a5,M⟩);go_round
   case rel=>exact ⟨k+1,_,_,by omega,by go_num,Aa ((k1.o.quiet G.o).ZA b9 a5 M),Aa (L.o.trans ((G.o.mono (fun _ _ q=>q.elim)).trans M)),Aa (Ar.f8 (Ar.f8 x1.o G.o (fun q=>q)) M (by omega)),Aa (c7.o.symm.trans b1.o)⟩
   case measure=>simp [intOf];omega
  ·have e:k=t.p8.length:=by omega
   subst e;have a5:(p,l)=R:=by have:=b1.o;simpa using this
   subst a5;have y3:=Ao x1.o 3;have y4:=Ao x1.o 4;simp only [aU,aS,aT] at y3 y4;go_wp2_with (go_at_call 82;refine (Hn d (LN d) b d 1 t.i9 U _ a o m E V.heap.size t.p8.length F p l t.Yg (.slice r y s) _ k1.o (CU.f8 HT.o L.o v) HO.o c0 hd hl).mono ?_);rintro e w2 ⟨rfl,⟨n2,_,k2⟩,M⟩;go_wp2;go_end0;exact ⟨rfl,⟨V.heap.size,by rw [b5.o];exact k2.YC⟩,(L.o.trans M).mono (fun _ _ q=>q.elim (fun e=>e) (fun e=>by omega))⟩
theorem Fy(s):WideAt.IsKeyLit (Bj s):=by unfold Bj WideAt.IsKeyLit;trivial
theorem It{a b}(h:Bj a=Bj b):a=b:=by unfold Bj at h;simp only [Lit.string.injEq] at h;exact ByteArray.ext (Array.toList_inj.1 h)
theorem IZ(N:Nat):∀(l:List TF) (k:Nat) (D:DataW Unit),IsMap D→k+l.length≤N→(∀s,has D (Bj s)=true→∃j:Nat,j<N∧D.atKey (Bj s) (.lit (.int .i64 0))=.lit (.int .i64 j))→∀s,has (A9 l k D) (Bj s)=true→∃j:Nat,j<N∧(A9 l k D).atKey (Bj s) (.lit (.int .i64 0))=.lit (.int .i64 j)
 | [],_,_,_,_,h=>h
 | t::l,k,D,b,e,h=>by
   rw [A9];simp only [aX] at e;by_cases c:has D (Bj t.name.i6)=true
   ·rw [cU c];exact IZ N l (k+1) D b (by omega) h
   ·rw [cT c];refine IZ N l (k+1) _ (b.put _ _) (by omega) (fun s d=>?_);by_cases a:Bj s=Bj t.name.i6
    ·exact ⟨k,by omega,by rw [a];exact atKey_put_same b (Fy _) _ _⟩
    ·rw [has_put_other a] at d;rw [atKey_put_other a];exact h s d
theorem TK(a):J2 (A9 a 0 (.map [])) a.length:=fun s b=>IZ a.length a 0 _ isMap_empty (by omega) (fun s b=>by simp [has_eq] at b) s b
def Gq(F:DataW Unit)(a:List TF)(d:Nat):List TF→Nat→CS→CS
 | [],_,c=>c
 | t::l,i,c=>Gq F a d l (i+1) (Pu F a d i t c)
theorem Rl(F:DataW Unit)(a:List TF)(d:Nat)(l:List TF)(i:Nat)(h:i<l.length)(c:CS):Gq F a d (l.drop i) i c=Gq F a d (l.drop (i+1)) (i+1) (Pu F a d i l[i] c):=by rw [bG h];rfl
def Kc(a:List TF)(d b:Nat):CS:=
 if (has (A9 a 0 (.map [])) (Bj ⟨#[109,97,105,110]⟩) && IB a (Ce (A9 a 0 (.map [])) ⟨#[109,97,105,110]⟩)==0)=true then Gq (A9 a 0 (.map [])) a d a 0 ⟨0,0⟩
 else BK 6 b (Gq (A9 a 0 (.map [])) a d a 0 ⟨0,0⟩)
structure Tl(d:Nat)(fns:List TF):Prop where
 Yx:fns.length≤4000
 dd:1+d≤4001
 each:∀t,t∈fns→t.name.i6.size≤4000∧(∀s,s∈t.Yg→Nb d s)∧(∀p,p∈t.p8→p.i6.size≤4000∧p.i9≤4000)∧t.p8.length+(t.Yg.map (Cw d)).sum≤4000∧t.Yg.length≤4000
abbrev Xq:Array Value:=#[.slice none 0 0,.int .i64 0,.map none,.map none,.int .i64 0,.int .i64 0]
theorem LI(d:Nat)(U:Nat→Prop)(fs:Value)(a:List TF)(f:Nat)(w:World)(T:DF d U w fs a)(hU:∀k,U k→k<w.heap.size)(G:Tl d a):
 Calls Tryz.prog 21 #[.agg #[fs,.int .i64 f]] w fun e w'=>e=.returned (.tuple #[.int .i64 (Kc a d f).Ym,.int .i64 (Kc a d f).i9])∧Ab (fun _=>False) w w':=by
 have c0:=T;obtain ⟨c4,Z,_⟩:=c0;obtain ⟨h,vl,l,rfl⟩:=Ad Z;have c3:=Ah Z;subst c3;have S:=G.Yx;have R:=TK a;obtain ⟨F,hF⟩:∃F,A9 a 0 (.map [])=F:=⟨_,rfl⟩;rw [hF] at R;have hV:Kc a d f=(if (has F (Bj ⟨#[109,97,105,110]⟩) && IB a (Ce F ⟨#[109,97,105,110]⟩)==0)=true then Gq F a d a 0 ⟨0,0⟩ else BK 6 f (Gq F a d a 0 ⟨0,0⟩)):=by unfold Kc;rw [hF]
 rw [hV];obtain ⟨C,N⟩:∃C,Gq F a d a 0 ⟨0,0⟩=C:=⟨_,rfl⟩;rw [N];have a1:dJ (Gq F a d (a.drop 0) 0 ⟨0,0⟩=C):=N;obtain ⟨V,Q⟩:∃V,(if (has F (Bj ⟨#[109,97,105,110]⟩) && IB a (Ce F ⟨#[109,97,105,110]⟩)==0)=true then C else BK 6 f C)=V:=⟨_,rfl⟩;rw [Q];have a3:=Aa Q;clear Q;have HP:=Aa T;have HY:=Aa G;have HL:dJ (∀t,t∈a→t.name.i6.size≤4000):=fun t ht=>(G.each t ht).1
 have a2:=Aa hU;have J:=Aa R;have b1:=Aa hF;have b0:dJ (Ar (w.heap.size+1) Xq 137 ((w.alloc (.cells #[.slice h a.length l,.int .i64 f] 44)).alloc (.cells Xq 137))):=by have:=Ar.new (w.alloc (.cells #[.slice h a.length l,.int .i64 f] 44)) Xq 137;exact Aa (by simpa using this)
 have a0:dJ (Ar w.heap.size #[.slice h a.length l,.int .i64 f] 44 (w.alloc (.cells #[.slice h a.length l,.int .i64 f] 44))):=Ar.new _ _ _;have a9:dJ (Ar w.heap.size #[.slice h a.length l,.int .i64 f] 44 ((w.alloc (.cells #[.slice h a.length l,.int .i64 f] 44)).alloc (.cells Xq 137))):=a0.o.alloc _;have b4:dJ (Ab (fun _=>False) w (w.alloc (.cells #[.slice h a.length l,.int .i64 f] 44)).drew):=((Ab.refl _ w).alloc _).drew;have b5:dJ (Ab (fun _=>False) w ((w.alloc (.cells #[.slice h a.length l,.int .i64 f] 44)).alloc (.cells Xq 137)).drew):=(((Ab.refl _ w).alloc _).alloc _).drew;clear T Z G hV N R hU hF;go_enter Tryz.func21,Tryz.ntmps21;go_wp2_with fail;go_cut [4] (fun v H=>∃b M,v=.pointer (some ⟨b,0,none⟩)∧w.heap.size≤b∧b≠w.heap.size∧CN b (.slice h a.length l) f (.map (some M)) (.map none) ⟨0,0⟩ H∧Bh M a.length F H∧Ar w.heap.size #[.slice h a.length l,.int .i64 f] 44 H∧Ab (fun _=>False) w H)
 case first=>
  go_region_with (go_at_call 46;refine (Hq d U _ a f _ (HP.o.f8 (X:=fun _=>False) (by repeat (first | exact Ab.refl _ _ | refine Ab.drew ?_ | refine Ab.drewN ?_ _ | refine Ab.alloc ?_ _)) (fun _ _ q=>q)) HL.o S).mono ?_;rw [b1.o];rintro e n ⟨M,rfl,hM,a7,g⟩;have A:Ar w.heap.size #[.slice h a.length l,.int .i64 f] 44 n:=(by first | exact Ar.f8 (X:=fun _=>False) (Ar.f8 (X:=fun _=>False) a0.o ((Ab.refl (fun _=>False) _).drew) (fun q=>q)) g (fun q=>q) | exact Ar.f8 (X:=fun _=>False) (Ar.f8 (X:=fun _=>False) a9.o ((Ab.refl (fun _=>False) _).drew) (fun q=>q)) g (fun q=>q));have I:=A.cell 0;have y1:=A.cell 1;have yl:=Ae A;simp only [aU,aS,aT] at I y1;first | (have m:=Ar.f8 (X:=fun _=>False) (Ar.f8 (X:=fun _=>False) b0.o ((Ab.refl (fun _=>False) _).drew) (fun q=>q)) g (fun q=>q);have z0:=m.cell 0;have z1:=m.cell 1;have z2:=m.cell 2;have z3:=m.cell 3;have z4:=m.cell 4;have z5:=m.cell 5;have zf:=m.frozen;have zl:=Ae m;simp only [aU,aS,aT] at z0 z1 z2 z3 z4 z5) | skip);all_goals
   have c1:=g.size;simp at c1;go_wp2_with fail;go_meet
   case rel=>
    first
    | (have c6:=m
       have O:=b5.o.YF g
       have P:Ab (fun k=>k=w.heap.size+1) n ((((((n.setCell ⟨w.heap.size+1,0,none⟩ (.slice h a.length l)).setCell ⟨w.heap.size+1,1,none⟩ (.int .i64 f)).setCell ⟨w.heap.size+1,2,none⟩ (.map (some M))).setCell ⟨w.heap.size+1,3,none⟩ (.map none)).setCell ⟨w.heap.size+1,4,none⟩ (.int .i64 0)).setCell ⟨w.heap.size+1,5,none⟩ (.int .i64 0)):=(((((((Ab.refl _ n).p7 0 _).p7 1 _).p7 2 _).p7 3 _).p7 4 _).p7 5 _)
       have hB:=((((((m.set 0 (.slice h a.length l)).set 1 (.int .i64 f)).set 2 (.map (some M))).set 3 (.map none)).set 4 (.int .i64 0)).set 5 (.int .i64 0))
       exact ⟨w.heap.size+1,M,rfl,by omega,by omega,hB,a7.f8 P (by simp at hM;omega),A.f8 P (by omega),((O.mono (fun _ _ q=>q.elim)).trans P).mono (fun j hj q=>by omega)⟩)
    | (have O:=b4.o.YF g
       exact ⟨n.heap.size,M,rfl,by omega,by omega,Ar.new n _ _,a7.f8 ((Ab.refl (fun _=>False) n).alloc _) (fun q=>q),A.alloc _,O.alloc _⟩)
 case rest=>
  obtain ⟨b,M,rfl,c5,b9,a4,hm,m,ho⟩:=hcut;have I:=m.cell 0;have yl:=Ae m;simp only [aU,aS] at I;have UB:dJ (¬U b):=fun q=>by have:=a2.o b q;omega
  have K0:=Aa a4;have M0:=Aa hm;have X0:=Aa m;have O0:=Aa ho;clear a4 hm m ho;go_wp2;go_loopw [13] (fun i wr=>∃(k:Nat) (c:CS) (s:Value),k≤a.length∧i=.int .i64 k∧dJ (CN b (.slice h a.length l) f (.map (some M)) s c wr)∧dJ (Bh M a.length F wr)∧dJ (Ar w.heap.size #[.slice h a.length l,.int .i64 f] 44 wr)∧dJ (Ab (fun _=>False) w wr)∧dJ (Gq F a d (a.drop k) k c=C)) (fun i _=>a.length-(intOf i).toNat)
  case atStart=>exact ⟨0,_,_,by omega,rfl,K0,M0,X0,O0,a1⟩
  case round=>
   clear K0 M0 X0 O0 a1 I yl;obtain ⟨k,c,s,c7,rfl,o,p,z,r,B⟩:=hrel;have L:dJ (DF d U wr (.slice h a.length l) a):=HP.o.f8 r.o (fun _ _ q=>q);have b7:dJ (∀k,U k→k<wr.heap.size):=fun k S=>bL (a2.o k S) r.o.size
   by_cases a6:k<a.length
   ·have W:=Rl F a d a k a6 c;rw [B.o] at W;have b6:=Aa W;have he:=HY.o.each a[k] (bD _);have u:=Aa he;clear W B he;go_wp2_with fail;refine (Tz b d k U _ a f M a.length F c s wr o.o p.o L.o J.o (by omega) UB.o b7.o a6 u.o.2.1 u.o.1 u.o.2.2.1 u.o.2.2.2.1 HY.o.dd u.o.2.2.2.2).mono ?_;rintro e n ⟨rfl,⟨m',a5⟩,g⟩;have K:=Aa a5;have b2:=Aa (p.o.f8 g (p.o.ne o.o));have b8:=Aa (z.o.f8 g (fun q=>b9 q.symm));have y:dJ (Ab (fun _=>False) w n):=((r.o.mono (fun _ _ q=>q.elim)).trans g).mono (fun j hj q=>by omega);clear a5 g o p z r;go_wp2_with fail;exact ⟨⟨k+1,_,_,by omega,by go_num,K,b2,b8,y,b6.o.symm⟩,by simp [intOf];omega⟩
   ·have e:k=a.length:=by omega
    have c2:C=c:=by have:=B.o;rw [e,cZ] at this;exact this.symm
    subst c2;have c8:decide ((k:Int)<(a.length:Int))=false:=by simp;omega
    clear B;cases D:(has F (Bj ⟨#[109,97,105,110]⟩) && IB a (Ce F ⟨#[109,97,105,110]⟩)==0) with
    | true=>
      have x:=Aa D;clear D;go_wp2_with fail;refine (Jr b d U _ a f s M a.length F C wr o.o p.o L.o J.o (by omega)).mono ?_;rw [x.o];rintro e n ⟨rfl,g⟩;have r4:=(Ar.f8 o.o g (fun q=>q)).cell 4;have r5:=(Ar.f8 o.o g (fun q=>q)).cell 5;have lb:=Ae (Ar.f8 o.o g (fun q=>q));simp only [aU,aS,aT] at r4 r5;have y:=Aa (r.o.YF g);clear g;go_wp2_with fail;go_region;go_wp2;go_ret2;have Y:V=C:=by rw [←a3.o,cU x.o]
      rw [Y];exact ⟨rfl,y.o.drew⟩
    | false=>
      have x:=Aa D;clear D;go_wp2_with fail;refine (Jr b d U _ a f s M a.length F C wr o.o p.o L.o J.o (by omega)).mono ?_;rw [x.o];rintro e n ⟨rfl,g⟩;have K:=Aa (Ar.f8 o.o g (fun q=>q));have x1:=(Ar.f8 z.o g (fun q=>q)).cell 1;have xl:=Ae (Ar.f8 z.o g (fun q=>q));simp only [aU,aS,aT] at x1;have y:=Aa (r.o.YF g);clear g o p z r;go_wp2_with fail;refine (Cg b 6 f _ f (.map (some M)) s C n K.o).mono ?_;rintro e w3 ⟨rfl,E,a8⟩;have r4:=Ar.cell E 4;have r5:=Ar.cell E 5;have lb:=Ae E;simp only [aU,aS,aT] at r4 r5;have b3:dJ (Ab (fun _=>False) w w3):=((y.o.mono (fun _ _ q=>q.elim)).trans a8).mono (fun j hj q=>by omega);clear a8 E x1 xl;go_wp2_with fail;go_region;go_wp2;go_ret2;have Y:V=BK 6 f C:=by rw [←a3.o,cT (by rw [x.o];decide)]
      rw [Y];exact ⟨rfl,b3.o.drew⟩
theorem Dj.each{A}{R:Nat→Nat→A→Prop}{i j l}(h:Dj R i j l):∀a,a∈l→∃p q,R p q a:=by
 induction h with
 | nil _=>intro a b;cases b
 | cons h _ c=>
   intro a b;rcases cM.1 b with rfl | b
   ·exact ⟨_,_,h⟩
   ·exact c a b
theorem Ii{A}{R:Nat→Nat→A→Prop}{f:A→Nat}(k:∀i j a,R i j a→f a+i≤j){i j l}(h:Dj R i j l):(l.map f).sum+i≤j:=by
 induction h with
 | nil h=>simpa using h
 | cons h _ b=>have:=k _ _ _ h;simp only [bX,cF];omega
theorem Ct.ZX{n:List PT}:∀{d i j:Nat} {t:TS},Ct n d i j t→Cw d t+i≤j
 | 0,_,_,_,h=>h.elim
 | d+1,i,j,.mk s p,h=>by
   obtain ⟨u,v,o⟩:=h;have C:∀a b l,Dj (Ct n d) a b l→(l.map (Cw d)).sum+a≤b:=fun a b l r=>Ii (fun _ _ _ q=>q.ZX) r
   rw [Cw];rcases o with ⟨rfl,_⟩ | ⟨k,l,m,rfl,_,c,e,f⟩ | ⟨k,l,m,w,y,x,rfl,_,c,e,f,g,h⟩
   ·simp;omega
   ·have:=C _ _ _ e;simp only [bX,List.map_nil,cF,List.sum_nil];omega
   ·have:=C _ _ _ e;have:=C _ _ _ g;simp only [bX,List.map_nil,cF,List.sum_nil];omega
theorem Ct.tok{u:List PT}(x:u.length≤4001):∀{d i j:Nat} {t:TS},Ct u d i j t→Nb d t
 | 0,_,_,_,h=>h.elim
 | d+1,i,j,.mk s A,h=>by
   obtain ⟨B,D,v⟩:=h;have V:∀k,Xf (Eo k):=fun k=>⟨bI _,bI _,bI _,by simp [Eo],bI _⟩
   have C:∀a b l,b<j→Dj (Ct u d) (a+1) b l→l.length≤4000∧∀t,t∈l→Nb d t:=fun a b l E r=> ⟨by have:=r.le (fun _ _ _ q=>q.lt);omega,fun t y=>by obtain ⟨p,q,w⟩:=r.each t y;exact w.tok x⟩
   rcases v with ⟨rfl,F,z,_⟩ | ⟨k,l,m,rfl,n,c,e,f⟩ | ⟨k,l,m,G,I,H,rfl,n,c,e,f,g,h⟩
   ·exact ⟨z,by omega,by simp,by simp⟩
   ·refine ⟨by rcases n with rfl | rfl<;>exact V _,by rcases n with rfl | rfl<;>decide,by simp,fun q o=>?_⟩;rw [bO.1 o];exact C _ _ _ (by omega) e
   ·have:=g.le (fun _ _ _ q=>q.lt);refine ⟨by subst n;exact V _,by subst n;decide,by simp,fun q o=>?_⟩;simp only [cM,bU,or_false] at o;rcases o with rfl | rfl
    ·exact C _ _ _ (by omega) e
    ·exact C _ _ _ (by omega) g
theorem Ct.ZV{l:List PT}:∀{e i j:Nat} {t:TS} {d:Nat} {U:Nat→Prop} {w:World} {c:List Value},Ct l e i j t→BU d U w t c→BU e U w t c
 | 0,_,_,_,_,_,_,_,h,_=>h.elim
 | e+1,i,j,.mk s a,0,U,w,c,_,h=>h.elim
 | e+1,i,j,.mk s a,d+1,U,w,c,L,h=>by
   obtain ⟨n,u,o,E,F,G,H,I,J,K⟩:=h;refine ⟨n,u,o,E,F,G,H,I,J,fun k b N=>?_⟩;obtain ⟨R,v,x,y,z,A,B⟩:=K k b N;refine ⟨R,v,x,y,z,A,fun m C D=>?_⟩;have g:a[k].2[m]∈a[k].2:=bD _;obtain ⟨p,q,M⟩:∃p q,Ct l e p q a[k].2[m]:=by
    obtain ⟨_,_,T⟩:=L;rcases T with ⟨rfl,_⟩ | ⟨O,S,P,rfl,_,_,r,_⟩ | ⟨O,S,P,V,X,W,rfl,_,_,r,_,Q,_⟩
    ·simp at b
    ·have f:k=0:=by simp at b;omega
     subst f;exact r.each _ g
    ·have f:k=0∨k=1:=by simp at b;omega
     rcases f with rfl | rfl
     ·exact r.each _ g
     ·exact Q.each _ g
   exact M.ZV (B m C D)
theorem Ct.flat{E:List PT}{D:Nat}:∀{e i j:Nat} {t:TS} {d:Nat} {o:List FS} {k:Nat},Ct E e i j t→CL D d o k t→CL D e o k t
 | 0,_,_,_,_,_,_,h,_=>h.elim
 | e+1,i,j,.mk s G,0,o,k,_,h=>h.elim
 | e+1,i,j,.mk s G,d+1,o,k,K,h=>by
   obtain ⟨u,J,h⟩:=h;refine ⟨u,J,?_⟩;have C:∀p c,(p,c)∈G→∀t,t∈c→∃a b,Ct E e a b t:=by
    intro p c g t n;obtain ⟨_,_,S⟩:=K;rcases S with ⟨rfl,_⟩ | ⟨O,R,P,rfl,_,_,r,_⟩ | ⟨O,R,P,T,F,U,rfl,_,_,r,_,Q,_⟩
    ·cases g
    ·simp only [cM,bU,or_false,cI] at g;rw [g.2] at n;exact r.each t n
    ·simp only [cM,bU,or_false,cI] at g;rcases g with g | g
     ·rw [g.2] at n;exact r.each t n
     ·rw [g.2] at n;exact Q.each t n
   have M:∀(l:List Nat) (m:List TS),(∀t,t∈m→∃a b,Ct E e a b t)→Cz (fun j t=>k<j∧CL D d o j t) l m→Cz (fun j t=>k<j∧CL D e o j t) l m:=by
    intro l m H q;induction q with
    | nil=>exact .nil
    | cons h _ N=> obtain ⟨a,b,L⟩:=H _ (cS ..);exact .cons ⟨h.1,L.flat h.2⟩ (N (fun t n=>H t (bN _ n)))
   rcases h with h | ⟨p,c,f,v,w,x,y,z,A,B⟩ | ⟨p,c,f,v,w,x,y,z,A,B⟩ | ⟨p,c,I,F,f,v,w,x,y,z,A,B⟩
   ·exact .inl h
   ·exact .inr (.inl ⟨p,c,f,v,w,x,y,z,A,M _ _ (C p c (by rw [f];simp)) B⟩)
   ·exact .inr (.inr (.inl ⟨p,c,f,v,w,x,y,z,A,M _ _ (C p c (by rw [f];simp)) B⟩))
   ·exact .inr (.inr (.inr ⟨p,c,I,F,f,v,w,x,y,z,M _ _ (C p c (by rw [f];simp)) A,M _ _ (C I F (by rw [f];simp)) B⟩))
structure Lk(F:DataW Unit)(fns:List TF)(fns0:List RF):Prop where
 nm:∀s,has F (Bj s)=true↔0≤CB (fns0.map fun f=>f.name.i6) s 0
 ar:∀s,0≤CB (fns0.map fun f=>f.name.i6) s 0→IB fns (Ce F s)=((fns0.map fun f=>f.Yn.length)[(CB (fns0.map fun f=>f.name.i6) s 0).toNat]?).getD 0
def DN(lo:Nat)(D:DataW Unit)(c:CS)(vs:List ByteArray)(a:CS):Prop:=
 c=a∧((c.Ym=0∧Tidy D∧(∀s,has D (Bj s)=true↔s∈vs)∧size D=vs.length)∨(c.Ym≠0∧c.i9<lo))
theorem DN.mono{b d D c e a}(h:DN b D c e a)(f:b≤d):DN d D c e a:=
 ⟨h.1,h.2.imp id (fun q=>⟨q.1,by omega⟩)⟩
theorem DN.YV{lo p e D c vs f}(h:DN lo D c vs f)(l:lo≤p)(i:e≠0)(g j):DN (p+1) g (BK e p c) j (Bg e p f):=by
 obtain ⟨rfl,h⟩:=h;rcases h with ⟨d,_⟩ | ⟨d,k⟩
 ·have a:BK e p c=⟨e,p⟩:=by simp [BK,d]
  have b:Bg e p c=⟨e,p⟩:=by simp [Bg,d]
  rw [a,b];exact ⟨rfl,.inr ⟨i,by simp⟩⟩
 ·have a:BK e p c=c:=by simp [BK,d]
  have b:Bg e p c=c:=by unfold Bg;rw [cT (by omega)]
  rw [a,b];exact ⟨rfl,.inr ⟨d,by omega⟩⟩
theorem DN.Ya{d p D c g a}(h:DN d D c g a)(j:d≤p)(b:c.Ym≠0)(e):BK e p c=c∧Bg e p a=c:=by
 obtain ⟨rfl,h⟩:=h;rcases h with ⟨f,_⟩ | ⟨_,i⟩
 ·exact dC f b
 ·exact ⟨by simp [BK,b],by unfold Bg;rw [cT (by omega)]⟩
theorem DN.name{l D c a f}(h:DN l D c a f)(t)(k:l≤t.i9):DN (t.i9+1) D (Cx D t c) a (DB a (An t) f):=by
 by_cases g:c.Ym=0
 ·rcases h.2 with ⟨_,_,j,_⟩ | ⟨q,_⟩
  ·have i:=(Dt a t.i6 0).1;unfold Cx DB;have e:(An t).i6=t.i6:=rfl;rw [e];by_cases d:has D (Bj t.i6)=true
   ·rw [cU d,cU (i.2 ((j _).1 d))];exact h.mono (by omega)
   ·rw [cT d,cT (fun q=>d ((j _).2 (i.1 q)))];exact h.YV k (by decide) _ _
  ·exact dC g q
 ·have b:=h.Ya k g 6;have m:Cx D t c=c:=by unfold Cx;split;rfl;exact b.1
  have n:DB a (An t) f=c:=by unfold DB;split;exact h.1.symm;exact b.2
  rw [m,n];rcases h.2 with ⟨q,_⟩ | q
  ·exact dC q g
  ·exact ⟨rfl,.inr ⟨q.1,by omega⟩⟩
theorem DN.decl{j D c b k}(h:DN j D c b k)(t)(n:j≤t.i9):DN (t.i9+1) (G8 D t) (EM D t c) (b++[t.i6]) (De b (An t) k):=by
 by_cases a:c.Ym=0
 ·obtain ⟨rfl,l⟩:=h;rcases l with ⟨_,i,g,o⟩ | ⟨q,_⟩
  ·have u:=(Dt b t.i6 0).1;unfold EM De;simp only;rw [o];have e:(An t).i6=t.i6:=rfl;have z:(An t).pos=t.i9:=rfl;rw [e,z];by_cases f:12≤b.length
   ·have v:BK 4 t.i9 c=⟨4,t.i9⟩:=by simp [BK,a]
    have w:Bg 4 t.i9 c=⟨4,t.i9⟩:=by simp [Bg,a]
    rw [cU f,cU f,v,w];have x:BK 5 t.i9 ⟨4,t.i9⟩=⟨4,t.i9⟩:=by simp [BK]
    have y:Bg 5 t.i9 ⟨4,t.i9⟩=⟨4,t.i9⟩:=by simp [Bg]
    rw [x,y];refine ⟨?_,.inr ?_⟩
    ·simp
    ·simp
   ·rw [cT f,cT f];by_cases d:has D (Bj t.i6)=true
    ·rw [cU d,cU (u.2 ((g _).1 d))];exact DN.YV (lo:=j) (D:=D) (vs:=b) ⟨rfl,.inl ⟨a,i,g,o⟩⟩ n (by decide) _ _
    ·rw [cT d,cT (fun q=>d ((g _).2 (u.1 q)))];refine ⟨rfl,.inl ⟨a,i.put (Fy _) _,fun s=>?_,?_⟩⟩
     ·unfold G8;by_cases m:Bj s=Bj t.i6
      ·have:=It m;subst this;rw [has_put_same i.isMap (Fy _)];simp
      ·rw [has_put_other m,g s];have:s≠t.i6:=fun q=>m (by rw [q])
       simp [this]
     ·unfold G8;rw [size_put i,cT d,o];simp
  ·exact dC a q
 ·have p:=h.Ya n a 4;have r:=h.Ya n a 5;have A:EM D t c=c:=by unfold EM;simp only;split<;>split<;>simp [p.1,r.1]
  have l:De b (An t) k=c:=by have e:=h.1;subst e;unfold De;simp only [show (An t).pos=t.i9 from rfl];split<;>split<;>simp [p.2,r.2]
  rw [A,l];rcases h.2 with ⟨q,_⟩ | q
  ·exact dC q a
  ·exact ⟨rfl,.inr ⟨q.1,by omega⟩⟩
theorem DN.fun{F:DataW Unit}{i:List TF}{d:List RF}(L:Lk F i d){f:Nat}{D:DataW Unit}{c:CS}{g:List ByteArray}{b:CS}(h:DN f D c g b)(t:PT)(j:f≤t.i9):DN (t.i9+1) D (Cx F t c) g (Ea d (An t) (-1) b):=by
 have e:=L.nm t.i6;unfold Cx Ea;rw [show (An t).i6=t.i6 from rfl,show (An t).pos=t.i9 from rfl];by_cases a:has F (Bj t.i6)=true
 ·rw [cU a,cU (e.1 a),cT (by omega)];exact h.mono (by omega)
 ·rw [cT a,cT (fun q=>a (e.2 q))];exact h.YV j (by decide) _ _
theorem DN.called{F:DataW Unit}{i:List TF}{d:List RF}(L:Lk F i d){l:Nat}{D:DataW Unit}{c:CS}{m:List ByteArray}{g:CS}(h:DN l D c m g)(t:PT)(a:Nat)(k:l≤t.i9):DN (t.i9+1) D (Ee F i t a c) m (Ea d (An t) a g):=by
 have e:=L.nm t.i6;unfold Ee Ea;rw [show (An t).i6=t.i6 from rfl,show (An t).pos=t.i9 from rfl];by_cases b:has F (Bj t.i6)=true
 ·rw [cU b,cU (e.1 b),L.ar _ (e.1 b)];by_cases j:((d.map fun f=>f.Yn.length)[(CB (d.map fun f=>f.name.i6) t.i6 0).toNat]?).getD 0=a
  ·rw [cU j,cT (by omega)];exact h.mono (by omega)
  ·rw [cT j,cU ⟨by omega,by omega⟩];exact h.YV k (by decide) _ _
 ·rw [cT b,cT (fun q=>b (e.2 q))];exact h.YV k (by decide) _ _
end Go.Proofs.YthppbgndiplgnaaGreatDoor
