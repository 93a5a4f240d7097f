/- One of the texts of the proof of texts_card_holds: CkK CkL PaE PaF0 RtA Plain. -/
import Derived.Test.YtmaankfbhhbeoaaGreatDoorG07
import Derived.Maps.Views
set_option maxRecDepth 100000
set_option maxHeartbeats 4000000
namespace Go.Proofs.YtmaankfbhhbeoaaGreatDoor
open Go.RowKit Go.Maps
def Jh(F:DataW Unit)(f:List TF)(d b:Nat)(t:TF)(c:CS):CS:=
 let a:=if 12≤b then Bb 4 t.name.f8 c else c
 let e:=if Bf F t.name.d9=b then a else Bb 5 t.name.f8 a
 (H8 F f d 1 (t.f8,t.t7) (JN t.l8 (.map [],e))).2
structure Ku(b d:Nat)(U:Nat→Prop)(fs:Value)(fns:List TF)(stop:Int)(mf nf:Nat)(F:DataW Unit)(mv:Value)(fa:Array Value)(w:World)(c:CS)(W:World):Prop where
 s9:BA b fs stop (.map (some mf)) mv c W
 t9:AS mf nf F W
 rows:Cy d U W fs fns
 i6:Aq w.heap.size fa 126 W
 d7:Ab (fun k=>k=b) w W
theorem Ku.step{b d:Nat}{U:Nat→Prop}{f:Value}{n:List TF}{j:Int}{g o:Nat}{F:DataW Unit}{i:Value}{m:Array Value}{w W e:World}{c l:CS}(h:Ku b d U f n j g o F i m w c W)(s:¬U b)(t:b<w.heap.size)(p:BA b f j (.map (some g)) i l e)(a:Ab (fun k=>k=b) W e):Ku b d U f n j g o F i m w l e:=
 ⟨p,h.t9.d7 a (h.t9.ne h.s9),h.rows.d7 a (fun _ r q=>s (q▸r)),Aq.d7 h.i6 a (by omega),h.d7.trans a⟩
theorem Ku.quiet{b d}{U:Nat→Prop}{i g m j l F k f w W e c}(h:Ku b d U i g m j l F k f w c W)(a:Ab (fun _=>False) W e):Ku b d U i g m j l F k f w c e:=
 ⟨Aq.d7 h.s9 a (fun q=>q),h.t9.d7 a (fun q=>q),h.rows.d7 a (fun _ _ q=>q),Aq.d7 h.i6 a (fun q=>q),h.d7.trans (a.mono (fun _ _ q=>q.elim))⟩
theorem Ku.made{b d:Nat}{U:Nat→Prop}{g:Value}{a:List TF}{l:Int}{i j:Nat}{F:DataW Unit}{s:Value}{f:Array Value}{w W:World}{c:CS}(h:Ku b d U g a l i j F s f w c W)(m:¬U b)(v:b<w.heap.size)(p:∀k,U k→k<w.heap.size)(o:FH F a.length)(n:a.length≤4001):
 Ck b d U g a l i j W.heap.size 0 F (.map []) c ((W.alloc (.map #[] 0)).setCell ⟨b,3,none⟩ (.map (some W.heap.size)))∧Aq w.heap.size f 126 ((W.alloc (.map #[] 0)).setCell ⟨b,3,none⟩ (.map (some W.heap.size)))∧Ab (fun k=>k=b) w ((W.alloc (.map #[] 0)).setCell ⟨b,3,none⟩ (.map (some W.heap.size))):=by
 have e:Ab (fun k=>k=b) W ((W.alloc (.map #[] 0)).setCell ⟨b,3,none⟩ (.map (some W.heap.size))):=((Ab.refl _ W).alloc _).i7 3 _;have u:=h.d7.size;have t:=World.ownsMap.lt h.t9;refine ⟨⟨?_,?_,h.t9.d7 e (h.t9.ne h.s9),h.rows.d7 e (fun _ r q=>m (q▸r)),o,n,by omega,m,fun q=>by have:=p _ q;omega⟩,Aq.d7 h.i6 e (by omega),h.d7.trans e⟩
 ·have:=Aq.set (Aq.alloc h.s9 (.map #[] 0)) 3 (.map (some W.heap.size));simpa [BA] using this
 ·have:=World.ownsMap_made (H:=Unit) W Tryz.prog 9 (plainElem Tryz.prog 3);exact AS.d7 this ((Ab.refl (fun k=>k=b) _).i7 3 _) (by omega)
theorem KC(b d f:Nat)(U:Nat→Prop)(fs:Value)(a:List TF)(o:Int)(m E:Nat)(F:DataW Unit)(c:CS)(D:Value)(w:World)(I:BA b fs o (.map (some m)) D c w)(hm:AS m E F w)(Z:Cy d U w fs a)(a7:FH F a.length)(b6:a.length≤4001)(ub:¬U b)(hU:∀k,U k→k<w.heap.size)(c4:f<a.length)
 (hO:∀t,t∈a[f].t7→LT d t)(c5:a[f].name.d9.size≤4000)(c6:∀t,t∈a[f].l8→t.d9.size≤4000∧t.f8≤4000)(c0:a[f].l8.length+(a[f].t7.map (Bl d)).sum≤4000)(hd:1+d≤4001)(hl:a[f].t7.length≤4000):
 Calls Tryz.prog 39 #[.pointer (some ⟨b,0,none⟩),.int .i64 f] w fun e w'=>e=.returned (.tuple #[])∧(∃m',BA b fs o (.map (some m)) (.map (some m')) (Jh F a d f a[f] c) w')∧Ab (fun k=>k=b) w w':=by
 have c3:=Z;obtain ⟨d1,O,_⟩:=c3;obtain ⟨va,vl,vc,rfl⟩:=Af O;obtain ⟨g,rfl⟩:=Ay O (by omega);have c9:=Ap O;subst c9;have lg:=(O.lt g rfl).2;obtain ⟨av,sv,C,v,a8,a4⟩:=Z.get c4;obtain ⟨z,l1,A,rfl⟩:=Af v;have b8:=Ap v;subst b8;have c8:=a4;obtain ⟨d2,p2,_⟩:=c8;obtain ⟨r,y,s,rfl⟩:=Af p2;have f0:=C 0 (by omega);have f1:=C 1 (by omega);have f2:=C 2 (by omega);have f3:=C 3 (by omega);have f4:=C 4 (by omega);simp only [Ia,Ni,Ng,Nh,Nat.add_zero] at f0 f1 f2 f3 f4;clear O p2 C;have r0:=Aj I 0;have r2:=Aj I 2;simp only [Ni,Ng,Nh] at r0 r2;have lb:=Ad I;have d4:=@run_makeMap Tryz.prog;generalize a[f]=t at*;have P:=(Ab.refl (fun _=>False) w).alloc (.cells #[.string t.name.d9,.int .i64 t.name.f8,.slice z t.l8.length A,.int .i64 t.f8,.slice r y s] 126);have Q:=Aa (show Ku b d U _ a o m E F D #[.string t.name.d9,.int .i64 t.name.f8,.slice z t.l8.length A,.int .i64 t.f8,.slice r y s] w c (w.alloc (.cells #[.string t.name.d9,.int .i64 t.name.f8,.slice z t.l8.length A,.int .i64 t.f8,.slice r y s] 126)) from ⟨Aq.d7 I P (fun q=>q),hm.d7 P (fun q=>q),Z.d7 P (fun _ _ q=>q),Aq.new w _ _,P.mono (fun _ _ q=>q.elim)⟩);have HA:=Aa v;have HT:=Aa a4;have HO:=Aa hO;have b4:=Aa a8;clear I hm Z v a4 hO a8 P;go_enter Tryz.func39,Tryz.ntmps39;go_upto_if 16 with fail;go_cut [] (fun wx=>∃l,Nj ((if 12≤f then Bb 4 t.name.f8 c else c)=l)∧Nj (Ku b d U (.slice (some ⟨g,0,none⟩) a.length vc) a o m E F D #[.string t.name.d9,.int .i64 t.name.f8,.slice z t.l8.length A,.int .i64 t.f8,.slice r y s] w l wx))
 case first=>
  by_cases S:12≤f
  ·have b7:(12:Int)≤(f:Int):=by omega
   have a0:=Aa S;clear S;go_wp2_with (go_at_call 41;refine (Bh b 4 t.name.f8 _ o (.map (some m)) D c _ Q.o.s9).mono ?_);rintro e W ⟨rfl,K,N⟩;have n:=Aa (Q.o.step ub lb K N);clear K N;go_wp2_with fail;go_meet
   case rel=>exact ⟨_,if_pos a0.o,n⟩
  ·have b7:¬(12:Int)≤(f:Int):=by omega
   have a0:=Aa S;clear S;go_wp2_with fail;go_meet
   case rel=>exact ⟨_,if_neg a0.o,Q⟩
 case rest=>
 obtain ⟨l,E1,n⟩:=hcut;clear Q r0 r2 f0 f1 f2 f3 f4;have i0:=Aj n.o.i6 0;have i1:=Aj n.o.i6 1;simp only [Ni,Ng,Nh] at i0 i1;have b2:=Aj n.o.s9 2;simp only [Ni,Ng,Nh] at b2;have lw:=n.o.d7.size;have d0:=Ad n.o.i6;have a3:=J5 (w:=wc.drew) (n.o.t9.d7 ((Ab.refl (fun _=>False) wc).drew) (fun q=>q)) a7 c5;go_wp2;go_region;go_upto_if 31 with fail;go_cut [] (fun wx=>∃B,Nj ((if Bf F t.name.d9=f then l else Bb 5 t.name.f8 l)=B)∧Nj (Ku b d U (.slice (some ⟨g,0,none⟩) a.length vc) a o m E F D #[.string t.name.d9,.int .i64 t.name.f8,.slice z t.l8.length A,.int .i64 t.f8,.slice r y s] w B wx))
 case first=>
  have h:=Aa (n.o.quiet ((Ab.refl (fun _=>False) wc).drew));by_cases J:Bf F t.name.d9=f
  ·have a6:(((Bf F t.name.d9:Nat):Int) !=(f:Int))=false:=by simp [J]
   have HX:=Aa J;clear J a3;rw [a6];go_wp2_with fail;go_meet
   case rel=>exact ⟨_,if_pos HX.o,h⟩
  ·have a6:(((Bf F t.name.d9:Nat):Int) !=(f:Int))=true:=by simp;omega
   have HX:=Aa J;clear J a3;rw [a6];go_wp2_with (go_at_call 41;refine (Bh b 5 t.name.f8 _ o (.map (some m)) D l _ h.o.s9).mono ?_);rintro e W ⟨rfl,K,N⟩;have FX:=Aa (h.o.step ub lb K N);clear K N;go_wp2_with fail;go_meet
   case rel=>exact ⟨_,if_neg HX.o,FX⟩
 case rest=>
 obtain ⟨B,E2,h⟩:=hcut;obtain ⟨R,hR⟩:∃R,JN t.l8 (.map [],B)=R:=⟨_,rfl⟩;have HR:Nj ((t.l8.drop 0).foldl (fun x t=>(Ed x.1 t,CZ x.1 t x.2)) (.map [],B)=R):=hR;have a9:Jh F a d f t c=(H8 F a d 1 (t.f8,t.t7) R).2:=by unfold Jh;dsimp only;rw [E1.o,E2.o,hR]
 have b5:=Aa a9;clear a9 hR a3 n i0 i1 b2 lw d0;generalize hV:wc=V at*;have b3:=Aj h.o.s9 3;have bf:=fun i=>AK h.o.s9 i
 have lv:=h.o.d7.size;have d6:=Ad h.o.i6;have j0:=Aj h.o.i6 0;have j1:=Aj h.o.i6 1;have j2:=Aj h.o.i6 2;have j3:=Aj h.o.i6 3;have j4:=Aj h.o.i6 4;simp only [Ni,Ng,Nh] at j0 j1 j2 j3 j4;simp only [Ni,Ng,Nh] at b3;have Y:=h.o.made ub lb hU a7 b6;have KX:=Aa Y.1;have BX:=Aa Y.2.1;have OX:=Aa Y.2.2;clear Y;have xq:∀i,(V.alloc (.map #[] 0)).cell? ⟨b,i,none⟩=V.cell? ⟨b,i,none⟩:=fun i=>World.cell?_of_block (w:=V) (((Ab.refl (fun _=>False) V).alloc (.map #[] 0)).block b (by omega) (fun q=>q))
 have x3:=xq 3;rw [b3] at x3;have xf:=fun i=>AK (Aq.alloc h.o.s9 (.map #[] 0)) i
 have z2:=Aj BX.o 2;simp only [Ni,Ng,Nh] at z2;clear xq;go_wp2;generalize (V.alloc (.map #[] 0)).setCell ⟨b,3,none⟩ (.map (some V.heap.size))=X at*;go_loopw [44] (fun i wr=>∃(k:Nat) (p:DataW Unit) (l:CS),k≤t.l8.length∧i=.int .i64 k∧Nj (Ck b d U (.slice (some ⟨g,0,none⟩) a.length vc) a o m E V.heap.size k F p l wr)∧Nj (Ab (fun k=>k=b∨k=V.heap.size) w wr)∧Nj (Aq w.heap.size #[.string t.name.d9,.int .i64 t.name.f8,.slice z t.l8.length A,.int .i64 t.f8,.slice r y s] 126 wr)∧Nj ((t.l8.drop k).foldl (fun x t=>(Ed x.1 t,CZ x.1 t x.2)) (p,l)=R)) (fun i _=>t.l8.length-(intOf i).toNat)
 case atStart=>exact ⟨0,.map [],B,by omega,rfl,KX,Aa (OX.o.mono (fun _ _ q=>.inl q)),BX,HR⟩
 case round=>
  obtain ⟨k,p,l,d3,rfl,k1,L,x1,b1⟩:=hrel;clear KX OX BX HR;have v:∀j,U j→¬(j=b∨j=V.heap.size):=fun j T q=>q.elim (fun e=>ub (e▸T)) (fun e=>by have:=hU j T;omega)
  have l0:=L.o.size;by_cases hk:k<t.l8.length
  ·have H:=Ac HA.o L.o (fun j T=>v j (b4.o j T));obtain ⟨ga,rfl⟩:=Ay H (by omega);have d5:=(H.lt ga rfl).2;have ha:=Fi hk;have n0:=H.cellAt (k*2) (by omega);have n1:=H.cellAt (k*2+1) (by omega);rw [ha.1] at n0;rw [ha.2] at n1;have c7:=Aa (C3 (fun x t=>(Ed x.1 t,CZ x.1 t x.2)) t.l8 k hk (p,l));have b0:=c6 t.l8[k] (List.getElem_mem _);clear ha H;generalize t.l8[k]=u at*;have G:=Aa ((Ab.refl (fun _=>False) wr).alloc (.cells #[.string u.d9,.int .i64 u.f8] 120));go_wp2_with (go_at_call 57;refine (Fe b _ o (.map (some m)) V.heap.size k p l u _ (k1.o.quiet G.o).s9 (k1.o.quiet G.o).r6 b0.1 b0.2 (by omega)).mono ?_;rintro e w2 ⟨rfl,b9,a5,M⟩);go_round
   case rel=>exact ⟨k+1,_,_,by omega,by go_num,Aa ((k1.o.quiet G.o).MM b9 a5 M),Aa (L.o.trans ((G.o.mono (fun _ _ q=>q.elim)).trans M)),Aa (Aq.d7 (Aq.d7 x1.o G.o (fun q=>q)) M (by omega)),Aa (c7.o.symm.trans b1.o)⟩
   case measure=>simp [intOf];omega
  ·have e:k=t.l8.length:=by omega
   subst e;have a5:(p,l)=R:=by have:=b1.o;simpa using this
   subst a5;have y3:=Aj x1.o 3;have y4:=Aj x1.o 4;simp only [Ni,Ng,Nh] at y3 y4;go_wp2_with (go_at_call 58;refine (Ej d (GU d) b d 1 t.f8 U _ a o m E V.heap.size t.l8.length F p l t.t7 (.slice r y s) _ k1.o (CI.d7 HT.o L.o v) HO.o c0 hd hl).mono ?_);rintro e w2 ⟨rfl,⟨n2,_,k2⟩,M⟩;go_wp2;go_end0;exact ⟨rfl,⟨V.heap.size,by rw [b5.o];exact k2.s9⟩,(L.o.trans M).mono (fun _ _ q=>q.elim (fun e=>e) (fun e=>by omega))⟩
theorem DA(s):WideAt.IsKeyLit (AT s):=by unfold AT WideAt.IsKeyLit;trivial
theorem Gf{a b}(h:AT a=AT b):a=b:=by unfold AT at h;simp only [Lit.string.injEq] at h;exact ByteArray.ext (Array.toList_inj.1 h)
theorem E7(N:Nat):∀(l:List TF) (k:Nat) (D:DataW Unit),IsMap D→k+l.length≤N→(∀s,has D (AT s)=true→∃j:Nat,j<N∧D.atKey (AT s) (.lit (.int .i64 0))=.lit (.int .i64 j))→∀s,has (AN l k D) (AT s)=true→∃j:Nat,j<N∧(AN l k D).atKey (AT s) (.lit (.int .i64 0))=.lit (.int .i64 j)
 | [],_,_,_,_,h=>h
 | t::l,k,D,b,e,h=>by
   rw [AN];simp only [List.length_cons] at e;by_cases c:has D (AT t.name.d9)=true
   ·rw [if_pos c];exact E7 N l (k+1) D b (by omega) h
   ·rw [if_neg c];refine E7 N l (k+1) _ (b.put _ _) (by omega) (fun s d=>?_);by_cases a:AT s=AT t.name.d9
    ·exact ⟨k,by omega,by rw [a];exact atKey_put_same b (DA _) _ _⟩
    ·rw [has_put_other a] at d;rw [atKey_put_other a];exact h s d
theorem KJ(a):FH (AN a 0 (.map [])) a.length:=fun s b=>E7 a.length a 0 _ isMap_empty (by omega) (fun s b=>by simp [has_eq] at b) s b
def DP(F:DataW Unit)(a:List TF)(d:Nat):List TF→Nat→CS→CS
 | [],_,c=>c
 | t::l,i,c=>DP F a d l (i+1) (Jh F a d i t c)
theorem JU(F:DataW Unit)(a:List TF)(d:Nat)(l:List TF)(i:Nat)(h:i<l.length)(c:CS):DP F a d (l.drop i) i c=DP F a d (l.drop (i+1)) (i+1) (Jh F a d i l[i] c):=by rw [List.drop_eq_getElem_cons h];rfl
def Ek(a:List TF)(d b:Nat):CS:=
 if (has (AN a 0 (.map [])) (AT ⟨#[109,97,105,110]⟩) && EP a (Bf (AN a 0 (.map [])) ⟨#[109,97,105,110]⟩)==0)=true then DP (AN a 0 (.map [])) a d a 0 ⟨0,0⟩
 else Bb 6 b (DP (AN a 0 (.map [])) a d a 0 ⟨0,0⟩)
structure JT(d:Nat)(fns:List TF):Prop where
 Mz:fns.length≤4000
 dd:1+d≤4001
 each:∀t,t∈fns→t.name.d9.size≤4000∧(∀s,s∈t.t7→LT d s)∧(∀p,p∈t.l8→p.d9.size≤4000∧p.f8≤4000)∧t.l8.length+(t.t7.map (Bl d)).sum≤4000∧t.t7.length≤4000
abbrev Mk:Array Value:=#[.slice none 0 0,.int .i64 0,.map none,.map none,.int .i64 0,.int .i64 0]
theorem GQ(d:Nat)(U:Nat→Prop)(fs:Value)(a:List TF)(f:Nat)(w:World)(T:Cy d U w fs a)(hU:∀k,U k→k<w.heap.size)(G:JT d a):
 Calls Tryz.prog 19 #[.agg #[fs,.int .i64 f]] w fun e w'=>e=.returned (.tuple #[.int .i64 (Ek a d f).p9,.int .i64 (Ek a d f).f8])∧Ab (fun _=>False) w w':=by
 have c0:=T;obtain ⟨c4,Z,_⟩:=c0;obtain ⟨h,vl,l,rfl⟩:=Af Z;have c3:=Ap Z;subst c3;have S:=G.Mz;have R:=KJ a;obtain ⟨F,hF⟩:∃F,AN a 0 (.map [])=F:=⟨_,rfl⟩;rw [hF] at R;have hV:Ek a d f=(if (has F (AT ⟨#[109,97,105,110]⟩) && EP a (Bf F ⟨#[109,97,105,110]⟩)==0)=true then DP F a d a 0 ⟨0,0⟩ else Bb 6 f (DP F a d a 0 ⟨0,0⟩)):=by unfold Ek;rw [hF]
 rw [hV];obtain ⟨C,N⟩:∃C,DP F a d a 0 ⟨0,0⟩=C:=⟨_,rfl⟩;rw [N];have a1:Nj (DP F a d (a.drop 0) 0 ⟨0,0⟩=C):=N;obtain ⟨V,Q⟩:∃V,(if (has F (AT ⟨#[109,97,105,110]⟩) && EP a (Bf F ⟨#[109,97,105,110]⟩)==0)=true then C else Bb 6 f C)=V:=⟨_,rfl⟩;rw [Q];have a3:=Aa Q;clear Q;have HP:=Aa T;have HY:=Aa G;have HL:Nj (∀t,t∈a→t.name.d9.size≤4000):=fun t ht=>(G.each t ht).1
 have a2:=Aa hU;have J:=Aa R;have b1:=Aa hF;have b0:Nj (Aq (w.heap.size+1) Mk 100 ((w.alloc (.cells #[.slice h a.length l,.int .i64 f] 36)).alloc (.cells Mk 100))):=by have:=Aq.new (w.alloc (.cells #[.slice h a.length l,.int .i64 f] 36)) Mk 100;exact Aa (by simpa using this)
 have a0:Nj (Aq w.heap.size #[.slice h a.length l,.int .i64 f] 36 (w.alloc (.cells #[.slice h a.length l,.int .i64 f] 36))):=Aq.new _ _ _;have a9:Nj (Aq w.heap.size #[.slice h a.length l,.int .i64 f] 36 ((w.alloc (.cells #[.slice h a.length l,.int .i64 f] 36)).alloc (.cells Mk 100))):=a0.o.alloc _;have b4:Nj (Ab (fun _=>False) w (w.alloc (.cells #[.slice h a.length l,.int .i64 f] 36)).drew):=((Ab.refl _ w).alloc _).drew;have b5:Nj (Ab (fun _=>False) w ((w.alloc (.cells #[.slice h a.length l,.int .i64 f] 36)).alloc (.cells Mk 100)).drew):=(((Ab.refl _ w).alloc _).alloc _).drew;clear T Z G hV N R hU hF;go_enter Tryz.func19,Tryz.ntmps19;go_wp2_with fail;go_cut [4] (fun v H=>∃b M,v=.pointer (some ⟨b,0,none⟩)∧w.heap.size≤b∧b≠w.heap.size∧BA b (.slice h a.length l) f (.map (some M)) (.map none) ⟨0,0⟩ H∧AS M a.length F H∧Aq w.heap.size #[.slice h a.length l,.int .i64 f] 36 H∧Ab (fun _=>False) w H)
 case first=>
  go_region_with (go_at_call 38;refine (Eo d U _ a f _ (HP.o.d7 (X:=fun _=>False) (by repeat (first | exact Ab.refl _ _ | refine Ab.drew ?_ | refine Ab.drewN ?_ _ | refine Ab.alloc ?_ _)) (fun _ _ q=>q)) HL.o S).mono ?_;rw [b1.o];rintro e n ⟨M,rfl,hM,a7,g⟩;have A:Aq w.heap.size #[.slice h a.length l,.int .i64 f] 36 n:=(by first | exact Aq.d7 (X:=fun _=>False) (Aq.d7 (X:=fun _=>False) a0.o ((Ab.refl (fun _=>False) _).drew) (fun q=>q)) g (fun q=>q) | exact Aq.d7 (X:=fun _=>False) (Aq.d7 (X:=fun _=>False) a9.o ((Ab.refl (fun _=>False) _).drew) (fun q=>q)) g (fun q=>q));have I:=A.cell 0;have y1:=A.cell 1;have yl:=Ad A;simp only [Ni,Ng,Nh] at I y1;first | (have m:=Aq.d7 (X:=fun _=>False) (Aq.d7 (X:=fun _=>False) b0.o ((Ab.refl (fun _=>False) _).drew) (fun q=>q)) g (fun q=>q);have z0:=m.cell 0;have z1:=m.cell 1;have z2:=m.cell 2;have z3:=m.cell 3;have z4:=m.cell 4;have z5:=m.cell 5;have zf:=m.frozen;have zl:=Ad m;simp only [Ni,Ng,Nh] at z0 z1 z2 z3 z4 z5) | skip);all_goals
   have c1:=g.size;simp at c1;go_wp2_with fail;go_meet
   case rel=>
    first
    | (have c6:=m
       have O:=b5.o.t8 g
       have P:Ab (fun k=>k=w.heap.size+1) n ((((((n.setCell ⟨w.heap.size+1,0,none⟩ (.slice h a.length l)).setCell ⟨w.heap.size+1,1,none⟩ (.int .i64 f)).setCell ⟨w.heap.size+1,2,none⟩ (.map (some M))).setCell ⟨w.heap.size+1,3,none⟩ (.map none)).setCell ⟨w.heap.size+1,4,none⟩ (.int .i64 0)).setCell ⟨w.heap.size+1,5,none⟩ (.int .i64 0)):=(((((((Ab.refl _ n).i7 0 _).i7 1 _).i7 2 _).i7 3 _).i7 4 _).i7 5 _)
       have hB:=((((((m.set 0 (.slice h a.length l)).set 1 (.int .i64 f)).set 2 (.map (some M))).set 3 (.map none)).set 4 (.int .i64 0)).set 5 (.int .i64 0))
       exact ⟨w.heap.size+1,M,rfl,by omega,by omega,hB,a7.d7 P (by simp at hM;omega),A.d7 P (by omega),((O.mono (fun _ _ q=>q.elim)).trans P).mono (fun j hj q=>by omega)⟩)
    | (have O:=b4.o.t8 g
       exact ⟨n.heap.size,M,rfl,by omega,by omega,Aq.new n _ _,a7.d7 ((Ab.refl (fun _=>False) n).alloc _) (fun q=>q),A.alloc _,O.alloc _⟩)
 case rest=>
  obtain ⟨b,M,rfl,c5,b9,a4,hm,m,ho⟩:=hcut;have I:=m.cell 0;have yl:=Ad m;simp only [Ni,Ng] at I;have UB:Nj (¬U b):=fun q=>by have:=a2.o b q;omega
  have K0:=Aa a4;have M0:=Aa hm;have X0:=Aa m;have O0:=Aa ho;clear a4 hm m ho;go_wp2;go_loopw [13] (fun i wr=>∃(k:Nat) (c:CS) (s:Value),k≤a.length∧i=.int .i64 k∧Nj (BA b (.slice h a.length l) f (.map (some M)) s c wr)∧Nj (AS M a.length F wr)∧Nj (Aq w.heap.size #[.slice h a.length l,.int .i64 f] 36 wr)∧Nj (Ab (fun _=>False) w wr)∧Nj (DP F a d (a.drop k) k c=C)) (fun i _=>a.length-(intOf i).toNat)
  case atStart=>exact ⟨0,_,_,by omega,rfl,K0,M0,X0,O0,a1⟩
  case round=>
   clear K0 M0 X0 O0 a1 I yl;obtain ⟨k,c,s,c7,rfl,o,p,z,r,B⟩:=hrel;have L:Nj (Cy d U wr (.slice h a.length l) a):=HP.o.d7 r.o (fun _ _ q=>q);have b7:Nj (∀k,U k→k<wr.heap.size):=fun k S=>Nat.lt_of_lt_of_le (a2.o k S) r.o.size
   by_cases a6:k<a.length
   ·have W:=JU F a d a k a6 c;rw [B.o] at W;have b6:=Aa W;have he:=HY.o.each a[k] (List.getElem_mem _);have u:=Aa he;clear W B he;go_wp2_with fail;refine (KC b d k U _ a f M a.length F c s wr o.o p.o L.o J.o (by omega) UB.o b7.o a6 u.o.2.1 u.o.1 u.o.2.2.1 u.o.2.2.2.1 HY.o.dd u.o.2.2.2.2).mono ?_;rintro e n ⟨rfl,⟨m',a5⟩,g⟩;have K:=Aa a5;have b2:=Aa (p.o.d7 g (p.o.ne o.o));have b8:=Aa (z.o.d7 g (fun q=>b9 q.symm));have y:Nj (Ab (fun _=>False) w n):=((r.o.mono (fun _ _ q=>q.elim)).trans g).mono (fun j hj q=>by omega);clear a5 g o p z r;go_wp2_with fail;exact ⟨⟨k+1,_,_,by omega,by go_num,K,b2,b8,y,b6.o.symm⟩,by simp [intOf];omega⟩
   ·have e:k=a.length:=by omega
    have c2:C=c:=by have:=B.o;rw [e,List.drop_length] at this;exact this.symm
    subst c2;have c8:decide ((k:Int)<(a.length:Int))=false:=by simp;omega
    clear B;cases D:(has F (AT ⟨#[109,97,105,110]⟩) && EP a (Bf F ⟨#[109,97,105,110]⟩)==0) with
    | true=>
      have x:=Aa D;clear D;go_wp2_with fail;refine (Fg b d U _ a f s M a.length F C wr o.o p.o L.o J.o (by omega)).mono ?_;rw [x.o];rintro e n ⟨rfl,g⟩;have r4:=(Aq.d7 o.o g (fun q=>q)).cell 4;have r5:=(Aq.d7 o.o g (fun q=>q)).cell 5;have lb:=Ad (Aq.d7 o.o g (fun q=>q));simp only [Ni,Ng,Nh] at r4 r5;have y:=Aa (r.o.t8 g);clear g;go_wp2_with fail;go_region;go_wp2;go_ret2;have Y:V=C:=by rw [←a3.o,if_pos x.o]
      rw [Y];exact ⟨rfl,y.o.drew⟩
    | false=>
      have x:=Aa D;clear D;go_wp2_with fail;refine (Fg b d U _ a f s M a.length F C wr o.o p.o L.o J.o (by omega)).mono ?_;rw [x.o];rintro e n ⟨rfl,g⟩;have K:=Aa (Aq.d7 o.o g (fun q=>q));have x1:=(Aq.d7 z.o g (fun q=>q)).cell 1;have xl:=Ad (Aq.d7 z.o g (fun q=>q));simp only [Ni,Ng,Nh] at x1;have y:=Aa (r.o.t8 g);clear g o p z r;go_wp2_with fail;refine (Bh b 6 f _ f (.map (some M)) s C n K.o).mono ?_;rintro e w3 ⟨rfl,E,a8⟩;have r4:=Aq.cell E 4;have r5:=Aq.cell E 5;have lb:=Ad E;simp only [Ni,Ng,Nh] at r4 r5;have b3:Nj (Ab (fun _=>False) w w3):=((y.o.mono (fun _ _ q=>q.elim)).trans a8).mono (fun j hj q=>by omega);clear a8 E x1 xl;go_wp2_with fail;go_region;go_wp2;go_ret2;have Y:V=Bb 6 f C:=by rw [←a3.o,if_neg (by rw [x.o];decide)]
      rw [Y];exact ⟨rfl,b3.o.drew⟩
abbrev LR:Value:=.agg #[.slice none 0 0,.int .i64 0]
def Lx(s:ByteArray)(a b:Nat):Prop:=∀w:World,Calls Tryz.prog 9 #[.string s] w fun e c=>e=.returned (.tuple #[.slice none 0 0,LR,.int .i64 a,.int .i64 b])∧Below w.heap.size w c
theorem H0(s p)(i:s.size≤4000)(h:Aw s s.size 0 x0=.inl p):Lx s 2 p:=by
 intro w;have H:=Aa h;clear h;go_enter Tryz.func9,Tryz.ntmps9;go_wp2_with fail;refine (DK s i _).mono ?_;rw [H.o];rintro e c ⟨rfl,b⟩;have j:=b.size;simp at j;have g:Below w.heap.size w c:=((Below.refl _ _).alloc (Nat.le_refl _) _).trans (b.mono (by simp));have a:Aq w.heap.size #[.slice none 0 0,.int .i64 0] 36 c:=by show c.heap[w.heap.size]? =_;rw [b.block _ (by simp)];exact heap_alloc_new w _
 have d:=a.cell 0;have f:=a.cell 1;have k:=a.frozen;simp only [Ni,Ng,Nh] at d f;clear b a;go_wp2;refine bodyPost_ret (v:=.tuple #[.slice none 0 0,LR,.int .i64 2,.int .i64 p]) (by simp [results,Tryz.results9,go_sem,d,f]) rfl ⟨rfl,?_⟩;exact (g.setCell (p:=⟨w.heap.size,0,none⟩) (Nat.le_refl _) _).setCell (p:=⟨w.heap.size,1,none⟩) (Nat.le_refl _) _
theorem Gr(d n)(hF:Bi d n)(s y)(T:s.size≤4000)(h:Aw s s.size 0 x0=.inr y)(Q X x)(A:Bx (An s y) (An s y).length ⟨0,false,0⟩=(Q,X,x))(V:x.l7=true)(w)(z:Below d n w)(R:d≤w.heap.size)(j:(Ah (An s y) ((An s y).length-1)).kind=0):
 Calls Tryz.prog 9 #[.string s] w fun e Y=>e=.returned (.tuple #[.slice none 0 0,LR,.int .i64 3,.int .i64 x.r8])∧Below w.heap.size w Y:=by
 have H:=Aa h;have P:=Aa j;have K:=Aa z;have J:=Aa hF;have L:=Aa A;have D:0<(An s y).length:=by simp [An]
 have I:=Aa (Dk h);clear h j z hF A;generalize B:An s y=k at*;have N:=Aa B;clear B;go_enter Tryz.func9,Tryz.ntmps9;go_wp2_with fail;refine (DK s T _).mono ?_;rw [H.o];rintro e c ⟨v,rfl,a,E,f⟩;rw [N.o] at a E;have j:=f.size;simp at j;have C:Below w.heap.size w c:=((Below.refl _ _).alloc (Nat.le_refl _) _).trans (f.mono (by simp));have u:Aq w.heap.size #[.slice none 0 0,.int .i64 0] 36 c:=by show c.heap[w.heap.size]? =_;rw [f.block _ (by simp)];exact heap_alloc_new w _
 obtain ⟨va,vl,F,rfl⟩:=Af a;obtain ⟨g,rfl⟩:=Ay a D;have U:=Ap a;subst U;have S:=(a.lt g rfl).1;simp at S;have m:AI g k.length F k c:=⟨Ar a (by omega),rfl,E,I.o⟩;have M:=Aa m;have o:=Aa u;have l:=Aa C;clear f u C a;go_wp2_with fail;refine (Fa d n J.o g k.length F k c (K.o.trans (l.o.mono R)) (by omega) m D P.o).mono ?_;rw [L.o];rintro e G (⟨_,rfl,i⟩ | ⟨q,_⟩)
 ·have a0:=i.size;have b:Aq w.heap.size #[.slice none 0 0,.int .i64 0] 36 G:=by show G.heap[w.heap.size]? =_;rw [i.block _ (by omega)];exact o.o
  have O:=Aa (l.o.trans (i.mono (by omega)));have r:=b.cell 0;have t:=b.cell 1;have Z:=b.frozen;simp only [Ni,Ng,Nh] at r t;have W:=Ad b;clear i b o l m M;simp only;go_wp2;refine bodyPost_ret (v:=.tuple #[.slice none 0 0,LR,.int .i64 3,.int .i64 x.r8]) (by simp [results,Tryz.results9,go_sem,r,t,W]) rfl ⟨rfl,?_⟩;exact ((O.o.setCell (p:=⟨w.heap.size,0,none⟩) (Nat.le_refl _) _).setCell (p:=⟨w.heap.size,1,none⟩) (Nat.le_refl _) _).alloc (by simp;omega) _
 ·exact absurd (V.symm.trans q) (by decide)
theorem Hy(r K)(hF:Bi r K)(s y)(hs:s.size≤4000)(h:Aw s s.size 0 x0=.inr y)(f D x)(Q:Bx (An s y) (An s y).length ⟨0,false,0⟩=(f,D,x))(hx:x.l7=false)(w)(P:Below r K w)(hB:r≤w.heap.size)(B:(Ah (An s y) ((An s y).length-1)).kind=0)
 (t)(a5:∀d U w v,Cy d U w v f→Cy t U w v f)(hy:JT t f)(C)(O:Ek f t D=C)(hc:C.p9≠0):
 Calls Tryz.prog 9 #[.string s] w fun e w'=>e=.returned (.tuple #[.slice none 0 0,LR,.int .i64 C.p9,.int .i64 C.f8])∧Below w.heap.size w w':=by
 have a7:((C.p9:Int) !=0)=true:=by simp;omega
 have Y:=Aa O;clear hc O;have H:=Aa h;have HZ:=Aa B;have HG:=Aa P;have HF:=Aa hF;have HP:=Aa Q;have T:0<(An s y).length:=by simp [An]
 have Z:=Aa (Dk h);clear h B P hF Q;generalize R:An s y=E at*;have HT:=Aa R;clear R;go_enter Tryz.func9,Tryz.ntmps9;go_wp2_with fail;refine (DK s hs _).mono ?_;rw [H.o];rintro e o ⟨v,rfl,b,V,u⟩;rw [HT.o] at b V;have B:=u.size;simp at B;have S:Below w.heap.size w o:=((Below.refl _ _).alloc (Nat.le_refl _) _).trans (u.mono (by simp));have N:Aq w.heap.size #[.slice none 0 0,.int .i64 0] 36 o:=by show o.heap[w.heap.size]? =_;rw [u.block _ (by simp)];exact heap_alloc_new w _
 obtain ⟨va,vl,X,rfl⟩:=Af b;obtain ⟨g,rfl⟩:=Ay b T;have a6:=Ap b;subst a6;have a4:=(b.lt g rfl).1;simp at a4;have J:AI g E.length X E o:=⟨Ar b (by omega),rfl,V,Z.o⟩;have a1:=Aa J;have L:=Aa N;have G:=Aa S;clear u N S b;go_wp2_with fail;refine (Fa r K HF.o g E.length X E o (HG.o.trans (G.o.mono hB)) (by omega) J T HZ.o).mono ?_;rw [HP.o];rintro e F (⟨q,_⟩ | ⟨_,d,U,a,l,c,rfl,I,hu,z⟩)
 ·exact absurd (hx.symm.trans q) (by decide)
 ·simp only at I⊢;have a8:=z.size;have i:Aq w.heap.size #[.slice none 0 0,.int .i64 0] 36 F:=by show F.heap[w.heap.size]? =_;rw [z.block _ (by omega)];exact L.o
  have a2:=Aa (G.o.trans (z.mono (by omega)));have j:=i.cell 0;have m:=i.cell 1;have M:=i.frozen;simp only [Ni,Ng,Nh] at j m;have l3:=Ad i;have W:=a5 d U F (.slice a l c) I;have a0:=Aa (W.d7 ((Ab.refl (fun _=>False) F).alloc (.cells #[.slice a l c,.int .i64 D] 36)) (fun _ _ q=>q));clear z L G J a1 I W;go_wp2_with fail;refine (GQ t U _ f D _ a0.o (fun k hk=>by have:=(hu k hk).2;simp;omega) hy).mono ?_;rw [Y.o];rintro e w4 ⟨rfl,A⟩;have n:=(i.alloc _).d7 A (fun q=>q);have z4:=A.size;simp at z4;have a3:Nj (Below w.heap.size w w4):=(a2.o.alloc (by omega) _).trans (A.s7 (by simp;omega) (fun _ q=>q.elim));clear j m M;have j:=n.cell 0;have m:=n.cell 1;have M:=n.frozen;have l4:=Ad n;simp only [Ni,Ng,Nh] at j m;clear A n i;go_wp2;refine bodyPost_ret (v:=.tuple #[.slice none 0 0,LR,.int .i64 C.p9,.int .i64 C.f8]) (by simp [results,Tryz.results9,go_sem,j,m]) rfl ⟨rfl,?_⟩;exact (a3.o.setCell (p:=⟨w.heap.size,0,none⟩) (Nat.le_refl _) _).setCell (p:=⟨w.heap.size,1,none⟩) (Nat.le_refl _) _
theorem IN(F Q)(hF:Bi F Q)(s y)(hs:s.size≤4000)(h:Aw s s.size 0 x0=.inr y)(n j x)(hP:Bx (An s y) (An s y).length ⟨0,false,0⟩=(n,j,x))(hx:x.l7=false)(w)(hG:Below F Q w)(hB:F≤w.heap.size)(L:(Ah (An s y) ((An s y).length-1)).kind=0)
 (A)(a9:∀d U w v,Cy d U w v n→Cy A U w v n)(hy:JT A n)(C)(Z:Ek n A j=C)(hc:C.p9=0):
 Calls Tryz.prog 9 #[.string s] w fun e M=>∃(g W:Nat) (a:Option Addr) (l c:Nat) (U:Nat→Prop),e=.returned (.tuple #[.slice (some ⟨g,0,none⟩) (An s y).length W,.agg #[.slice a l c,.int .i64 j],.int .i64 0,.int .i64 0])∧AI g (An s y).length W (An s y) M∧w.heap.size≤g∧Cy A U M (.slice a l c) n∧(∀k,U k→w.heap.size≤k∧k<M.heap.size)∧Below w.heap.size w M:=by
 have b5:((C.p9:Int) !=0)=false:=by simp [hc]
 have HC:=Aa Z;clear hc Z;have H:=Aa h;have HZ:=Aa L;have HG:=Aa hG;have HF:=Aa hF;have HP:=Aa hP;have hl:0<(An s y).length:=by simp [An]
 have HD:=Aa (Dk h);clear h L hG hF hP;generalize hT:An s y=f at*;have HT:=Aa hT;clear hT;go_enter Tryz.func9,Tryz.ntmps9;go_wp2_with fail;refine (DK s hs _).mono ?_;rw [H.o];rintro e D ⟨v,rfl,p,a1,J⟩;rw [HT.o] at p a1;have L:=J.size;simp at L;have a0:Below w.heap.size w D:=((Below.refl _ _).alloc (Nat.le_refl _) _).trans (J.mono (by simp));have Y:Aq w.heap.size #[.slice none 0 0,.int .i64 0] 36 D:=by show D.heap[w.heap.size]? =_;rw [J.block _ (by simp)];exact heap_alloc_new w _
 obtain ⟨va,vl,t,rfl⟩:=Af p;obtain ⟨g,rfl⟩:=Ay p hl;have b2:=Ap p;subst b2;have a8:=(p.lt g rfl).1;simp at a8;have P:AI g f.length t f D:=⟨Ar p (by omega),rfl,a1,HD.o⟩;have T:=Aa P;have R:=Aa Y;have N:=Aa a0;clear J Y a0 p;go_wp2_with fail;refine (Fa F Q HF.o g f.length t f D (HG.o.trans (N.o.mono hB)) (by omega) P hl HZ.o).mono ?_;rw [HP.o];rintro e m (⟨q,_⟩ | ⟨_,d,U,a,l,c,rfl,O,K,b⟩)
 ·exact absurd (hx.symm.trans q) (by decide)
 ·simp only at O⊢;have b8:=b.size;have r:Aq w.heap.size #[.slice none 0 0,.int .i64 0] 36 m:=by show m.heap[w.heap.size]? =_;rw [b.block _ (by omega)];exact R.o
  have a6:=Aa (N.o.trans (b.mono (by omega)));have u:=r.cell 0;have z:=r.cell 1;have V:=r.frozen;simp only [Ni,Ng,Nh] at u z;have l3:=Ad r;have a2:=a9 d U m (.slice a l c) O;have S:=Aa (a2.d7 ((Ab.refl (fun _=>False) m).alloc (.cells #[.slice a l c,.int .i64 j] 36)) (fun _ _ q=>q));have a4:Nj (AI g f.length t f m):=T.o.d7 (X:=fun _=>False) ⟨b.os,b.tape,b.output,b.size,fun k i _=>b.block k i⟩ (fun q=>q);have X3:=Aa (Aq.new m #[.slice a l c,.int .i64 j] 36);clear b R N P T O a2;go_wp2_with fail;refine (GQ A U _ n j _ S.o (fun k i=>by have:=(K k i).2;simp;omega) hy).mono ?_;rw [HC.o];rintro e E ⟨rfl,o⟩;have B:=(r.alloc _).d7 o (fun q=>q);have G:=X3.o.d7 o (fun q=>q);have z4:=o.size;simp at z4;have a7:Nj (Below w.heap.size w E):=(a6.o.alloc (by omega) _).trans (o.s7 (by simp;omega) (fun _ q=>q.elim));have a3:=Aa (S.o.d7 o (fun _ _ q=>q));have a5:Nj (AI g f.length t f E):=(a4.o.d7 ((Ab.refl (fun _=>False) m).alloc _) (fun q=>q)).d7 o (fun q=>q);clear u z V;have u:=B.cell 0;have z:=B.cell 1;have V:=B.frozen;have b3:=G.cell 0;have b4:=G.cell 1;have l4:=Ad B;have l5:=Ad G;simp only [Ni,Ng,Nh] at u z b3 b4;have b6:m.heap.size≠w.heap.size:=by omega
  clear o B r G;go_wp2;go_region;go_wp2;refine bodyPost_ret (v:=.tuple #[.slice (some ⟨g,0,none⟩) f.length t,.agg #[.slice a l c,.int .i64 j],.int .i64 0,.int .i64 0]) (by simp [results,Tryz.results9,go_sem,u,z]) rfl ?_;have I:Ab (fun k=>k=w.heap.size) E (((E.setCell ⟨w.heap.size,0,none⟩ (.slice a l c)).setCell ⟨w.heap.size,1,none⟩ (.int .i64 j)).drew):=(((Ab.refl _ E).i7 0 _).i7 1 _).drew;have b7:=I.size;refine ⟨g,t,a,l,c,U,rfl,a5.o.d7 I (by omega),by omega,a3.o.d7 I (fun k i q=>by have:=(K k i).1;omega),fun k i=>⟨by have:=(K k i).1;omega,by have:=(K k i).2;omega⟩,?_⟩;exact a7.o.trans (I.s7 (by omega) (fun k q=>by omega))
def bt(s:ByteArray)(i:Nat):Nat:=(s.data[i]?.getD 0).toNat
theorem Ie(s i):bt s i<256:=by unfold bt;exact UInt8.toNat_lt _
theorem CN(s i)(h:i<s.size):bt s i=(s[i]'h).toNat:=by unfold bt;have a:i<s.data.size:=h;rw [Array.getElem?_eq_getElem a];rfl
def A5(s:ByteArray)(i:Nat)(a:Nat):Nat→Option Nat
 | 0=>some a
 | m+1=>match A5 s i a m with
   | none=>none
   | some c=>if bt s (i+1+m)<128∨191<bt s (i+1+m) then none else some (c*64+bt s (i+1+m)-128)
theorem FY{s:ByteArray}{i a m:Nat}(h:A5 s i a m=none):∀k,A5 s i a (m+k)=none
 | 0=>h
 | k+1=>by show A5 s i a ((m+k)+1)=none;simp only [A5,FY h k]
theorem Dm{s i a m n}(h:A5 s i a m=none)(b:m≤n):A5 s i a n=none:=by have:=FY h (n-m);rwa [show m+(n-m)=n from by omega] at this
theorem E4{s i a m c}(h:A5 s i a m=some c)(b:bt s (i+1+m)<128∨191<bt s (i+1+m)):A5 s i a (m+1)=none:=by simp only [A5,h,if_pos b]
theorem CC{s i a m c}(h:A5 s i a m=some c)(b:128≤bt s (i+1+m))(d:bt s (i+1+m)≤191):A5 s i a (m+1)=some (c*64+bt s (i+1+m)-128):=by simp only [A5,h];rw [if_neg (by omega)]
theorem DG{s i b m c}(h:A5 s i b (m+1)=some c):∃a,A5 s i b m=some a∧128≤bt s (i+1+m)∧bt s (i+1+m)≤191∧c=a*64+bt s (i+1+m)-128:=by
 simp only [A5] at h;split at h
 ·cases h
 ·rename_i a d;split at h
  ·cases h
  ·rename_i e;simp only [Option.some.injEq] at h;exact ⟨a,d,by omega,by omega,h.symm⟩
theorem GR{s:ByteArray}{i a:Nat}:∀{m c:Nat},A5 s i a m=some c→c+1≤(a+1)*64 ^ m
 | 0,c,h=>by simp only [A5,Option.some.injEq] at h;simp [h]
 | m+1,c,h=>by obtain ⟨b,d,f,g,j⟩:=DG h;have e:=GR d;have:(b+1)*64≤(a+1)*64 ^ m*64:=Nat.mul_le_mul_right 64 e;rw [Nat.pow_succ,←Nat.mul_assoc];omega
def FO:Nat:=8388607
theorem FV{s i a m c}(f:a≤31)(e:m≤3)(h:A5 s i a m=some c):c≤FO:=by have g:=GR h;have b:64 ^ m≤64 ^ 3:=Nat.pow_le_pow_right (by omega) e;have d:(a+1)*64 ^ m≤32*64 ^ 3:=Nat.mul_le_mul (by omega) b;unfold FO;simp only [Nat.reducePow,Nat.reduceMul] at d;omega
def CB(s:ByteArray)(i n b a:Nat):Nat×Nat:=
 if s.size<i+n then (0,0) else
 match A5 s i a (n-1) with
 | none=>(0,0)
 | some c=>if c<b∨1114111<c∨(55296≤c∧c<57344) then (0,0) else (c,n)
theorem El{s i n b a}(h:s.size<i+n):CB s i n b a=(0,0):=by simp only [CB,if_pos h]
theorem EZ{s i n b a}(h:A5 s i a (n-1)=none):CB s i n b a=(0,0):=by simp only [CB,h];split<;>rfl
theorem FN{s i n b a c}(h:A5 s i a (n-1)=some c)(d:c<b∨1114111<c∨(55296≤c∧c<57344)):CB s i n b a=(0,0):=by simp only [CB,h,if_pos d];split<;>rfl
theorem Fy{s i n b a c}(e:i+n≤s.size)(h:A5 s i a (n-1)=some c)(d:¬(c<b∨1114111<c∨(55296≤c∧c<57344))):CB s i n b a=(c,n):=by simp only [CB,h];rw [if_neg (by omega),if_neg d]
def AM(s:ByteArray)(i:Nat):Nat×Nat:=
 if bt s i<128 then (bt s i,1)
 else if 194≤bt s i∧bt s i<224 then CB s i 2 128 (bt s i-192)
 else if 224≤bt s i∧bt s i<240 then CB s i 3 2048 (bt s i-224)
 else if 240≤bt s i∧bt s i<245 then CB s i 4 65536 (bt s i-240)
 else (0,0)
theorem D3(s i n a b):CB s i n a b=(0,0)∨∃c,CB s i n a b=(c,n)∧i+n≤s.size∧a≤c∧c≤1114111:=by
 unfold CB;split
 ·exact .inl rfl
 ·split
  ·exact .inl rfl
  ·split
   ·exact .inl rfl
   ·exact .inr ⟨_,rfl,by omega,by omega,by omega⟩
theorem CY(s i)(a:i<s.size):i+(AM s i).2≤s.size∧(AM s i).2≤4∧(AM s i).1≤1114111:=by
 unfold AM;split
 ·have:=Ie s i;simp only;omega
 ·split
  ·rcases D3 s i 2 128 (bt s i-192) with h | ⟨c,h,_⟩<;>rw [h]<;>simp only<;>omega
  ·split
   ·rcases D3 s i 3 2048 (bt s i-224) with h | ⟨c,h,_⟩<;>rw [h]<;>simp only<;>omega
   ·split
    ·rcases D3 s i 4 65536 (bt s i-240) with h | ⟨c,h,_⟩<;>rw [h]<;>simp only<;>omega
    ·simp only;omega
end Go.Proofs.YtmaankfbhhbeoaaGreatDoor
