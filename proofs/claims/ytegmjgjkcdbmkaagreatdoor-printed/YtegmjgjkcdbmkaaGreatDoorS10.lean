/- One of the texts of the proof: ChE ChG CkJ CkK CkL FdA RdS RtA TrN. -/
import Derived.Test.YtegmjgjkcdbmkaaGreatDoorS09
import Derived.Maps.Views
import Derived.Test.YtegmjgjkcdbmkaaGreatDoorShelf
set_option maxRecDepth 100000
set_option maxHeartbeats 4000000
namespace Go.Proofs.YtegmjgjkcdbmkaaGreatDoor
open Go.RowKit Go.Maps
def wv(a:List RF)(c:Nat)(d:List ByteArray):List RF:=a.modify c (fun f=>{f with l8:=d})
theorem Mp(a c d):(wv a c d).length=a.length:=by simp [wv]
def Qq(a:List RF)(d:List ByteArray)(s:VS)(c:CS):CS:=
 if s.kind=1 then c else
 (s.args.map Ai).foldl (fun c t=>FH d t c) (if s.kind=4 then JT a (Ai s.sr) (-1) c else if s.kind=7 then JT a (Ai s.sr) s.args.length c else FH d (Ai s.sr) c)
def C3(a:List RF)(s:VS)(x:List ByteArray×CS):List ByteArray×CS:=
 if s.kind=0 then (x.1++[s.tg.a9],EU x.1 (Ai s.tg) x.2)
 else if s.kind=10 then (x.1,FH x.1 (Ai s.sr) x.2)
 else (x.1,Qq a x.1 s (FH x.1 (Ai s.tg) x.2))
def Hc(a:List RF):Nat→Nat→TS→List ByteArray×CS→List ByteArray×CS
 | 0,_,_,x=>x
 | d+1,c,.mk s f,x=>
   if s.kind=11∨s.kind=12 then f.foldl (fun x q=>q.2.foldl (fun x t=>Hc a d (c+1) t x) (x.1,if 6<c+1 then C7 4 q.1 x.2 else x.2)) x
   else C3 a s x
def Oz(a:List RF)(d c:Nat)(f:List TS)(x:List ByteArray×CS):List ByteArray×CS:=f.foldl (fun x t=>Hc a d c t x) x
section
variable {u E B v j : Nat} {U : Nat → Prop} {n A : Value} {a k : List RF} {m : List FS} {y : Nat} {z : Array Value} {o : Value} {l : List Nat} {e : Value} {b : List Tk} {h : Value} {g : List Nat} {r : Value} {p : List Nat} {c i : CS} {w C D : World}
end
theorem Ab.new{X:Nat→Prop}{a w b:World}(h:Ab (fun _=>False) a w)(k:Ab X w b)(c:∀k,X k→a.heap.size≤k):Ab (fun _=>False) a b:=((h.mono (fun _ _ q=>q.elim)).trans k).mono (fun i d q=>by have:=c i q;omega)
def Dt(l:List PT)(x:List ByteArray×CS):List ByteArray×CS:=l.foldl (fun x t=>(x.1++[t.a9],EU x.1 (Ai t) x.2)) x
def EK(a:List RF)(i:Nat)(t:TF)(c:CS):CS:=
 if CE (a.map fun f=>f.name.a9) t.name.a9 0=i then (if 12≤i then C7 4 t.name.c9 c else c) else C7 5 t.name.c9 (if 12≤i then C7 4 t.name.c9 c else c)
def DZ(a:List RF)(d i:Nat)(t:TF)(c:CS):List ByteArray×CS:=Oz a d 1 t.v8 (Dt t.i8 ([],EK a i t c))
def Ds(a:List RF)(d:Nat):List TF→Nat→List RF×CS→List RF×CS
 | [],_,x=>x
 | t::l,i,x=>Ds a d l (i+1) (wv x.1 i (DZ a d i t x.2).1,(DZ a d i t x.2).2)
def Nz(a:List RF)(N:Nat)(c:CS):CS:=
 if 0≤CE (a.map fun f=>f.name.a9) ⟨#[109,97,105,110]⟩ 0∧((a.map fun f=>f.aZ.length)[(CE (a.map fun f=>f.name.a9) ⟨#[109,97,105,110]⟩ 0).toNat]?).getD 0=0 then c else C7 6 N c
theorem SR{m n N F w s}(h:A7 m n F w)(g:Kf F N)(k:s.size≤4000):
 (Instr.lookup 123 (.map (some m)) (.string s) false).run Tryz.prog w=.ok (.int .i64 (BI F s:Nat)) w:=by
 obtain ⟨c,l,a,_⟩:=World.ownsMap.lookup_int h KL Tryz.underlying123 Tryz.underlying3 (M8 w) (Ik k);have i:c=((BI F s:Nat):Int):=by
  cases d:Maps.has F (Ba s) with
  | true=>
    obtain ⟨j,_,f⟩:=g s d;rw [f] at a;have e:(j:Int)=c:=by simpa using a
    rw [←e];simp [BI,f]
  | false=>
    have b:=atKey_of_not_has d (.lit (.int .i64 0));rw [b] at a;have e:(0:Int)=c:=by simpa using a
    rw [←e];simp [BI,b]
 rw [←i];exact l
def PN(F:DataW Unit)(f:List TF)(d b:Nat)(t:TF)(c:CS):CS:=
 let a:=if 12≤b then BA 4 t.name.c9 c else c
 let e:=if BI F t.name.a9=b then a else BA 5 t.name.c9 a
 (Nb F f d 1 (t.c9,t.v8) (RA t.i8 (.map [],e))).2
structure Ul(b d:Nat)(U:Nat→Prop)(fs:Value)(fns:List TF)(stop:Int)(mf nf:Nat)(F:DataW Unit)(mv:Value)(fa:Array Value)(w:World)(c:CS)(W:World):Prop where
 bB:Ci b fs stop (.map (some mf)) mv c W
 bK:A7 mf nf F W
 rows:Di d U W fs fns
 s9:Ak w.heap.size fa 134 W
 O:Ab (fun k=>k=b) w W
theorem Ul.step{b d:Nat}{U:Nat→Prop}{f:Value}{n:List TF}{j:Int}{g o:Nat}{F:DataW Unit}{i:Value}{m:Array Value}{w W e:World}{c l:CS}(h:Ul b d U f n j g o F i m w c W)(s:¬U b)(t:b<w.heap.size)(p:Ci b f j (.map (some g)) i l e)(a:Ab (fun k=>k=b) W e):Ul b d U f n j g o F i m w l e:=
 ⟨p,h.bK.O a (h.bK.ne h.bB),h.rows.O a (fun _ r q=>s (q▸r)),Ak.O h.s9 a (by omega),h.O.trans a⟩
theorem Ul.quiet{b d}{U:Nat→Prop}{i g m j l F k f w W e c}(h:Ul b d U i g m j l F k f w c W)(a:Ab (fun _=>False) W e):Ul b d U i g m j l F k f w c e:=
 ⟨Ak.O h.bB a (fun q=>q),h.bK.O a (fun q=>q),h.rows.O a (fun _ _ q=>q),Ak.O h.s9 a (fun q=>q),h.O.trans (a.mono (fun _ _ q=>q.elim))⟩
theorem Ul.made{b d:Nat}{U:Nat→Prop}{g:Value}{a:List TF}{l:Int}{i j:Nat}{F:DataW Unit}{s:Value}{f:Array Value}{w W:World}{c:CS}(h:Ul b d U g a l i j F s f w c W)(m:¬U b)(v:b<w.heap.size)(p:∀k,U k→k<w.heap.size)(o:Kf F a.length)(n:a.length≤4001):
 Ck b d U g a l i j W.heap.size 0 F (.map []) c ((W.alloc (.map #[] 0)).setCell ⟨b,3,none⟩ (.map (some W.heap.size)))∧Ak w.heap.size f 134 ((W.alloc (.map #[] 0)).setCell ⟨b,3,none⟩ (.map (some W.heap.size)))∧Ab (fun k=>k=b) w ((W.alloc (.map #[] 0)).setCell ⟨b,3,none⟩ (.map (some W.heap.size))):=by
 have e:Ab (fun k=>k=b) W ((W.alloc (.map #[] 0)).setCell ⟨b,3,none⟩ (.map (some W.heap.size))):=((Ab.refl _ W).alloc _).d8 3 _;have u:=h.O.size;have t:=World.ownsMap.lt h.bK;refine ⟨⟨?_,?_,h.bK.O e (h.bK.ne h.bB),h.rows.O e (fun _ r q=>m (q▸r)),o,n,by omega,m,fun q=>by have:=p _ q;omega⟩,Ak.O h.s9 e (by omega),h.O.trans e⟩
 ·have:=Ak.set (Ak.alloc h.bB (.map #[] 0)) 3 (.map (some W.heap.size));simpa [Ci] using this
 ·have:=World.ownsMap_made (H:=Unit) W Tryz.prog 9 (plainElem Tryz.prog 3);exact A7.O this ((Ab.refl (fun k=>k=b) _).d8 3 _) (by omega)
theorem UH(b d f:Nat)(U:Nat→Prop)(fs:Value)(a:List TF)(o:Int)(m E:Nat)(F:DataW Unit)(c:CS)(D:Value)(w:World)(I:Ci b fs o (.map (some m)) D c w)(hm:A7 m E F w)(Z:Di d U w fs a)(a7:Kf F a.length)(b6:a.length≤4001)(ub:¬U b)(hU:∀k,U k→k<w.heap.size)(c4:f<a.length)
 (hO:∀t,t∈a[f].v8→Na d t)(c5:a[f].name.a9.size≤4000)(c6:∀t,t∈a[f].i8→t.a9.size≤4000∧t.c9≤4000)(c0:a[f].i8.length+(a[f].v8.map (DC d)).sum≤4000)(hd:1+d≤4001)(hl:a[f].v8.length≤4000):
 Calls Tryz.prog 73 #[.pointer (some ⟨b,0,none⟩),.int .i64 f] w fun e w'=>e=.returned (.tuple #[])∧(∃m',Ci b fs o (.map (some m)) (.map (some m')) (PN F a d f a[f] c) w')∧Ab (fun k=>k=b) w w':=by
 have c3:=Z;obtain ⟨d1,O,_⟩:=c3;obtain ⟨va,vl,vc,rfl⟩:=Ad O;obtain ⟨g,rfl⟩:=AA O (by omega);have c9:=Aq O;subst c9;have lg:=(O.lt g rfl).2;obtain ⟨av,sv,C,v,a8,a4⟩:=Z.get c4;obtain ⟨z,l1,A,rfl⟩:=Ad v;have b8:=Aq v;subst b8;have c8:=a4;obtain ⟨d2,p2,_⟩:=c8;obtain ⟨r,y,s,rfl⟩:=Ad p2;have f0:=C 0 (by omega);have f1:=C 1 (by omega);have f2:=C 2 (by omega);have f3:=C 3 (by omega);have f4:=C 4 (by omega);simp only [Lv,dM,dJ,dK,Nat.add_zero] at f0 f1 f2 f3 f4;clear O p2 C;have r0:=Ar I 0;have r2:=Ar I 2;simp only [dM,dJ,dK] at r0 r2;have lb:=Ae I;have d4:=@run_makeMap Tryz.prog;generalize a[f]=t at*;have P:=(Ab.refl (fun _=>False) w).alloc (.cells #[.string t.name.a9,.int .i64 t.name.c9,.slice z t.i8.length A,.int .i64 t.c9,.slice r y s] 134);have Q:=Aa (show Ul b d U _ a o m E F D #[.string t.name.a9,.int .i64 t.name.c9,.slice z t.i8.length A,.int .i64 t.c9,.slice r y s] w c (w.alloc (.cells #[.string t.name.a9,.int .i64 t.name.c9,.slice z t.i8.length A,.int .i64 t.c9,.slice r y s] 134)) from ⟨Ak.O I P (fun q=>q),hm.O P (fun q=>q),Z.O P (fun _ _ q=>q),Ak.new w _ _,P.mono (fun _ _ q=>q.elim)⟩);have HA:=Aa v;have HT:=Aa a4;have HO:=Aa hO;have b4:=Aa a8;clear I hm Z v a4 hO a8 P;go_enter Tryz.func73,Tryz.ntmps73;go_upto_if 16 with fail;go_cut [] (fun wx=>∃l,dN ((if 12≤f then BA 4 t.name.c9 c else c)=l)∧dN (Ul b d U (.slice (some ⟨g,0,none⟩) a.length vc) a o m E F D #[.string t.name.a9,.int .i64 t.name.c9,.slice z t.i8.length A,.int .i64 t.c9,.slice r y s] w l wx))
 case first=>
  by_cases S:12≤f
  ·have b7:(12:Int)≤(f:Int):=by omega
   have a0:=Aa S;clear S;go_wp2_with (go_at_call 75;refine (BK b 4 t.name.c9 _ o (.map (some m)) D c _ Q.o.bB).mono ?_);rintro e W ⟨rfl,K,N⟩;have n:=Aa (Q.o.step ub lb K N);clear K N;go_wp2_with fail;go_meet
   case rel=>exact ⟨_,if_pos a0.o,n⟩
  ·have b7:¬(12:Int)≤(f:Int):=by omega
   have a0:=Aa S;clear S;go_wp2_with fail;go_meet
   case rel=>exact ⟨_,if_neg a0.o,Q⟩
 case rest=>
 obtain ⟨l,E1,n⟩:=hcut;clear Q r0 r2 f0 f1 f2 f3 f4;have i0:=Ar n.o.s9 0;have i1:=Ar n.o.s9 1;simp only [dM,dJ,dK] at i0 i1;have b2:=Ar n.o.bB 2;simp only [dM,dJ,dK] at b2;have lw:=n.o.O.size;have d0:=Ae n.o.s9;have a3:=SR (w:=wc.drew) (n.o.bK.O ((Ab.refl (fun _=>False) wc).drew) (fun q=>q)) a7 c5;go_wp2;go_region;go_upto_if 31 with fail;go_cut [] (fun wx=>∃B,dN ((if BI F t.name.a9=f then l else BA 5 t.name.c9 l)=B)∧dN (Ul b d U (.slice (some ⟨g,0,none⟩) a.length vc) a o m E F D #[.string t.name.a9,.int .i64 t.name.c9,.slice z t.i8.length A,.int .i64 t.c9,.slice r y s] w B wx))
 case first=>
  have h:=Aa (n.o.quiet ((Ab.refl (fun _=>False) wc).drew));by_cases J:BI F t.name.a9=f
  ·have a6:(((BI F t.name.a9:Nat):Int) !=(f:Int))=false:=by simp [J]
   have HX:=Aa J;clear J a3;rw [a6];go_wp2_with fail;go_meet
   case rel=>exact ⟨_,if_pos HX.o,h⟩
  ·have a6:(((BI F t.name.a9:Nat):Int) !=(f:Int))=true:=by simp;omega
   have HX:=Aa J;clear J a3;rw [a6];go_wp2_with (go_at_call 75;refine (BK b 5 t.name.c9 _ o (.map (some m)) D l _ h.o.bB).mono ?_);rintro e W ⟨rfl,K,N⟩;have FX:=Aa (h.o.step ub lb K N);clear K N;go_wp2_with fail;go_meet
   case rel=>exact ⟨_,if_neg HX.o,FX⟩
 case rest=>
 obtain ⟨B,E2,h⟩:=hcut;obtain ⟨R,hR⟩:∃R,RA t.i8 (.map [],B)=R:=⟨_,rfl⟩;have HR:dN ((t.i8.drop 0).foldl (fun x t=>(GJ x.1 t,El x.1 t x.2)) (.map [],B)=R):=hR;have a9:PN F a d f t c=(Nb F a d 1 (t.c9,t.v8) R).2:=by unfold PN;dsimp only;rw [E1.o,E2.o,hR]
 have b5:=Aa a9;clear a9 hR a3 n i0 i1 b2 lw d0;generalize hV:wc=V at*;have b3:=Ar h.o.bB 3;have bf:=fun i=>AE h.o.bB i
 have lv:=h.o.O.size;have d6:=Ae h.o.s9;have j0:=Ar h.o.s9 0;have j1:=Ar h.o.s9 1;have j2:=Ar h.o.s9 2;have j3:=Ar h.o.s9 3;have j4:=Ar h.o.s9 4;simp only [dM,dJ,dK] at j0 j1 j2 j3 j4;simp only [dM,dJ,dK] at b3;have Y:=h.o.made ub lb hU a7 b6;have KX:=Aa Y.1;have BX:=Aa Y.2.1;have OX:=Aa Y.2.2;clear Y;have xq:∀i,(V.alloc (.map #[] 0)).cell? ⟨b,i,none⟩=V.cell? ⟨b,i,none⟩:=fun i=>rM (w:=V) (((Ab.refl (fun _=>False) V).alloc (.map #[] 0)).block b (by omega) (fun q=>q))
 have x3:=xq 3;rw [b3] at x3;have xf:=fun i=>AE (Ak.alloc h.o.bB (.map #[] 0)) i
 have z2:=Ar BX.o 2;simp only [dM,dJ,dK] at z2;clear xq;go_wp2;generalize (V.alloc (.map #[] 0)).setCell ⟨b,3,none⟩ (.map (some V.heap.size))=X at*;go_loopw [44] (fun i wr=>∃(k:Nat) (p:DataW Unit) (l:CS),k≤t.i8.length∧i=.int .i64 k∧dN (Ck b d U (.slice (some ⟨g,0,none⟩) a.length vc) a o m E V.heap.size k F p l wr)∧dN (Ab (fun k=>k=b∨k=V.heap.size) w wr)∧dN (Ak w.heap.size #[.string t.name.a9,.int .i64 t.name.c9,.slice z t.i8.length A,.int .i64 t.c9,.slice r y s] 134 wr)∧dN ((t.i8.drop k).foldl (fun x t=>(GJ x.1 t,El x.1 t x.2)) (p,l)=R)) (fun i _=>t.i8.length-(intOf i).toNat)
 case atStart=>exact ⟨0,.map [],B,by omega,rfl,KX,Aa (OX.o.mono (fun _ _ q=>.inl q)),BX,HR⟩
 case round=>
  obtain ⟨k,p,l,d3,rfl,k1,L,x1,b1⟩:=hrel;clear KX OX BX HR;have v:∀j,U j→¬(j=b∨j=V.heap.size):=fun j T q=>q.elim (fun e=>ub (e▸T)) (fun e=>by have:=hU j T;omega)
  have l0:=L.o.size;by_cases hk:k<t.i8.length
  ·have H:=Ac HA.o L.o (fun j T=>v j (b4.o j T));obtain ⟨ga,rfl⟩:=AA H (by omega);have d5:=(H.lt ga rfl).2;have ha:=EC hk;have n0:=H.cellAt (k*2) (by omega);have n1:=H.cellAt (k*2+1) (by omega);rw [ha.1] at n0;rw [ha.2] at n1;have c7:=Aa (Em (fun x t=>(GJ x.1 t,El x.1 t x.2)) t.i8 k hk (p,l));have b0:=c6 t.i8[k] (rQ _);clear ha H;generalize t.i8[k]=u at*;have G:=Aa ((Ab.refl (fun _=>False) wr).alloc (.cells #[.string u.a9,.int .i64 u.c9] 128));go_wp2_with (go_at_call 115;refine (Js b _ o (.map (some m)) V.heap.size k p l u _ (k1.o.quiet G.o).bB (k1.o.quiet G.o).l8 b0.1 b0.2 (by omega)).mono ?_;rintro e w2 ⟨rfl,b9,a5,M⟩);go_round
   case rel=>exact ⟨k+1,_,_,by omega,by go_num,Aa ((k1.o.quiet G.o).cF b9 a5 M),Aa (L.o.trans ((G.o.mono (fun _ _ q=>q.elim)).trans M)),Aa (Ak.O (Ak.O x1.o G.o (fun q=>q)) M (by omega)),Aa (c7.o.symm.trans b1.o)⟩
   case measure=>simp [intOf];omega
  ·have e:k=t.i8.length:=by omega
   subst e;have a5:(p,l)=R:=by have:=b1.o;simpa using this
   subst a5;have y3:=Ar x1.o 3;have y4:=Ar x1.o 4;simp only [dM,dJ,dK] at y3 y4;go_wp2_with (go_at_call 116;refine (GT d (LQ d) b d 1 t.c9 U _ a o m E V.heap.size t.i8.length F p l t.v8 (.slice r y s) _ k1.o (Cn.O HT.o L.o v) HO.o c0 hd hl).mono ?_);rintro e w2 ⟨rfl,⟨n2,_,k2⟩,M⟩;go_wp2;go_end0;exact ⟨rfl,⟨V.heap.size,by rw [b5.o];exact k2.bB⟩,(L.o.trans M).mono (fun _ _ q=>q.elim (fun e=>e) (fun e=>by omega))⟩
theorem E8(s):WideAt.IsKeyLit (Ba s):=by unfold Ba WideAt.IsKeyLit;trivial
theorem Ij{a b}(h:Ba a=Ba b):a=b:=by unfold Ba at h;simp only [Lit.string.injEq] at h;exact ByteArray.ext (Array.toList_inj.1 h)
theorem IZ(N:Nat):∀(l:List TF) (k:Nat) (D:DataW Unit),IsMap D→k+l.length≤N→(∀s,has D (Ba s)=true→∃j:Nat,j<N∧D.atKey (Ba s) (.lit (.int .i64 0))=.lit (.int .i64 j))→∀s,has (AW l k D) (Ba s)=true→∃j:Nat,j<N∧(AW l k D).atKey (Ba s) (.lit (.int .i64 0))=.lit (.int .i64 j)
 | [],_,_,_,_,h=>h
 | t::l,k,D,b,e,h=>by
   rw [AW];simp only [rW] at e;by_cases c:has D (Ba t.name.a9)=true
   ·rw [if_pos c];exact IZ N l (k+1) D b (by omega) h
   ·rw [if_neg c];refine IZ N l (k+1) _ (b.put _ _) (by omega) (fun s d=>?_);by_cases a:Ba s=Ba t.name.a9
    ·exact ⟨k,by omega,by rw [a];exact atKey_put_same b (E8 _) _ _⟩
    ·rw [has_put_other a] at d;rw [atKey_put_other a];exact h s d
theorem UX(a):Kf (AW a 0 (.map [])) a.length:=fun s b=>IZ a.length a 0 _ isMap_empty (by omega) (fun s b=>by simp [has_eq] at b) s b
def FM(F:DataW Unit)(a:List TF)(d:Nat):List TF→Nat→CS→CS
 | [],_,c=>c
 | t::l,i,c=>FM F a d l (i+1) (PN F a d i t c)
theorem Sd(F:DataW Unit)(a:List TF)(d:Nat)(l:List TF)(i:Nat)(h:i<l.length)(c:CS):FM F a d (l.drop i) i c=FM F a d (l.drop (i+1)) (i+1) (PN F a d i l[i] c):=by rw [List.drop_eq_getElem_cons h];rfl
def Lt(a:List TF)(d b:Nat):CS:=
 if (has (AW a 0 (.map [])) (Ba ⟨#[109,97,105,110]⟩) && Iv a (BI (AW a 0 (.map [])) ⟨#[109,97,105,110]⟩)==0)=true then FM (AW a 0 (.map [])) a d a 0 ⟨0,0⟩
 else BA 6 b (FM (AW a 0 (.map [])) a d a 0 ⟨0,0⟩)
structure WD(d:Nat)(fns:List TF):Prop where
 bA:fns.length≤4000
 dd:1+d≤4001
 each:∀t,t∈fns→t.name.a9.size≤4000∧(∀s,s∈t.v8→Na d s)∧(∀p,p∈t.i8→p.a9.size≤4000∧p.c9≤4000)∧t.i8.length+(t.v8.map (DC d)).sum≤4000∧t.v8.length≤4000
abbrev Zg:Array Value:=#[.slice none 0 0,.int .i64 0,.map none,.map none,.int .i64 0,.int .i64 0]
theorem Sn(d:Nat)(U:Nat→Prop)(fs:Value)(a:List TF)(f:Nat)(w:World)(T:Di d U w fs a)(hU:∀k,U k→k<w.heap.size)(G:WD d a):
 Calls Tryz.prog 51 #[.agg #[fs,.int .i64 f]] w fun e w'=>e=.returned (.tuple #[.int .i64 (Lt a d f).aR,.int .i64 (Lt a d f).c9])∧Ab (fun _=>False) w w':=by
 have c0:=T;obtain ⟨c4,Z,_⟩:=c0;obtain ⟨h,vl,l,rfl⟩:=Ad Z;have c3:=Aq Z;subst c3;have S:=G.bA;have R:=UX a;obtain ⟨F,hF⟩:∃F,AW a 0 (.map [])=F:=⟨_,rfl⟩;rw [hF] at R;have hV:Lt a d f=(if (has F (Ba ⟨#[109,97,105,110]⟩) && Iv a (BI F ⟨#[109,97,105,110]⟩)==0)=true then FM F a d a 0 ⟨0,0⟩ else BA 6 f (FM F a d a 0 ⟨0,0⟩)):=by unfold Lt;rw [hF]
 rw [hV];obtain ⟨C,N⟩:∃C,FM F a d a 0 ⟨0,0⟩=C:=⟨_,rfl⟩;rw [N];have a1:dN (FM F a d (a.drop 0) 0 ⟨0,0⟩=C):=N;obtain ⟨V,Q⟩:∃V,(if (has F (Ba ⟨#[109,97,105,110]⟩) && Iv a (BI F ⟨#[109,97,105,110]⟩)==0)=true then C else BA 6 f C)=V:=⟨_,rfl⟩;rw [Q];have a3:=Aa Q;clear Q;have HP:=Aa T;have HY:=Aa G;have HL:dN (∀t,t∈a→t.name.a9.size≤4000):=fun t ht=>(G.each t ht).1
 have a2:=Aa hU;have J:=Aa R;have b1:=Aa hF;have b0:dN (Ak (w.heap.size+1) Zg 162 ((w.alloc (.cells #[.slice h a.length l,.int .i64 f] 82)).alloc (.cells Zg 162))):=by have:=Ak.new (w.alloc (.cells #[.slice h a.length l,.int .i64 f] 82)) Zg 162;exact Aa (by simpa using this)
 have a0:dN (Ak w.heap.size #[.slice h a.length l,.int .i64 f] 82 (w.alloc (.cells #[.slice h a.length l,.int .i64 f] 82))):=Ak.new _ _ _;have a9:dN (Ak w.heap.size #[.slice h a.length l,.int .i64 f] 82 ((w.alloc (.cells #[.slice h a.length l,.int .i64 f] 82)).alloc (.cells Zg 162))):=a0.o.alloc _;have b4:dN (Ab (fun _=>False) w (w.alloc (.cells #[.slice h a.length l,.int .i64 f] 82)).drew):=((Ab.refl _ w).alloc _).drew;have b5:dN (Ab (fun _=>False) w ((w.alloc (.cells #[.slice h a.length l,.int .i64 f] 82)).alloc (.cells Zg 162)).drew):=(((Ab.refl _ w).alloc _).alloc _).drew;clear T Z G hV N R hU hF;go_enter Tryz.func51,Tryz.ntmps51;go_wp2_with fail;go_cut [4] (fun v H=>∃b M,v=.pointer (some ⟨b,0,none⟩)∧w.heap.size≤b∧b≠w.heap.size∧Ci b (.slice h a.length l) f (.map (some M)) (.map none) ⟨0,0⟩ H∧A7 M a.length F H∧Ak w.heap.size #[.slice h a.length l,.int .i64 f] 82 H∧Ab (fun _=>False) w H)
 case first=>
  go_region_with (go_at_call 72;refine (GZ d U _ a f _ (HP.o.O (X:=fun _=>False) (by repeat (first | exact Ab.refl _ _ | refine Ab.drew ?_ | refine Ab.drewN ?_ _ | refine Ab.alloc ?_ _)) (fun _ _ q=>q)) HL.o S).mono ?_;rw [b1.o];rintro e n ⟨M,rfl,hM,a7,g⟩;have A:Ak w.heap.size #[.slice h a.length l,.int .i64 f] 82 n:=(by first | exact Ak.O (X:=fun _=>False) (Ak.O (X:=fun _=>False) a0.o ((Ab.refl (fun _=>False) _).drew) (fun q=>q)) g (fun q=>q) | exact Ak.O (X:=fun _=>False) (Ak.O (X:=fun _=>False) a9.o ((Ab.refl (fun _=>False) _).drew) (fun q=>q)) g (fun q=>q));have I:=A.cell 0;have y1:=A.cell 1;have yl:=Ae A;simp only [dM,dJ,dK] at I y1;first | (have m:=Ak.O (X:=fun _=>False) (Ak.O (X:=fun _=>False) b0.o ((Ab.refl (fun _=>False) _).drew) (fun q=>q)) g (fun q=>q);have z0:=m.cell 0;have z1:=m.cell 1;have z2:=m.cell 2;have z3:=m.cell 3;have z4:=m.cell 4;have z5:=m.cell 5;have zf:=m.frozen;have zl:=Ae m;simp only [dM,dJ,dK] at z0 z1 z2 z3 z4 z5) | skip);all_goals
   have c1:=g.size;simp at c1;go_wp2_with fail;go_meet
   case rel=>
    first
    | (have c6:=m
       have O:=b5.o.bI g
       have P:Ab (fun k=>k=w.heap.size+1) n ((((((n.setCell ⟨w.heap.size+1,0,none⟩ (.slice h a.length l)).setCell ⟨w.heap.size+1,1,none⟩ (.int .i64 f)).setCell ⟨w.heap.size+1,2,none⟩ (.map (some M))).setCell ⟨w.heap.size+1,3,none⟩ (.map none)).setCell ⟨w.heap.size+1,4,none⟩ (.int .i64 0)).setCell ⟨w.heap.size+1,5,none⟩ (.int .i64 0)):=(((((((Ab.refl _ n).d8 0 _).d8 1 _).d8 2 _).d8 3 _).d8 4 _).d8 5 _)
       have hB:=((((((m.set 0 (.slice h a.length l)).set 1 (.int .i64 f)).set 2 (.map (some M))).set 3 (.map none)).set 4 (.int .i64 0)).set 5 (.int .i64 0))
       exact ⟨w.heap.size+1,M,rfl,by omega,by omega,hB,a7.O P (by simp at hM;omega),A.O P (by omega),((O.mono (fun _ _ q=>q.elim)).trans P).mono (fun j hj q=>by omega)⟩)
    | (have O:=b4.o.bI g
       exact ⟨n.heap.size,M,rfl,by omega,by omega,Ak.new n _ _,a7.O ((Ab.refl (fun _=>False) n).alloc _) (fun q=>q),A.alloc _,O.alloc _⟩)
 case rest=>
  obtain ⟨b,M,rfl,c5,b9,a4,hm,m,ho⟩:=hcut;have I:=m.cell 0;have yl:=Ae m;simp only [dM,dJ] at I;have UB:dN (¬U b):=fun q=>by have:=a2.o b q;omega
  have K0:=Aa a4;have M0:=Aa hm;have X0:=Aa m;have O0:=Aa ho;clear a4 hm m ho;go_wp2;go_loopw [13] (fun i wr=>∃(k:Nat) (c:CS) (s:Value),k≤a.length∧i=.int .i64 k∧dN (Ci b (.slice h a.length l) f (.map (some M)) s c wr)∧dN (A7 M a.length F wr)∧dN (Ak w.heap.size #[.slice h a.length l,.int .i64 f] 82 wr)∧dN (Ab (fun _=>False) w wr)∧dN (FM F a d (a.drop k) k c=C)) (fun i _=>a.length-(intOf i).toNat)
  case atStart=>exact ⟨0,_,_,by omega,rfl,K0,M0,X0,O0,a1⟩
  case round=>
   clear K0 M0 X0 O0 a1 I yl;obtain ⟨k,c,s,c7,rfl,o,p,z,r,B⟩:=hrel;have L:dN (Di d U wr (.slice h a.length l) a):=HP.o.O r.o (fun _ _ q=>q);have b7:dN (∀k,U k→k<wr.heap.size):=fun k S=>rP (a2.o k S) r.o.size
   by_cases a6:k<a.length
   ·have W:=Sd F a d a k a6 c;rw [B.o] at W;have b6:=Aa W;have he:=HY.o.each a[k] (rQ _);have u:=Aa he;clear W B he;go_wp2_with fail;refine (UH b d k U _ a f M a.length F c s wr o.o p.o L.o J.o (by omega) UB.o b7.o a6 u.o.2.1 u.o.1 u.o.2.2.1 u.o.2.2.2.1 HY.o.dd u.o.2.2.2.2).mono ?_;rintro e n ⟨rfl,⟨m',a5⟩,g⟩;have K:=Aa a5;have b2:=Aa (p.o.O g (p.o.ne o.o));have b8:=Aa (z.o.O g (fun q=>b9 q.symm));have y:dN (Ab (fun _=>False) w n):=((r.o.mono (fun _ _ q=>q.elim)).trans g).mono (fun j hj q=>by omega);clear a5 g o p z r;go_wp2_with fail;exact ⟨⟨k+1,_,_,by omega,by go_num,K,b2,b8,y,b6.o.symm⟩,by simp [intOf];omega⟩
   ·have e:k=a.length:=by omega
    have c2:C=c:=by have:=B.o;rw [e,List.drop_length] at this;exact this.symm
    subst c2;have c8:decide ((k:Int)<(a.length:Int))=false:=by simp;omega
    clear B;cases D:(has F (Ba ⟨#[109,97,105,110]⟩) && Iv a (BI F ⟨#[109,97,105,110]⟩)==0) with
    | true=>
      have x:=Aa D;clear D;go_wp2_with fail;refine (Jw b d U _ a f s M a.length F C wr o.o p.o L.o J.o (by omega)).mono ?_;rw [x.o];rintro e n ⟨rfl,g⟩;have r4:=(Ak.O o.o g (fun q=>q)).cell 4;have r5:=(Ak.O o.o g (fun q=>q)).cell 5;have lb:=Ae (Ak.O o.o g (fun q=>q));simp only [dM,dJ,dK] at r4 r5;have y:=Aa (r.o.bI g);clear g;go_wp2_with fail;go_region;go_wp2;go_ret2;have Y:V=C:=by rw [←a3.o,if_pos x.o]
      rw [Y];exact ⟨rfl,y.o.drew⟩
    | false=>
      have x:=Aa D;clear D;go_wp2_with fail;refine (Jw b d U _ a f s M a.length F C wr o.o p.o L.o J.o (by omega)).mono ?_;rw [x.o];rintro e n ⟨rfl,g⟩;have K:=Aa (Ak.O o.o g (fun q=>q));have x1:=(Ak.O z.o g (fun q=>q)).cell 1;have xl:=Ae (Ak.O z.o g (fun q=>q));simp only [dM,dJ,dK] at x1;have y:=Aa (r.o.bI g);clear g o p z r;go_wp2_with fail;refine (BK b 6 f _ f (.map (some M)) s C n K.o).mono ?_;rintro e w3 ⟨rfl,E,a8⟩;have r4:=Ak.cell E 4;have r5:=Ak.cell E 5;have lb:=Ae E;simp only [dM,dJ,dK] at r4 r5;have b3:dN (Ab (fun _=>False) w w3):=((y.o.mono (fun _ _ q=>q.elim)).trans a8).mono (fun j hj q=>by omega);clear a8 E x1 xl;go_wp2_with fail;go_region;go_wp2;go_ret2;have Y:V=BA 6 f C:=by rw [←a3.o,if_neg (by rw [x.o];decide)]
      rw [Y];exact ⟨rfl,b3.o.drew⟩
def YL(w:World)(r:List TF×Nat×PS)(e:Ending)(b:World):Prop:=
 (r.2.2.m8=true∧e=.returned (.tuple #[.agg #[.slice none 0 0,.int .i64 0],.int .i64 3,.int .i64 r.2.2.aS])∧Below w.heap.size w b)∨
 (r.2.2.m8=false∧∃(d:Nat) (U:Nat→Prop) (a:Option Addr) (l c:Nat),e=.returned (.tuple #[.agg #[.slice a l c,.int .i64 r.2.1],.int .i64 0,.int .i64 0])∧Di d U b (.slice a l c) r.1∧(∀k,U k→w.heap.size≤k∧k<b.heap.size)∧Below w.heap.size w b)
theorem Di.bW{d}{U:Nat→Prop}{w i f a}{X:Nat→Prop}(h:Di d U w f a)(c:Ab X w i)(e:∀k,U k→¬X k):Di d U i f a:=by obtain ⟨l,n,o,b,p⟩:=h;exact ⟨l,Ac n c (fun k q=>e k (b k q)),o,b,fun j g m=>(p j g m).O c e⟩
theorem Te(m E)(hF:Cf m E)(g n f j w)(Q:Below m E w)(P:m≤w.heap.size)(z:AZ g n f j w)(R:0<n)(S:(Ag j (n-1)).kind=0):
 Calls Tryz.prog 50 #[.slice (some ⟨g,0,none⟩) n f] w fun e w'=>YL w (CM j n ⟨0,false,0⟩) e w':=by
 have lg:=z.lt;obtain ⟨l1,Z,y,G⟩:∃l p y,CM j n ⟨0,false,0⟩=(l,p,y):=⟨_,_,_,rfl⟩;rw [G];have O:=Aa G;have N:=Aa S;have L:=Aa Q;have K:=Aa hF;clear G S Q hF;cases D:y.m8 with
 | true=>
   have o:=Aa D;clear D;go_enter Tryz.func50,Tryz.ntmps50;go_wp2_with fail;have u:AR (w.heap.size+1) g n f ⟨0,false,0⟩ ((w.alloc (.cells #[.slice none 0 0,.int .i64 0] 82)).alloc (.cells #[.slice (some ⟨g,0,none⟩) n f,.int .i64 0,.bool false,.int .i64 0] 158)):=by have t:=Ak.new (w.alloc (.cells #[.slice none 0 0,.int .i64 0] 82)) #[.slice (some ⟨g,0,none⟩) n f,.int .i64 0,.bool false,.int .i64 0] 158;simp only [World.size_alloc] at t;simpa [AR] using t
   refine (JE m E K.o (w.heap.size+1) g n f ⟨0,false,0⟩ j _ (by omega) ((L.o.alloc P _).alloc (by simp;omega) _) (by simp;omega) u (z.O (((Ab.refl (fun _=>False) _).alloc _).alloc _) (fun q=>q)) R N.o).mono ?_;rw [O.o];rintro e J ⟨d,U,a,l,c,rfl,A,C,i,h⟩;have b:Ak w.heap.size #[.slice none 0 0,.int .i64 0] 82 J:=((Ak.new w #[.slice none 0 0,.int .i64 0] 82).alloc _).O h (by omega);have F:=Aa ((((Below.refl w.heap.size w).alloc (rN _) _).alloc (by simp) _).trans (h.bL (B:=w.heap.size) (by simp;omega) (fun k x=>by omega)));have r:=b.cell 0;have s:=b.cell 1;have V:=b.frozen;have I:=Ak.cell i 2;have r3:=Ak.cell i 3;simp only [dM,dJ,dK,o.o] at r s I r3;have H:=Ae b;have Y:=Ae i;clear i h b z u A C;go_wp2;go_region;go_wp2;refine bodyPost_ret (v:=.tuple #[.agg #[.slice none 0 0,.int .i64 0],.int .i64 3,.int .i64 y.aS]) (by simp [results,Tryz.results50,go_sem,r,s,H]) rfl (.inl ⟨o.o,rfl,?_⟩);exact ((((F.o.setCell (p:=⟨w.heap.size,0,none⟩) (rN _) _).setCell (p:=⟨w.heap.size,1,none⟩) (rN _) _).alloc (by simp;omega) _)).trans ⟨rfl,rfl,rfl,rN _,fun _ _=>rfl⟩
 | false=>
   have o:=Aa D;clear D;go_enter Tryz.func50,Tryz.ntmps50;go_wp2_with fail;have u:AR (w.heap.size+1) g n f ⟨0,false,0⟩ ((w.alloc (.cells #[.slice none 0 0,.int .i64 0] 82)).alloc (.cells #[.slice (some ⟨g,0,none⟩) n f,.int .i64 0,.bool false,.int .i64 0] 158)):=by have t:=Ak.new (w.alloc (.cells #[.slice none 0 0,.int .i64 0] 82)) #[.slice (some ⟨g,0,none⟩) n f,.int .i64 0,.bool false,.int .i64 0] 158;simp only [World.size_alloc] at t;simpa [AR] using t
   refine (JE m E K.o (w.heap.size+1) g n f ⟨0,false,0⟩ j _ (by omega) ((L.o.alloc P _).alloc (by simp;omega) _) (by simp;omega) u (z.O (((Ab.refl (fun _=>False) _).alloc _).alloc _) (fun q=>q)) R N.o).mono ?_;rw [O.o];rintro e J ⟨d,U,a,l,c,rfl,A,C,i,h⟩;have b:Ak w.heap.size #[.slice none 0 0,.int .i64 0] 82 J:=((Ak.new w #[.slice none 0 0,.int .i64 0] 82).alloc _).O h (by omega);have F:=Aa ((((Below.refl w.heap.size w).alloc (rN _) _).alloc (by simp) _).trans (h.bL (B:=w.heap.size) (by simp;omega) (fun k x=>by omega)));have r:=b.cell 0;have s:=b.cell 1;have V:=b.frozen;have I:=Ak.cell i 2;simp only [dM,dJ,dK,o.o] at r s I;have H:=Ae b;have Y:=Ae i;have T:=Aa A;have M:=Aa C;have W:=h.size;simp at W;clear i h b z u A C;go_wp2;refine bodyPost_ret (v:=.tuple #[.agg #[.slice a l c,.int .i64 Z],.int .i64 0,.int .i64 0]) (by simp [results,Tryz.results50,go_sem,r,s,H]) rfl (.inr ⟨o.o,d,U,a,l,c,rfl,?_,?_,?_⟩)
   ·refine T.o.bW (X:=fun k=>k=w.heap.size) ?_ (fun k x=>by have:=(M.o k x).1;simp at this;omega);refine Ab.alloc ?_ _;iterate 2 refine Ab.d8 ?_ _ _
    exact Ab.refl _ _
   ·intro k x;have:=M.o k x;simp at this⊢;omega
   ·exact ((F.o.setCell (p:=⟨w.heap.size,0,none⟩) (rN _) _).setCell (p:=⟨w.heap.size,1,none⟩) (rN _) _).alloc (by simp;omega) _
theorem Ow(F Q)(hF:Cf F Q)(s y)(hs:s.size≤4000)(h:Aw s s.size 0 x0=.inr y)(n j x)(hP:CM (AH s y) (AH s y).length ⟨0,false,0⟩=(n,j,x))(hx:x.m8=false)(w)(hG:Below F Q w)(hB:F≤w.heap.size)(L:(Ag (AH s y) ((AH s y).length-1)).kind=0)
 (A)(a9:∀d U w v,Di d U w v n→Di A U w v n)(hy:WD A n)(C)(Z:Lt n A j=C)(hc:C.aR=0):
 Calls Tryz.prog 36 #[.string s] w fun e M=>∃(g W:Nat) (a:Option Addr) (l c:Nat) (U:Nat→Prop),e=.returned (.tuple #[.slice (some ⟨g,0,none⟩) (AH s y).length W,.agg #[.slice a l c,.int .i64 j],.int .i64 0,.int .i64 0])∧AZ g (AH s y).length W (AH s y) M∧w.heap.size≤g∧Di A U M (.slice a l c) n∧(∀k,U k→w.heap.size≤k∧k<M.heap.size)∧Below w.heap.size w M:=by
 have b5:((C.aR:Int) !=0)=false:=by simp [hc]
 have HC:=Aa Z;clear hc Z;have H:=Aa h;have HZ:=Aa L;have HG:=Aa hG;have HF:=Aa hF;have HP:=Aa hP;have hl:0<(AH s y).length:=by simp [AH]
 have HD:=Aa (JF h);clear h L hG hF hP;generalize hT:AH s y=f at*;have HT:=Aa hT;clear hT;go_enter Tryz.func36,Tryz.ntmps36;go_wp2_with fail;refine (QA s hs _).mono ?_;rw [H.o];rintro e D ⟨v,rfl,p,a1,J⟩;rw [HT.o] at p a1;have L:=J.size;simp at L;have a0:Below w.heap.size w D:=((Below.refl _ _).alloc (rN _) _).trans (J.mono (by simp));have Y:Ak w.heap.size #[.slice none 0 0,.int .i64 0] 82 D:=by show D.heap[w.heap.size]? =_;rw [J.block _ (by simp)];exact heap_alloc_new w _
 obtain ⟨va,vl,t,rfl⟩:=Ad p;obtain ⟨g,rfl⟩:=AA p hl;have b2:=Aq p;subst b2;have a8:=(p.lt g rfl).1;simp at a8;have P:AZ g f.length t f D:=⟨Ao p (by omega),rfl,a1,HD.o⟩;have T:=Aa P;have R:=Aa Y;have N:=Aa a0;clear J Y a0 p;go_wp2_with fail;refine (Te F Q HF.o g f.length t f D (HG.o.trans (N.o.mono hB)) (by omega) P hl HZ.o).mono ?_;rw [HP.o];rintro e m (⟨q,_⟩ | ⟨_,d,U,a,l,c,rfl,O,K,b⟩)
 ·exact absurd (hx.symm.trans q) (by decide)
 ·simp only at O⊢;have b8:=b.size;have r:Ak w.heap.size #[.slice none 0 0,.int .i64 0] 82 m:=by show m.heap[w.heap.size]? =_;rw [b.block _ (by omega)];exact R.o
  have a6:=Aa (N.o.trans (b.mono (by omega)));have u:=r.cell 0;have z:=r.cell 1;have V:=r.frozen;simp only [dM,dJ,dK] at u z;have l3:=Ae r;have a2:=a9 d U m (.slice a l c) O;have S:=Aa (a2.O ((Ab.refl (fun _=>False) m).alloc (.cells #[.slice a l c,.int .i64 j] 82)) (fun _ _ q=>q));have a4:dN (AZ g f.length t f m):=T.o.O (X:=fun _=>False) ⟨b.os,b.tape,b.output,b.size,fun k i _=>b.block k i⟩ (fun q=>q);have X3:=Aa (Ak.new m #[.slice a l c,.int .i64 j] 82);clear b R N P T O a2;go_wp2_with fail;refine (Sn A U _ n j _ S.o (fun k i=>by have:=(K k i).2;simp;omega) hy).mono ?_;rw [HC.o];rintro e E ⟨rfl,o⟩;have B:=(r.alloc _).O o (fun q=>q);have G:=X3.o.O o (fun q=>q);have z4:=o.size;simp at z4;have a7:dN (Below w.heap.size w E):=(a6.o.alloc (by omega) _).trans (o.bL (by simp;omega) (fun _ q=>q.elim));have a3:=Aa (S.o.O o (fun _ _ q=>q));have a5:dN (AZ g f.length t f E):=(a4.o.O ((Ab.refl (fun _=>False) m).alloc _) (fun q=>q)).O o (fun q=>q);clear u z V;have u:=B.cell 0;have z:=B.cell 1;have V:=B.frozen;have b3:=G.cell 0;have b4:=G.cell 1;have l4:=Ae B;have l5:=Ae G;simp only [dM,dJ,dK] at u z b3 b4;have b6:m.heap.size≠w.heap.size:=by omega
  clear o B r G;go_wp2;go_region;go_wp2;refine bodyPost_ret (v:=.tuple #[.slice (some ⟨g,0,none⟩) f.length t,.agg #[.slice a l c,.int .i64 j],.int .i64 0,.int .i64 0]) (by simp [results,Tryz.results36,go_sem,u,z]) rfl ?_;have I:Ab (fun k=>k=w.heap.size) E (((E.setCell ⟨w.heap.size,0,none⟩ (.slice a l c)).setCell ⟨w.heap.size,1,none⟩ (.int .i64 j)).drew):=(((Ab.refl _ E).d8 0 _).d8 1 _).drew;have b7:=I.size;refine ⟨g,t,a,l,c,U,rfl,a5.o.O I (by omega),by omega,a3.o.O I (fun k i q=>by have:=(K k i).1;omega),fun k i=>⟨by have:=(K k i).1;omega,by have:=(K k i).2;omega⟩,?_⟩;exact a7.o.trans (I.bL (by omega) (fun k q=>by omega))
theorem Tryz.textOf(a s p w):(Instr.field 114 (.agg #[.int .i64 a,.string s,.int .i64 p]) 1).run Tryz.prog w=.ok (.string s) w:=by kernel_rfl
theorem Below.quiet{w a}(h:Below w.heap.size w a):Ab (fun _=>False) w a:=⟨h.os,h.tape,h.output,h.size,fun k b _=>h.block k b⟩
theorem Ux(t w b)(l:w.cell? ⟨4,0,none⟩=some b)(i:b=.nilIface∨∃n m,b=.iface n m)
 (k:t=⟨#[]⟩∨t=⟨#[48]⟩∨t=⟨#[49]⟩∨t=⟨#[50]⟩∨t=⟨#[51]⟩):
 Calls Tryz.prog 190 #[.string t] w fun e a=>∃x,e=.returned (.tuple #[.int .i64 (GE ⟨2,t,0⟩),x])∧Ab (fun _=>False) w a:=by
 have c:∀(d:Nat),t.size≤18→Lib.atoi t.data.toList=some (d:Int)→GE ⟨2,t,0⟩=d→Calls Tryz.prog 190 #[.string t] w fun e a=>∃x,e=.returned (.tuple #[.int .i64 (GE ⟨2,t,0⟩),x])∧Ab (fun _=>False) w a:=by intro d j h f;rw [f];refine (Tryz.strconv_Atoi t d j h w).mono ?_;rintro e a ⟨rfl,u,rfl⟩;exact ⟨_,rfl,Below.quiet (Lib.bytesWorld_below _ _ _)⟩
 rcases k with h | h | h | h | h
 ·have f:GE ⟨2,t,0⟩=0:=by subst h;decide+kernel
  rw [f];refine (Tryz.strconv_Atoi_err t (by subst h;decide) (by subst h;decide) b w l i).mono ?_;rintro e a ⟨N,rfl,_,_,g⟩;exact ⟨_,rfl,Below.quiet g⟩
 ·exact c 0 (by subst h;decide) (by subst h;decide) (by subst h;decide+kernel)
 ·exact c 1 (by subst h;decide) (by subst h;decide) (by subst h;decide+kernel)
 ·exact c 2 (by subst h;decide) (by subst h;decide) (by subst h;decide+kernel)
 ·exact c 3 (by subst h;decide) (by subst h;decide) (by subst h;decide+kernel)
theorem Vx{l i}(h:i<l.length):Ag l i∈l:=by unfold Ag;rw [rU h];exact rQ h
theorem TP{a x}(b:DigOk a)(d:x.next<a.length):
 (Ax a 2 x).a9=⟨#[]⟩∨(Ax a 2 x).a9=⟨#[48]⟩∨(Ax a 2 x).a9=⟨#[49]⟩∨(Ax a 2 x).a9=⟨#[50]⟩∨(Ax a 2 x).a9=⟨#[51]⟩:=by
 unfold Ax;split
 ·rename_i c;exact .inr (b _ (Vx d) c)
 ·exact .inl rfl
theorem Sx(l C)(L:4<l)(a)(B:C.cell? ⟨4,0,none⟩=some a)(s:a=.nilIface∨∃P O,a=.iface P O):Cf l C:=by
 intro b g n K x c w R o v d M;have i:=TP (x:=x) d.2.2.2 (by have:=d.2.1;omega);have r:GE (Ax c 2 x)=GE ⟨2,(Ax c 2 x).a9,0⟩:=rfl;rw [r];obtain ⟨t,f⟩:∃t,Ax c 2 x=t:=⟨_,rfl⟩;obtain ⟨y,k⟩:∃y,Af c n 2 x=y:=⟨_,rfl⟩;rw [f] at i;rw [f,k];have h:w.cell? ⟨4,0,none⟩=some a:=by rw [o.cell L];exact B
 have I:=Aa f;have J:=Aa k;have E:=Aa i;clear f k i r;go_enter Tryz.func189,Tryz.ntmps189;go_wp2_with fail;refine (AG b g n K 2 x c _ v d M).mono ?_;rw [I.o,J.o];rintro e Q ⟨rfl,A,j⟩;have p:Q.cell? ⟨4,0,none⟩=some a:=by have N:4<w.heap.size:=Lib.lt_of_cell h;rw [rM (w:=w) (j.block 4 N (by omega))];exact h
 have H:=Aa A;have G:=Aa j;have D:=Aa p;have F:=Aa s;clear A j p v d s h B o;unfold Vy;have S:=Tryz.textOf t.kind t.a9 t.c9;go_wp2_with (go_at_call 190;refine (Ux t.a9 _ a D.o F.o E.o).mono ?_);rintro e T ⟨z,rfl,u⟩;have m:=Aa u;clear u;go_wp2;go_ret;exact ⟨rfl,H.o.O m.o (fun q=>q),G.o.trans (m.o.mono (fun _ _ q=>q.elim))⟩
end Go.Proofs.YtegmjgjkcdbmkaaGreatDoor
