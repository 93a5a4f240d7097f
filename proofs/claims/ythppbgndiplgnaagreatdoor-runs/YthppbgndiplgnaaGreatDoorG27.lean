/- One of the texts of the proof of runs_card_holds: RnF MaA. -/
import Derived.Test.YthppbgndiplgnaaGreatDoorG12
import Derived.DeepKeys4
namespace Go.Proofs.YthppbgndiplgnaaGreatDoor
open Go.RowKit Go.Maps
def Cn(a b:Nat)(v:Vl):Prop:=(v.kind=0∧v.y6=0)∨(v.kind=1∧v.y6<a)∨(v.kind=2∧v.y6<b)
def Rh(n i:Nat)(t:Tg):Prop:=t.kind=0∨(t.kind=1∧t.Yj≤4000∧t.Yk≤3∧t.Yk≤i∧i+(3-t.Yk)<n)
structure BY(nf:Nat)(m:List Cl):Prop where
 nm:∀i (h:i<m.length),Rh m.length i m[i].nm
 vl:∀i (h:i<m.length),Cn nf m.length m[i].v
theorem Cn.more{b n a:Nat}{v:Vl}(h:Cn b n v)(e:n≤a):Cn b a v:=by
 rcases h with h | h | ⟨c,d⟩
 ·exact .inl h
 ·exact .inr (.inl h)
 ·exact .inr (.inr ⟨c,by omega⟩)
theorem Rh.more{n a i:Nat}{t:Tg}(h:Rh n i t)(g:n≤a):Rh a i t:=by
 rcases h with h | ⟨b,c,d,e,f⟩
 ·exact .inl h
 ·exact .inr ⟨b,c,d,e,by omega⟩
theorem GH(a n:Nat):Cn a n DL:=.inl ⟨rfl,rfl⟩
theorem AV{m:List Cl}{i:Nat}(h:i<m.length):Ak m i=m[i]:=by unfold Ak;rw [aY h];rfl
theorem BY.at_{b:Nat}{m:List Cl}(h:BY b m){i:Nat}(a:i<m.length):Rh m.length i (Ak m i).nm∧Cn b m.length (Ak m i).v:=by rw [AV a];exact ⟨h.nm i a,h.vl i a⟩
theorem BY.set{b:Nat}{m:List Cl}(h:BY b m){c:Nat}{v:Vl}(d:Cn b m.length v):BY b (m.set c ⟨(Ak m c).nm,v⟩):=by
 refine ⟨fun i a=>?_,fun i a=>?_⟩
 ·simp only [cY] at a⊢;rw [List.getElem_set];split
  ·rename_i e;subst e;exact (h.at_ a).1
  ·exact h.nm i a
 ·simp only [cY] at a⊢;rw [List.getElem_set];split
  ·exact d
  ·exact h.vl i a
theorem BY.app{d:Nat}{m l:List Cl}(h:BY d m)(c:∀i (a:i<l.length),Rh (m.length+l.length) (m.length+i) l[i].nm∧l[i].v=DL):BY d (m++l):=by
 have e:(m++l).length=m.length+l.length:=aZ;refine ⟨fun i a=>?_,fun i a=>?_⟩
 ·rw [e] at a⊢;rw [List.getElem_append];split
  ·rename_i b;exact (h.nm i b).more (by omega)
  ·rename_i f;have:=(c (i-m.length) (by omega)).1;rw [show m.length+(i-m.length)=i by omega] at this;exact this
 ·rw [e] at a⊢;rw [List.getElem_append];split
  ·rename_i b;exact (h.vl i b).more (by omega)
  ·rename_i f;rw [(c (i-m.length) (by omega)).2];exact GH _ _
structure Na(nf:Nat)(c c':Co)(a b:Nat):Prop where
 m:BY nf c'.i7
 lo:c.i7.length≤c'.i7.length
 hi:c'.i7.length≤c.i7.length+a
 se:c'.Ys.length+c'.Yr.length≤c.Ys.length+c.Yr.length+b
theorem Na.refl{a:Nat}{c:Co}(h:BY a c.i7):Na a c c 0 0:=⟨h,aV _,aV _,aV _⟩
theorem Na.trans{f:Nat}{c d e:Co}{a b g i:Nat}(h:Na f c d a b)(k:Na f d e g i):Na f c e (a+g) (b+i):=
 ⟨k.m,bJ h.lo k.lo,by have:=h.hi;have:=k.hi;omega,by have:=h.se;have:=k.se;omega⟩
theorem Na.less{g:Nat}{c d:Co}{a b e f:Nat}(h:Na g c d a b)(i:a≤e)(k:b≤f):Na g c d e f:=⟨h.m,h.lo,by have:=h.hi;omega,by have:=h.se;omega⟩
theorem EL{b:Nat}{c:Co}(h:BY b c.i7){a:Nat}{v:Vl}(d:Cn b c.i7.length v):Na b c (c.set a v) 0 1:=by
 have e:(c.set a v).i7.length=c.i7.length:=by simp [Co.set]
 refine ⟨h.set d,by omega,by omega,?_⟩;simp only [Co.set];split
 ·simp only [aX];omega
 ·split
  ·simp only [aX];omega
  ·omega
theorem LJ{d:Nat}{c:Co}(h:BY d c.i7){p:Nat}(a:p≤4000):Na d c (c.fields p) 4 0:=by
 have e:(c.fields p).i7.length=c.i7.length+4:=by simp [Co.fields]
 refine ⟨?_,by omega,by omega,aV _⟩;refine h.app (fun i b=>?_);simp only [aX,bM] at b⊢;match i,b with
 | 0,_=>exact ⟨.inr ⟨rfl,a,by simp,by simp,by simp⟩,rfl⟩
 | 1,_=>exact ⟨.inr ⟨rfl,a,by simp,by simp,by simp⟩,rfl⟩
 | 2,_=>exact ⟨.inr ⟨rfl,a,by simp,by simp,by simp⟩,rfl⟩
 | 3,_=>exact ⟨.inr ⟨rfl,a,by simp,by simp,by simp⟩,rfl⟩
theorem MF{a:Nat}{c:Co}(h:BY a c.i7)(f n:Nat):Na a c (c.m9 f n) n 0∧(c.m9 f n).i7.length=c.i7.length+n:=by
 have e:(c.m9 f n).i7.length=c.i7.length+n:=by simp [Co.m9]
 refine ⟨⟨?_,by omega,by omega,aV _⟩,e⟩;refine h.app (fun i b=>?_);rw [cH];exact ⟨.inl rfl,rfl⟩
theorem JQ{b:Nat}:∀(l:List Vl) (a:Nat) (c:Co),BY b c.i7→(∀v,v∈l→Cn b c.i7.length v)→Na b c (CH l a c) 0 l.length∧(CH l a c).i7.length=c.i7.length
 | [],a,c,h,_=>⟨Na.refl h,rfl⟩
 | v::l,a,c,h,g=>by
   have e:=EL h (a:=a) (g v (cS ..));have d:(c.set a v).i7.length=c.i7.length:=by simp [Co.set]
   have f:=JQ l (a+1) (c.set a v) e.m (fun u i=>by rw [d];exact g u (bN _ i));exact ⟨(e.trans f.1).less (by omega) (by simp only [aX];omega),by rw [CH,f.2,d]⟩
theorem Kh{b:Nat}{c:Co}(h:BY b c.i7)(f n:Nat){a:List Vl}(l:∀v,v∈a→Cn b c.i7.length v):Na b c (c.enter f n a) n a.length∧(c.enter f n a).i7.length=c.i7.length+n:=by obtain ⟨d,e⟩:=MF h f n;obtain ⟨i,g⟩:=JQ a c.i7.length (c.m9 f n) d.m (fun v k=>(l v k).more (by omega));exact ⟨(d.trans i).less (by omega) (by omega),by unfold Co.enter;rw [g,e]⟩
theorem Pp{i k p q n l g:Nat}{c m:Co}(h:BY i c.i7)(C:p<c.i7.length)(u:q<c.i7.length)(A:k=4→g<i)(z:k=3→n≤3)(B:k=1→l≤4000)(b:FI k p q n l g c=some m):Na i c m 4 1:=by
 have E:=h.at_ C;have e:=h.at_ u;unfold FI at b;split at b
 ·rename_i d;cases b;have s:=LJ h (B d);have D:(c.fields l).i7.length=c.i7.length+4:=by simp [Co.fields]
  have x:=EL s.m (a:=p) (v:=⟨2,c.i7.length⟩) (.inr (.inr ⟨rfl,by simp only;omega⟩));exact (s.trans x).less (by omega) (by omega)
 split at b
 ·cases b;exact (EL h (.inr (.inr ⟨rfl,u⟩))).less (by omega) (by omega)
 split at b
 ·rename_i d;split at b
  ·rename_i t;cases b;have f:(Ak c.i7 q).v.y6<c.i7.length:=by
    rcases e.2 with ⟨r,_⟩ | ⟨r,_⟩ | ⟨_,r⟩
    ·omega
    ·omega
    ·exact r
   have y:=(h.at_ f).1;refine (EL h (.inr (.inr ⟨rfl,?_⟩))).less (by omega) (by omega);rcases y with r | ⟨_,_,_,_,r⟩
   ·omega
   ·have:=z d;have:=t.2.2;simp only;omega
  ·cases b
 split at b
 ·rename_i d;cases b;exact (EL h (.inr (.inl ⟨rfl,A d⟩))).less (by omega) (by omega)
 split at b
 ·split at b
  ·rename_i t;cases b;have f:(Ak c.i7 q).v.y6<c.i7.length:=by
    rcases e.2 with ⟨r,_⟩ | ⟨r,_⟩ | ⟨_,r⟩
    ·omega
    ·omega
    ·exact r
   exact (EL h (h.at_ f).2).less (by omega) (by omega)
  ·cases b
 split at b
 ·cases b;exact (EL h e.2).less (by omega) (by omega)
 split at b
 ·split at b
  ·cases b;exact (EL h e.2).less (by omega) (by omega)
  ·cases b
 ·cases b;exact (Na.refl h).less (by omega) (by omega)
structure XE(j:List ByteArray)(o:List Nat)(vs:List ByteArray)(s:VS):Prop where
 tg:s.kind≠0→s.kind≠10→s.tg.i6∈vs
 func:s.kind=4∨s.kind=7→s.sr.i6∈j
 many:s.kind=7→o[vx j s.sr.i6]?.getD 0=s.args.length
 sr:s.kind=2∨s.kind=3∨s.kind=5∨s.kind=6∨s.kind=8∨s.kind=9∨s.kind=10→s.sr.i6∈vs
 args:s.kind=7∨s.kind=8→∀t,t∈s.args→t.i6∈vs
 field:s.kind=3→s.field≤3
mutual
def XD(j:List ByteArray)(o:List Nat)(vs:List ByteArray):TS→Prop
 | .mk s []=>s.kind≤10∧XE j o vs s
 | .mk s [(_,ts)]=>(s.kind=11∨s.kind=12)∧Pa j o vs ts
 | .mk s [(_,ts),(_,ts2)]=>s.kind=11∧Pa j o vs ts∧Pa j o vs ts2
 | .mk _ (_::_::_::_)=>False
def Pa(j:List ByteArray)(o:List Nat)(vs:List ByteArray):List TS→Prop
 | []=>True
 | t::ts=>XD j o vs t∧Pa j o vs ts
end
structure XOk(j:List ByteArray)(o:List Nat)(X:List XF):Prop where
 len:X.length=j.length
 us:∀f,Pa j o (Aq X f).m9 (Aq X f).Yg
 Yx:∀f,(Aq X f).m9.length≤12
 pm:∀f,(Aq X f).p8≤(Aq X f).m9.length
 YN:∀f,f<X.length→o[f]?.getD 0=(Aq X f).p8
 pl:∀f,(Aq X f).pl+nL 1 (Aq X f).Yg≤4000
 ca:∀f,(Aq X f).ca+nL 8 (Aq X f).Yg≤4000
structure Mx(K nf:Nat)(S:RS):Prop where
 m:BY nf S.c.i7
 ml:S.c.i7.length+20*S.left≤K
 pl:S.c.Ys.length+S.c.Yr.length+20*S.left≤K
 gv:Cn nf S.c.i7.length S.YA
structure Ng(K nf:Nat)(S S':RS):Prop where
 inv:Mx K nf S'
 lo:S.c.i7.length≤S'.c.i7.length
 left:S'.left≤S.left
theorem CP{l:List ByteArray}{s:ByteArray}(h:s∈l):vx l s<l.length∧CB l s 0=(vx l s:Int):=by have a:=Dt l s 0;have b:=a.1.2 h;unfold vx;omega
def Vw(j:List ByteArray)(o:List Nat)(X:List XF)(F:Nat):Prop:=∀(K a c:Nat) (b:List TS) (d e:Nat) (S:RS),
 Mx K j.length S→S.left<F→c+(Aq X a).m9.length≤S.c.i7.length→Pa j o (Aq X a).m9 b→d+nL 1 b≤4000→Ng K j.length S (AA X j F a c b d e S).2
section
variable {j : List ByteArray} {o : List Nat} {X : List XF} (w : XOk j o X)
include w
theorem NI{F K f p:Nat}{d:List Vl}{S:RS}(s:Vw j o X F)(k:BY j.length S.c.i7)(B:S.c.i7.length+20*S.left+14≤K)(C:S.c.Ys.length+S.c.Yr.length+20*S.left+14≤K)(m:Cn j.length S.c.i7.length S.YA)(n:S.left<F)(l:∀v,v∈d→Cn j.length S.c.i7.length v)(E:d.length≤12):
 Ng K j.length S (E7 X (AA X j F) f d p S).2:=by
 unfold E7 Cu;by_cases h:S.Yl=40
 ·simp only [cU h,if_true];exact ⟨⟨k,by simp only;omega,by simp only;omega,m⟩,aV _,aV _⟩
 ·simp only [cT h];have D:=w.Yx f;obtain ⟨i,A⟩:=Kh k f (Aq X f).m9.length l;have I:=s (K-1) f S.c.i7.length (Aq X f).Yg (Aq X f).pl (Aq X f).ca {S with c:=S.c.enter f (Aq X f).m9.length d,Yl:=S.Yl+1,YA:=DL} ⟨i.m,by simp only;omega,by have:=i.se;simp only;omega,GH _ _⟩ n (by simp only;omega) (w.us f) (w.pl f);generalize AA X j F f S.c.i7.length (Aq X f).Yg (Aq X f).pl (Aq X f).ca {S with c:=S.c.enter f (Aq X f).m9.length d,Yl:=S.Yl+1,YA:=DL}=r at I⊢;obtain ⟨b,q,g⟩:=I;simp only at q g;have t:=b.ml;have u:=b.pl;split
  ·exact ⟨⟨b.m,by simp only;omega,by simp only;omega,b.gv⟩,by simp only;omega,g⟩
  ·have e:=EL b.m (a:=p) b.gv;have x:=e.hi;have y:=e.se;have z:=e.lo;exact ⟨⟨e.m,by simp only;omega,by simp only;omega,GH _ _⟩,by simp only;omega,g⟩
omit w in
theorem LS{F K b base g ca:Nat}{d:List TS}(l:Vw j o X F)(i:Pa j o (Aq X b).m9 d)(k:g+nL 1 d≤4000):∀(n:Nat) (S:RS),Mx K j.length S→S.left<F→base+(Aq X b).m9.length≤S.c.i7.length→Ng K j.length S (DW (AA X j F b base d g ca) n S).2
 | 0,S,h,_,_=>⟨h,aV _,aV _⟩
 | n+1,S,h,q,p=>by
   unfold DW;simp only;split
   ·exact ⟨⟨h.m,h.ml,h.pl,h.gv⟩,aV _,aV _⟩
   ·have I:=l K b base d g ca {S with c:={S.c with ch:=(D7 S.c.ch).2}} ⟨h.m,h.ml,h.pl,h.gv⟩ q p i k;generalize AA X j F b base d g ca {S with c:={S.c with ch:=(D7 S.c.ch).2}}=r at I⊢;obtain ⟨a,e,f⟩:=I;simp only at e f;split
    ·exact ⟨a,e,f⟩
    ·split
     ·exact ⟨⟨a.m,a.ml,a.pl,a.gv⟩,e,f⟩
     ·have s:=a.ml;have t:=a.pl;have J:=LS (K:=K) (base:=base) (ca:=ca) l i k n r.2.one ⟨a.m,by simp only [RS.one];omega,by simp only [RS.one];omega,a.gv⟩ (by simp only [RS.one];omega) (by simp only [RS.one];omega);have m:r.2.one.left≤r.2.left:=Nat.sub_le _ _;exact ⟨J.inv,bJ e J.lo,bJ J.left (bJ m f)⟩
theorem NJ{F K fi base pl ca:Nat}{t:TS}{S:RS}(s:Vw j o X F)(b:BY j.length S.c.i7)(h1:S.c.i7.length+20*S.left+20≤K)(h2:S.c.Ys.length+S.c.Yr.length+20*S.left+20≤K)(d:Cn j.length S.c.i7.length S.YA)(k:S.left<F)(D:base+(Aq X fi).m9.length≤S.c.i7.length)(i:XD j o (Aq X fi).m9 t)(m:pl+nK 1 t≤4000):
 Ng K j.length S (Bi X j (AA X j F) F fi base t pl ca S).2:=by
 have x:∀(h:RS),h.c.i7=S.c.i7→h.c.Ys=S.c.Ys→h.c.Yr=S.c.Yr→h.left=S.left→Cn j.length S.c.i7.length h.YA→Ng K j.length S h:=fun h r V W A Y=>⟨⟨by rw [r];exact b,by rw [r,A];omega,by rw [V,W,A];omega,by rw [r];exact Y⟩,by rw [r];exact aV _,by omega⟩
 have O:∀(l:List PT),(∀t,t∈l→t.i6∈(Aq X fi).m9)→∀v,v∈BZ S.c.i7 base (l.map fun t=>vx (Aq X fi).m9 t.i6)→Cn j.length S.c.i7.length v:=by intro l k v M;unfold BZ at M;rw [List.map_map] at M;obtain ⟨t,ht,rfl⟩:=cG.1 M;have:=(CP (k t ht)).1;exact (b.at_ (by simp only;omega)).2
 unfold Bi;match t,i,m with
 | .mk v [],i,m=>
   obtain ⟨E,a⟩:=i;have Q:v.kind=1→pl+1≤4000:=fun e=>by simpa [nK,nB,e] using m
   simp only;split
   ·exact x _ rfl rfl rfl rfl d
   ·rename_i k0;rw [cT (by omega),cT (by omega)];split
    ·rename_i R;have:=(CP (a.sr (by omega))).1;exact x _ rfl rfl rfl rfl (b.at_ (by omega)).2
    ·rename_i R;split
     ·rename_i y;have a1:=a.func (.inr y);obtain ⟨a2,_⟩:=CP a1;have a3:=a.many y;rw [w.YN _ (by rw [w.len];exact a2)] at a3;have:=w.pm (vx j v.sr.i6);have:=w.Yx (vx j v.sr.i6);exact NI w s b (by omega) (by omega) d k (O _ (a.args (.inl y))) (by simp [BZ];omega)
     ·rename_i y;split
      ·rename_i T;split
       ·rename_i hc;have:=w.pm (Ak S.c.i7 (base+vx (Aq X fi).m9 v.sr.i6)).v.y6;have:=w.Yx (Ak S.c.i7 (base+vx (Aq X fi).m9 v.sr.i6)).v.y6;have he:(if S.Yl<40 then (ca+1,(Ak S.c.i7 (base+vx (Aq X fi).m9 v.sr.i6)).v.y6)::S.c.Yr else S.c.Yr).length≤S.c.Yr.length+1:=by split<;>simp
        have C:=NI w s (p:=base+vx (Aq X fi).m9 v.tg.i6) (f:=(Ak S.c.i7 (base+vx (Aq X fi).m9 v.sr.i6)).v.y6) (K:=K) (S:={S with c:={S.c with Yr:=if S.Yl<40 then (ca+1,(Ak S.c.i7 (base+vx (Aq X fi).m9 v.sr.i6)).v.y6)::S.c.Yr else S.c.Yr}}) b (by simp only;omega) (by simp only;omega) d k (O _ (a.args (.inr T))) (by simp [BZ];omega);exact ⟨C.inv,C.lo,C.left⟩
       ·exact x _ rfl rfl rfl rfl d
      ·rename_i T;have hP:=(CP (a.tg k0 R)).1;have Z:v.kind≠1→v.kind≠4→base+vx (Aq X fi).m9 v.sr.i6<S.c.i7.length:=fun r A=>by have:=(CP (a.sr (by omega))).1;omega
       cases P:FI v.kind (base+vx (Aq X fi).m9 v.tg.i6) (base+vx (Aq X fi).m9 v.sr.i6) v.field (pl+1) (vx j v.sr.i6) S.c with
       | none=>exact x _ rfl rfl rfl rfl d
       | some c=>
         have G:Na j.length S.c c 4 1:=by
          by_cases q:v.kind=1∨v.kind=4
          ·have e:FI v.kind (base+vx (Aq X fi).m9 v.tg.i6) (base+vx (Aq X fi).m9 v.tg.i6) v.field (pl+1) (vx j v.sr.i6) S.c=some c:=by rw [←P];unfold FI;rcases q with q | q<;>simp [q]
           exact Pp b (by omega) (by omega) (fun e=>(CP (a.func (.inl e))).1) (fun e=>a.field e) Q e
          ·exact Pp b (by omega) (Z (by omega) (by omega)) (fun e=>(CP (a.func (.inl e))).1) (fun e=>a.field e) Q P
         have g1:=G.hi;have g2:=G.se;have N:=G.lo;exact ⟨⟨G.m,by simp only;omega,by simp only;omega,d.more N⟩,N,aV _⟩
 | .mk v [(pp,g)],i,m=>
   obtain ⟨E,a⟩:=i;have H:pl+nL 1 g≤4000:=by simp [nK,nB,show¬v.kind=1 by omega] at m;omega
   simp only;rw [cT (by omega)];have I:=fun (n:List TS) (B:Pa j o (Aq X fi).m9 n) (u z:Nat) (L:u+nL 1 n≤4000)=>s K fi base n u z {S with c:={S.c with ch:=(D7 S.c.ch).2}} ⟨b,by simp only;omega,by simp only;omega,d⟩ k D B L
   split
   ·split
    ·have J:=I g a pl ca H;exact ⟨J.inv,J.lo,J.left⟩
    ·have J:=I [] trivial (pl+nL 1 g) (ca+nL 8 g) (by simp [nL];omega);exact ⟨J.inv,J.lo,J.left⟩
   ·rw [cU (by omega)];exact LS s a H F S ⟨b,by omega,by omega,d⟩ k D
 | .mk v [(pp,g),(a4,U)],i,m=>
   obtain ⟨E,a,a0⟩:=i;have H:pl+nL 1 g+nL 1 U≤4000:=by simp [nK,nB,show¬v.kind=1 by omega] at m;omega
   simp only;rw [cT (by omega),cU E];have I:=fun (n:List TS) (B:Pa j o (Aq X fi).m9 n) (u z:Nat) (L:u+nL 1 n≤4000)=>s K fi base n u z {S with c:={S.c with ch:=(D7 S.c.ch).2}} ⟨b,by simp only;omega,by simp only;omega,d⟩ k D B L
   split
   ·have J:=I g a pl ca (by omega);exact ⟨J.inv,J.lo,J.left⟩
   ·have J:=I U a0 (pl+nL 1 g) (ca+nL 8 g) (by omega);exact ⟨J.inv,J.lo,J.left⟩
theorem Iq:∀F:Nat,Vw j o X F
 | 0=>fun _ _ _ _ _ _ _ _ h=>by omega
 | F+1=>by
   intro K d b f a c S h u m e g;match f,e,g with
   | [],_,_=>exact ⟨h,aV _,aV _⟩
   | t::f,e,g=>
     have n:a+nK 1 t+nL 1 f≤4000:=by simp [nL] at g;omega
     rw [AA];by_cases k:S.left=0
     ·rw [cU k];exact ⟨⟨h.m,h.ml,h.pl,h.gv⟩,aV _,aV _⟩
     ·rw [cT k];have q:=h.ml;have s:=h.pl;have T:=NJ w (K:=K) (Iq F) (pl:=a) (ca:=c) (fi:=d) (base:=b) (t:=t) (S:=S.one) h.m (by simp only [RS.one];omega) (by simp only [RS.one];omega) h.gv (by simp only [RS.one];omega) m e.1 (by omega);simp only;generalize Bi X j (AA X j F) F d b t a c S.one=r at T⊢;obtain ⟨l,i,p⟩:=T;simp only [RS.one] at i p;split
      ·exact ⟨l,i,by simp only;omega⟩
      ·have J:=Iq F K d b f (a+nK 1 t) (c+nK 8 t) r.2 l (by omega) (by omega) e.2 n;exact ⟨J.inv,bJ i J.lo,by have:=J.left;omega⟩
end
def Lv(t:Tg):Prop:=t.kind≤2∧t.Yj≤200000∧t.Yk≤200000
def UX(p:Tg×Tg):Value:=.agg #[.int .i64 p.1.kind,.int .i64 p.1.Yj,.int .i64 p.1.Yk,.int .i64 p.2.kind,.int .i64 p.2.Yj,.int .i64 p.2.Yk]
def TI(p:Nat×Nat):Value:=.agg #[.int .i64 p.1,.int .i64 p.2]
theorem QP:laidOutB Tryz.prog=true:=by kernel_rfl
theorem NQ:Keyed Tryz.prog 163:=Keyed.of_law (deep_law_laid QP (m:=5) (by omega) (of_decide_eq_true (by kernel_rfl)) (by kernel_rfl) (by rw [Tryz.underlying163]))
theorem NO:Keyed Tryz.prog 166:=Keyed.of_law (deep_law_laid QP (m:=5) (by omega) (of_decide_eq_true (by kernel_rfl)) (by kernel_rfl) (by rw [Tryz.underlying166]))
theorem Gs{n:Nat}(h:n≤200000):(Lit.int .i64 (n:Int)).wf=true:=WalkArith.wf_i64 (by omega)
theorem Lo:∃m,Tryz.prog.types.size=m+5:=by have h:5≤Tryz.prog.types.size:=of_decide_eq_true (by kernel_rfl);exact Nat.exists_eq_add_of_le' h
theorem T0{P k i c d s t q r u v}(b:P.underlying k=some (.struct #[{name:=c,type:=i,offset:=0,embedded:=false,tag:=u,pkgPath:=s,byteOffset:=q},{name:=d,type:=i,offset:=1,embedded:=false,tag:=v,pkgPath:=t,byteOffset:=r}]))(o:P.underlying i=some (.int .i64))(g:(c != "_")=true)(h:(d != "_")=true)
 (p:P.keyType k=true)(j:P.cellsOf k=2)(n:P.cellsOf i=1)(a:∃m,P.types.size=m+5){x y}(e:(Lit.int .i64 x).wf=true)(f:(Lit.int .i64 y).wf=true):∃l,keyOf P k (.agg #[.int .i64 x,.int .i64 y])=some l:=by
 obtain ⟨m,a⟩:=a;unfold keyOf;rw [b];simp [p,Value.formed,j,a,Program.keyLits,b,o,n,e,f,Value.cells,g,h]
theorem Wy{p}(a:p.1≤200000)(b:p.2≤200000):∃l,keyOf Tryz.prog 166 (TI p)=some l:=
 T0 Tryz.underlying166 Tryz.underlying3 (by decide) (by decide) (by kernel_rfl) (by kernel_rfl) (by kernel_rfl) Lo (Gs a) (Gs b)
theorem LV{P:Program}{c d i:TypeId}{f g h z A B:String}{j k l:Nat}{C D E:String}(w:P.underlying c=some (.struct #[{name:=f,type:=d,offset:=0,embedded:=false,tag:=C,pkgPath:=z,byteOffset:=j},{name:=g,type:=i,offset:=1,embedded:=false,tag:=D,pkgPath:=A,byteOffset:=k},{name:=h,type:=i,offset:=2,embedded:=false,tag:=E,pkgPath:=B,byteOffset:=l}]))
 (y:P.underlying d=some (.int .i64))(x:P.underlying i=some (.int .i64))(q:(f != "_")=true)(r:(g != "_")=true)(s:(h != "_")=true)(t:P.cellsOf c=3)(u:P.cellsOf d=1)(v:P.cellsOf i=1)(m:Nat){a b e:Int}(n:(Lit.int .i64 a).wf=true)(o:(Lit.int .i64 b).wf=true)(p:(Lit.int .i64 e).wf=true):
 P.keyLits (m+2) c [.int .i64 a,.int .i64 b,.int .i64 e]=some [.int .i64 a,.int .i64 b,.int .i64 e]:=by
 unfold Program.keyLits;rw [w];simp only;rw [cU ⟨by rw [t];rfl,by rw [←Array.all_toList];simp only [List.all_cons,List.all_nil,q,r,s,Bool.and_self]⟩];simp [Program.keyLits,y,x,u,v,n,o,p]
theorem V4{P k c d i v w U V s t u W X Y S T D E F Z t2 u1 u2 u3}(e:P.underlying k=some (.struct #[{name:=v,type:=c,offset:=0,embedded:=false,tag:=Z,pkgPath:=U,byteOffset:=S},{name:=w,type:=c,offset:=3,embedded:=false,tag:=t2,pkgPath:=V,byteOffset:=T}]))
 (p:P.underlying c=some (.struct #[{name:=s,type:=d,offset:=0,embedded:=false,tag:=u1,pkgPath:=W,byteOffset:=D},{name:=t,type:=i,offset:=1,embedded:=false,tag:=u2,pkgPath:=X,byteOffset:=E},{name:=u,type:=i,offset:=2,embedded:=false,tag:=u3,pkgPath:=Y,byteOffset:=F}]))
 (r:P.underlying d=some (.int .i64))(q:P.underlying i=some (.int .i64))(O:(v != "_")=true)(Q:(w != "_")=true)(f:(s != "_")=true)(g:(t != "_")=true)(h:(u != "_")=true)
 (R:P.keyType k=true)(j:P.cellsOf k=6)(a:P.cellsOf c=3)(n:P.cellsOf d=1)(o:P.cellsOf i=1)(b:∃m,P.types.size=m+5){x y z A B C}(G:(Lit.int .i64 x).wf=true)(H:(Lit.int .i64 y).wf=true)(I:(Lit.int .i64 z).wf=true)(J:(Lit.int .i64 A).wf=true)(K:(Lit.int .i64 B).wf=true)(L:(Lit.int .i64 C).wf=true):
 ∃l,keyOf P k (.agg #[.int .i64 x,.int .i64 y,.int .i64 z,.int .i64 A,.int .i64 B,.int .i64 C])=some l:=by
 obtain ⟨m,b⟩:=b;have M:=LV p r q f g h a n o (m+3) G H I;have N:=LV p r q f g h a n o (m+3) J K L;unfold keyOf;rw [e];simp only;rw [cU (by simp [R,Value.formed,j,e]),b];unfold Program.keyLits;rw [e];simp only;rw [cU ⟨by rw [j];rfl,by rw [←Array.all_toList];simp only [List.all_cons,List.all_nil,O,Q,Bool.and_self]⟩];simp [a,Value.cells,M,N]
theorem Wz{p}(a:Lv p.1)(b:Lv p.2):∃l,keyOf Tryz.prog 163 (UX p)=some l:=
 V4 Tryz.underlying163 Tryz.underlying146 Tryz.underlying144 Tryz.underlying3 (by decide) (by decide) (by decide) (by decide) (by decide) (by kernel_rfl) (by kernel_rfl) (by kernel_rfl) (by kernel_rfl) (by kernel_rfl) Lo (Gs (by have:=a.1;omega)) (Gs a.2.1) (Gs a.2.2) (Gs (by have:=b.1;omega)) (Gs b.2.1) (Gs b.2.2)
def DM{a:Type}(k:TypeId)(mk:a→Value)(b:Nat)(l:List a)(w:World):Prop:=
 ∃(n:Nat) (D:DataW Unit),n≤l.length∧w.ownsMap Tryz.prog k unitElem b n D∧∀x,Maps.has D x=true↔∃p,p∈l∧keyOf Tryz.prog k (mk p)=some x
theorem DM.none{a:Type}(k:TypeId)(mk:a→Value)(w:World):DM k mk w.heap.size [] (w.alloc (.map #[] 0)):=
 ⟨0,.map [],aV _,World.ownsMap_made w _ _ _,fun x=>by simp [Maps.has_eq]⟩
theorem DM.lt{a k}{mk:a→Value}{b l w}(h:DM k mk b l w):b<w.heap.size:=by obtain ⟨n,D,_,h,_⟩:=h;exact h.lt
theorem DM.f8{j k}{mk:j→Value}{b l}{X:Nat→Prop}{w w'}(h:DM k mk b l w)(g:Ab X w w')(i:¬X b):DM k mk b l w':=by obtain ⟨n,D,e,⟨d,c,a,r⟩,f⟩:=h;exact ⟨n,D,e,⟨d,c,by rw [g.block b (lt_of_block a) i];exact a,r⟩,f⟩
theorem DM.ne{g k}{mk:g→Value}{b c l w}(h:DM k mk b l w){d t e}(a:w.heap[c]? =some (.cells d t e)):b≠c:=by obtain ⟨n,D,m,⟨j,i,f,r⟩,o⟩:=h;rintro rfl;rw [f] at a;cases a
theorem DM.add{i:Type}{k t e:TypeId}{mk:i→Value}{b:Nat}{l:List i}{w:World}{p:i}{x:Lit}(h:DM k mk b l w)(K:Keyed Tryz.prog k)(u:Tryz.prog.underlying t=some (.map k e))(z:l.length≤300000)(a:keyOf Tryz.prog k (mk p)=some x):
 ∃f,(Instr.mapUpdate t (.map (some b)) (mk p) (.agg #[])).run Tryz.prog w=.ok () f∧DM k mk b (p::l) f∧Ab (fun k=>k=b) w f:=by
 obtain ⟨n,D,v,j,m⟩:=h;obtain ⟨f,s,o,r⟩:=World.ownsMap.store j K u (by unfold maxLen;omega) a unitElem_mk;refine ⟨f,s,⟨n+1,_,by simp;omega,o,fun y=>?_⟩,(Ab.refl _ w).grown r.grown (fun k a=>.inl (by cases a;rfl))⟩;by_cases g:y=x
 ·subst g;rw [Maps.has_put_same j.isMap (K.key a)];simp only [true_iff];exact ⟨p,by simp,a⟩
 ·rw [Maps.has_put_other g,m];constructor
  ·rintro ⟨q,c,d⟩;exact ⟨q,bN _ c,d⟩
  ·rintro ⟨q,c,d⟩;rcases cM.1 c with rfl | c
   ·rw [a] at d;cases d;exact dC rfl g
   ·exact ⟨q,c,d⟩
end Go.Proofs.YthppbgndiplgnaaGreatDoor
