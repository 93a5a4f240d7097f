/- One of the texts of the proof of texts_card_holds: CkD CkE CkF CkG CkH CkI CkJ. -/
import Derived.Test.YtmaankfbhhbeoaaGreatDoorG06
set_option maxRecDepth 100000
set_option maxHeartbeats 20000000
namespace Go.Proofs.YtmaankfbhhbeoaaGreatDoor
open Go.RowKit Go.Maps
theorem CG:∀{a:List (List Value)} {s:Nat},(∀c,c∈a→c.length=s)→∀{j i:Nat} (b:j<a.length),i<s→a.flatten[j*s+i]? =a[j][i]?
 | [],_,_,_,_,b,_=>by simp at b
 | c::a,s,d,0,i,_,g=>by have f:=d c (by simp);simp only [Nat.zero_mul,Nat.zero_add,List.flatten_cons,List.getElem_cons_zero];rw [List.getElem?_append_left (by omega)]
 | c::a,s,d,j+1,i,b,g=>by
   have f:=d c (by simp);have h:j<a.length:=by simpa using b
   have e:(j+1)*s+i=s+(j*s+i):=by rw [Nat.succ_mul];omega
   simp only [List.flatten_cons,List.getElem_cons_succ];rw [e,List.getElem?_append_right (by omega),f,Nat.add_sub_cancel_left];exact CG (fun x k=>d x (by simp [k])) h g
theorem Cy.d7{d}{U:Nat→Prop}{w f sv a}{X:Nat→Prop}(h:Cy d U w sv a)(c:Ab X w f)(e:∀k,U k→¬X k):Cy d U f sv a:=by obtain ⟨i,m,n,b,o⟩:=h;exact ⟨i,Ac m c (fun k p=>e k (b k p)),n,b,fun j g l=>(o j g l).d7 c e⟩
theorem Cy.get{d}{U:Nat→Prop}{w g l c a}(h:Cy d U w (.slice (some ⟨g,0,none⟩) l c) a){j}(t:j<a.length):
 ∃(b f:Value),(∀i,i<5→w.cell? ⟨g,j*5+i,none⟩=(Ia a[j] b f)[i]?)∧w.ownsRow 0 120 2 b a[j].l8.length (Ba a[j].l8)∧(∀k,b.ownBlock=some k→U k)∧CI d U w f a[j].t7:=by
 obtain ⟨n,o,C,D,p⟩:=h;have v:=Ap o;subst v;have q:j<n.length:=by omega
 obtain ⟨b,f,e,z,A,B⟩:=p j t q;have u:∀x,x∈n→x.length=5:=by intro x y;obtain ⟨i,m,rfl⟩:=List.mem_iff_getElem.1 y;obtain ⟨_,_,r,_⟩:=p i (by omega) m;rw [r];rfl
 refine ⟨b,f,fun i m=>?_,z,A,B⟩;have s:=o.cellAt (j*5+i) (by omega);rw [s,CG u q m,e];simp
def FH(F:DataW Unit)(N:Nat):Prop:=∀s,Maps.has F (AT s)=true→∃j:Nat,j<N∧F.atKey (AT s) (.lit (.int .i64 0))=.lit (.int .i64 j)
def Bf(F:DataW Unit)(s:ByteArray):Nat:=match F.atKey (AT s) (.lit (.int .i64 0)) with | .lit (.int _ z)=>z.toNat | _=>0
def EP(a:List TF)(j:Nat):Nat:=(a[j]?.map (fun t=>t.l8.length)).getD 0
def CF(F:DataW Unit)(b:List TF)(t:PT)(a:Nat)(c:CS):CS:=
 if Maps.has F (AT t.d9) then (if EP b (Bf F t.d9)=a then c else Bb 7 t.f8 c) else Bb 6 t.f8 c
theorem I7(b d:Nat)(U:Nat→Prop)(s:Value)(f:List TF)(B:Int)(A:Value)(m n:Nat)(F:DataW Unit)(c:CS)(t:PT)(a:Nat)(w:World)(p:BA b s B (.map (some m)) A c w)(K:AS m n F w)(x:Cy d U w s f)(T:FH F f.length)(X:t.d9.size≤4000)(hk:f.length≤4001):
 Calls Tryz.prog 76 #[.pointer (some ⟨b,0,none⟩),Fu t,.int .i64 a] w fun e N=>e=.returned (.tuple #[])∧BA b s B (.map (some m)) A (CF F f t a c) N∧Ab (fun k=>k=b) w N:=by
 have M:=Aj p 0;have r2:=Aj p 2;simp only [Ni,Ng,Nh] at M r2;have lr:=Ad p;obtain ⟨z,L,D,_⟩:=C6 (w:=(w.alloc (.cells #[.string t.d9,.int .i64 t.f8] 120)).drew) (K.d7 (((Ab.refl (fun _=>False) w).alloc _).drew) (fun q=>q)) X;have C:=Aa p;clear p K;unfold Fu;cases h:Maps.has F (AT t.d9) with
 | false=>
   rw [h] at L;have i:CF F f t a c=Bb 6 t.f8 c:=by simp [CF,h]
   rw [i];clear i h x M;go_enter Tryz.func76,Tryz.ntmps76;go_wp2;go_region;go_wp2_with (go_at_call 41;refine (Bh b 6 t.f8 s B (.map (some m)) A c _ (C.o.d7 (((Ab.refl (fun _=>False) w).alloc _).drew) (fun q=>q))).mono ?_);rintro e w2 ⟨rfl,I,H⟩;go_wp2;refine bodyPost_ret (v:=.tuple #[]) (by simp [results,Tryz.results76,go_sem]) rfl ⟨rfl,I,(((Ab.refl _ w).alloc _).drew).trans H⟩
 | true=>
   rw [h] at L;obtain ⟨j,J,E⟩:=T _ h;have hz:z=(j:Int):=by rw [E] at D;simpa using D.symm
   have u:Bf F t.d9=j:=by simp [Bf,E]
   have y:EP f j=f[j].l8.length:=by simp [EP,J]
   subst hz;have W:=x;obtain ⟨a0,r,_⟩:=W;obtain ⟨va,vl,vc,rfl⟩:=Af r;obtain ⟨g,rfl⟩:=Ay r (by omega);have Z:=Ap r;subst Z;have lg:=(r.lt g rfl).2;obtain ⟨av,sv,l,G,_,_⟩:=x.get J;obtain ⟨aa,al,ac,rfl⟩:=Af G;have V:=Ap G;subst V;have Q:=l 2 (by omega);have O:=l 0 (by omega);have P:=l 1 (by omega);have R:=l 3 (by omega);have S:=l 4 (by omega);simp only [Ia,Ni,Ng,Nh,Nat.add_zero] at O P Q R S;clear r G l x D E;by_cases o:f[j].l8.length=a
   ·have i:CF F f t a c=c:=by simp [CF,h,u,y,o]
    rw [i];have Y:((f[j].l8.length:Int) !=(a:Int))=false:=by simp [o]
    clear i h u y o;go_enter Tryz.func76,Tryz.ntmps76;go_wp2;go_region;go_wp2;go_end0;exact ⟨rfl,C.o.d7 (((Ab.refl (fun _=>False) w).alloc _).drew) (fun q=>q),((Ab.refl _ w).alloc _).drew⟩
   ·have i:CF F f t a c=Bb 7 t.f8 c:=by simp [CF,h,u,y,o]
    rw [i];have Y:((f[j].l8.length:Int) !=(a:Int))=true:=by simp;omega
    clear i h u y o;go_enter Tryz.func76,Tryz.ntmps76;go_wp2;go_region;go_wp2_with (go_at_call 41;refine (Bh b 7 t.f8 _ B (.map (some m)) A c _ (C.o.d7 (((Ab.refl (fun _=>False) w).alloc _).drew) (fun q=>q))).mono ?_);rintro e w2 ⟨rfl,I,H⟩;go_wp2;go_end0;exact ⟨rfl,I,(((Ab.refl _ w).alloc _).drew).trans H⟩
theorem KP(n:Nat):((n:Int)==0)=(n==0):=by rw [Bool.eq_iff_iff];simp
def AN:List TF→Nat→DataW Unit→DataW Unit
 | [],_,D=>D
 | t::l,k,D=>AN l (k+1) (if Maps.has D (AT t.name.d9) then D else D.put (AT t.name.d9) (.lit (.int .i64 k)))
theorem Ik(a:List TF)(k:Nat)(h:k<a.length)(D:DataW Unit):AN (a.drop k) k D=AN (a.drop (k+1)) (k+1) (if Maps.has D (AT a[k].name.d9) then D else D.put (AT a[k].name.d9) (.lit (.int .i64 k))):=by rw [List.drop_eq_getElem_cons h];rfl
theorem Eo(d)(U:Nat→Prop)(G a R w)(x:Cy d U w G a)(hl:∀t,t∈a→t.name.d9.size≤4000)(hk:a.length≤4000):
 Calls Tryz.prog 38 #[.agg #[G,.int .i64 R]] w fun e S=>∃M,e=.returned (.map (some M))∧w.heap.size≤M∧AS M a.length (AN a 0 (.map [])) S∧Ab (fun _=>False) w S:=by
 have a8:=@run_makeMap Tryz.prog;have v:=x;obtain ⟨a4,b,_⟩:=v;obtain ⟨va,vl,vc,rfl⟩:=Af b;have a3:=Ap b;subst a3;generalize I:AN a 0 (.map [])=V;have F:Nj (AN (a.drop 0) 0 (.map [])=V):=I;have T:=Aa x;clear I x b;go_enter Tryz.func38,Tryz.ntmps38;go_wp2;go_loopw [12] (fun i wr=>∃(k:Nat) (D:DataW Unit),k≤a.length∧i=.int .i64 k∧Nj (AS (w.heap.size+1) k D wr)∧Nj (Ab (fun _=>False) w wr)∧Nj (AN (a.drop k) k D=V)) (fun i _=>a.length-(intOf i).toNat)
 case atStart=> refine ⟨0,.map [],by omega,rfl,Aa ?_,Aa (((Ab.refl _ w).alloc _).alloc _),F⟩;have:=World.ownsMap_made (H:=Unit) (w.alloc (.cells #[.slice va a.length vc,.int .i64 R] 36)) Tryz.prog 9 (plainElem Tryz.prog 3);simpa [AS] using this
 case round=>
  obtain ⟨k,D,a7,rfl,m,n,A⟩:=hrel;clear F;by_cases N:k<a.length
  ·have y:=T.o.d7 n.o (fun _ _ q=>q);have v:=y;obtain ⟨a5,b,_⟩:=v;obtain ⟨g,rfl⟩:=Ay b (by omega);have lg:=(b.lt g rfl).2;obtain ⟨av,sv,f,J,_,a1⟩:=y.get N;obtain ⟨r,u,s,rfl⟩:=Af J;obtain ⟨a6,Q,_⟩:=a1;obtain ⟨B,E,C,rfl⟩:=Af Q;have W:=f 0 (by omega);have X:=f 1 (by omega);have Y:=f 2 (by omega);have Z:=f 3 (by omega);have f4:=f 4 (by omega);simp only [Ia,Ni,Ng,Nh,Nat.add_zero] at W X Y Z f4;have P:=Aa (Ik a k N D);have L:=hl a[k] (List.getElem_mem _);clear b Q J f y;generalize a[k]=t at*;have l1:=n.o.size;have lm:=World.ownsMap.lt m.o;obtain ⟨z,O,_,_⟩:=C6 (w:=wr.alloc (.cells #[.string t.name.d9,.int .i64 t.name.f8,.slice r u s,.int .i64 t.f8,.slice B E C] 126)) (m.o.d7 ((Ab.refl (fun _=>False) wr).alloc _) (fun q=>q)) L;cases h:Maps.has D (AT t.name.d9) with
   | true=>
     rw [h] at O;have o:=Aa h;clear h;go_wp2;go_round
     case rel=>
      refine ⟨k+1,D,by omega,by go_num,Aa ?_,Aa (n.o.alloc _),Aa ?_⟩
      ·exact World.ownsMap.mono (m.o.d7 ((Ab.refl (fun _=>False) wr).alloc _) (fun q=>q)) (by omega)
      ·have:=P.o;rw [if_pos o.o] at this;exact this.symm.trans A.o
     case measure=>simp [intOf];omega
   | false=>
     rw [h] at O;have o:=Aa h;clear h;obtain ⟨w2,a9,a0,l⟩:=DE (p:=k) (w:=wr.alloc (.cells #[.string t.name.d9,.int .i64 t.name.f8,.slice r u s,.int .i64 t.f8,.slice B E C] 126)) (m.o.d7 ((Ab.refl (fun _=>False) wr).alloc _) (fun q=>q)) L (by omega) (by omega);go_wp2;go_round
     case rel=>
      refine ⟨k+1,_,by omega,by go_num,Aa a0,Aa ?_,Aa ?_⟩
      ·have c:=n.o.alloc (.cells #[.string t.name.d9,.int .i64 t.name.f8,.slice r u s,.int .i64 t.f8,.slice B E C] 126);exact ⟨l.os.trans c.os,l.tape.trans c.tape,l.output.trans c.output,Nat.le_trans c.size l.size,fun j K _=>(l.block j (Nat.lt_of_lt_of_le K c.size) (by omega)).trans (c.block j K (fun q=>q))⟩
      ·have:=P.o;rw [if_neg (by rw [o.o];decide)] at this;exact this.symm.trans A.o
     case measure=>simp [intOf];omega
  ·have e:k=a.length:=by omega
   subst e;have a2:D=V:=by have:=A.o;simpa [AN] using this
   subst a2;go_wp2;go_ret;exact ⟨_,rfl,by omega,m.o,n.o⟩
theorem Fg(b d)(U:Nat→Prop)(q a K I m n F c w)(k:BA b q K (.map (some m)) I c w)(v:AS m n F w)(i:Cy d U w q a)(C:FH F a.length)(R:a.length≤4001):
 Calls Tryz.prog 40 #[.pointer (some ⟨b,0,none⟩)] w fun e L=>e=.returned (.bool (Maps.has F (AT ⟨#[109,97,105,110]⟩) && EP a (Bf F ⟨#[109,97,105,110]⟩)==0))∧Ab (fun _=>False) w L:=by
 have A:=Aj k 0;have J:=Aj k 2;simp only [Ni,Ng,Nh] at A J;have T:=Ad k;obtain ⟨z,y,l,_⟩:=C6 (w:=w) (s:=⟨#[109,97,105,110]⟩) v (by decide);clear k v;cases f:Maps.has F (AT ⟨#[109,97,105,110]⟩) with
 | false=> rw [f] at y;clear f i A;go_enter Tryz.func40,Tryz.ntmps40;go_wp2;go_ret;exact ⟨by simp,Ab.refl _ _⟩
 | true=>
   rw [f] at y;obtain ⟨j,u,o⟩:=C _ f;have H:z=(j:Int):=by rw [o] at l;simpa using l.symm
   have t:Bf F ⟨#[109,97,105,110]⟩=j:=by simp [Bf,o]
   have x:EP a j=a[j].l8.length:=by simp [EP,u]
   subst H;have E:=i;obtain ⟨Q,h,_⟩:=E;obtain ⟨W,Y,X,rfl⟩:=Af h;obtain ⟨g,rfl⟩:=Ay h (by omega);have G:=Ap h;subst G;have S:=(h.lt g rfl).2;obtain ⟨P,V,r,p,_,_⟩:=i.get u;obtain ⟨M,O,N,rfl⟩:=Af p;have D:=Ap p;subst D;have B:=r 2 (by omega);simp only [Ia,Ni,Ng,Nh] at B;rw [t,x];clear h p r i l o t x f;go_enter Tryz.func40,Tryz.ntmps40;go_wp2;go_ret;exact ⟨by simp [KP],Ab.refl _ _⟩
structure Ck(b d:Nat)(U:Nat→Prop)(fs:Value)(fns:List TF)(stop:Int)(mf nf m n:Nat)(F D:DataW Unit)(c:CS)(w:World):Prop where
 s9:BA b fs stop (.map (some mf)) (.map (some m)) c w
 r6:AS m n D w
 t9:AS mf nf F w
 rows:Cy d U w fs fns
 fin:FH F fns.length
 Mz:fns.length≤4001
 ne:m≠mf
 ub:¬U b
 um:¬U m
theorem Ck.d7{b d}{U:Nat→Prop}{g f j e i m n F D c w l}{X:Nat→Prop}(h:Ck b d U g f j e i m n F D c w)(a:Ab X w l)(o:¬X b)(p:¬X m)(q:¬X e)(r:∀k,U k→¬X k):Ck b d U g f j e i m n F D c l:=
 ⟨Aq.d7 h.s9 a o,h.r6.d7 a p,h.t9.d7 a q,h.rows.d7 a r,h.fin,h.Mz,h.ne,h.ub,h.um⟩
theorem Ck.quiet{b d}{U:Nat→Prop}{e a i f g m n F D c w j}(h:Ck b d U e a i f g m n F D c w)(k:Ab (fun _=>False) w j):Ck b d U e a i f g m n F D c j:=
 h.d7 k (fun q=>q) (fun q=>q) (fun q=>q) (fun _ _ q=>q)
theorem Ck.step{b d}{U:Nat→Prop}{a l g f o m n F D c j w i}(h:Ck b d U a l g f o m n F D c w)(p:BA b a g (.map (some f)) (.map (some m)) j i)(e:Ab (fun k=>k=b) w i):Ck b d U a l g f o m n F D j i:=
 ⟨p,h.r6.d7 e (h.r6.ne h.s9),h.t9.d7 e (h.t9.ne h.s9),h.rows.d7 e (fun _ r q=>h.ub (q▸r)),h.fin,h.Mz,h.ne,h.ub,h.um⟩
theorem Ck.MM{b d}{U:Nat→Prop}{f o i g t m n s F D j c l w a}(h:Ck b d U f o i g t m n F D c w)(u:BA b f i (.map (some g)) (.map (some m)) l a)(v:AS m s j a)(r:Ab (fun k=>k=b∨k=m) w a):Ck b d U f o i g t m s F j l a:=
 ⟨u,v,h.t9.d7 r (fun q=>q.elim (h.t9.ne h.s9) (fun e=>h.ne e.symm)),h.rows.d7 r (fun _ p q=>q.elim (fun e=>h.ub (e▸p)) (fun e=>h.um (e▸p))),h.fin,h.Mz,h.ne,h.ub,h.um⟩
structure Mh(s:VS):Prop where
 tg:s.tg.d9.size≤4000
 tp:s.tg.f8≤4000
 sr:s.sr.d9.size≤4000
 ar:∀t,t∈s.args→t.d9.size≤4000
 al:s.args.length≤4000
def C7(F:DataW Unit)(a:List TF)(s:VS)(x:DataW Unit×CS):DataW Unit×CS:=
 match s.kind with
 | 0=>(Ed x.1 s.tg,CZ x.1 s.tg x.2)
 | 1=>(x.1,Bp x.1 s.tg x.2)
 | 4=>(x.1,Bp F s.sr (Bp x.1 s.tg x.2))
 | 7=>(x.1,Dn x.1 s.args (CF F a s.sr s.args.length (Bp x.1 s.tg x.2)))
 | 8=>(x.1,Dn x.1 s.args (Bp x.1 s.sr (Bp x.1 s.tg x.2)))
 | 10=>(x.1,Bp x.1 s.sr x.2)
 | _=>(x.1,Bp x.1 s.sr (Bp x.1 s.tg x.2))
structure KS(b d:Nat)(U:Nat→Prop)(fs:Value)(fns:List TF)(stop:Int)(mf nf m n:Nat)(F D:DataW Unit)(sb:Nat)(sc:Array Value)(av:Value)(ar:List PT)(w0:World)(c:CS)(w:World):Prop where
 k:Ck b d U fs fns stop mf nf m n F D c w
 s:Aq sb sc 144 w
 o:Ab (fun k=>k=b∨k=m) w0 w
 a:w.ownsRow 0 120 2 av ar.length (Ba ar)
 u:∀k,av.ownBlock=some k→k≠b
 e:sb≠b
theorem KS.step{b d}{U:Nat→Prop}{e p g f r m n F D s t l j u w i c o}(h:KS b d U e p g f r m n F D s t l j u c w)(v:BA b e g (.map (some f)) (.map (some m)) o i)(a:Ab (fun k=>k=b) w i):KS b d U e p g f r m n F D s t l j u o i:=
 ⟨h.k.step v a,Aq.d7 h.s a h.e,h.o.trans (a.mono (fun _ _ q=>.inl q)),Ac h.a a h.u,h.u,h.e⟩
theorem Aq.c8{b:Nat}{l:List Value}{t:TypeId}{w:World}(h:Aq b l.toArray t w):w.cell? ⟨b,0,none⟩=l[0]? ∧w.cell? ⟨b,1,none⟩=l[1]? ∧w.cell? ⟨b,2,none⟩=l[2]? ∧w.cell? ⟨b,3,none⟩=l[3]? ∧w.cell? ⟨b,4,none⟩=l[4]? ∧w.cell? ⟨b,5,none⟩=l[5]? ∧w.cell? ⟨b,6,none⟩=l[6]? ∧w.cell? ⟨b,7,none⟩=l[7]? :=by refine ⟨?_,?_,?_,?_,?_,?_,?_,?_⟩<;>rw [h.cell]<;>simp
theorem Jz(b d a4:Nat)(U:Nat→Prop)(x:Value)(H:List TF)(z:Int)(y O m n:Nat)(F D:DataW Unit)(c:CS)(s:VS)(T bv:Value)(w:World)(K:Ck b d U x H z y O m n F D c w)(I:Mh s)(hn:n≤4000)(M:w.ownsRow 0 120 2 T s.args.length (Ba s.args))(hu:∀k,T.ownBlock=some k→U k)(a5:∃P R Q,bv=.slice P R Q)(Y:s.kind≤10):
 Calls Tryz.prog 68 #[.pointer (some ⟨b,0,none⟩),.agg (DX s T bv),.int .i64 a4] w fun e w'=>e=.returned (.tuple #[])∧(∃n',n'≤n+1∧Ck b d U x H z y O m n' F (C7 F H s (D,c)).1 (C7 F H s (D,c)).2 w')∧Ab (fun k=>k=b∨k=m) w w':=by
 obtain ⟨i,J,C,a0,E⟩:=s;simp only at Y M;obtain ⟨S,l1,V,rfl⟩:=Af M;have a7:=Ap M;subst a7;obtain ⟨P,R,Q,rfl⟩:=a5;have lb:=Ad K.s9;have Z:=I.tg;have a3:=I.tp;have N:=I.sr;have X:=I.ar;have W:=I.al;simp only at Z a3 N X W;have A:Nj (KS b d U x H z y O m n F D w.heap.size #[.int .i64 i,.string J.d9,.int .i64 J.f8,.string C.d9,.int .i64 C.f8,.int .i64 a0,.slice S E.length V,.slice P R Q] (.slice S E.length V) E w c (w.alloc (.cells #[.int .i64 i,.string J.d9,.int .i64 J.f8,.string C.d9,.int .i64 C.f8,.int .i64 a0,.slice S E.length V,.slice P R Q] 144))):=
  ⟨K.quiet ((Ab.refl (fun _=>False) w).alloc _),Aq.new _ _ _,(Ab.refl _ w).alloc _,Ac M ((Ab.refl (fun _=>False) w).alloc _) (fun _ _ q=>q),fun k Y e=>K.ub (e▸hu k Y),by omega⟩
 clear K M I;have a6:i=0∨i=1∨i=2∨i=3∨i=4∨i=5∨i=6∨i=7∨i=8∨i=9∨i=10:=by omega
 rcases a6 with rfl | rfl | rfl | rfl | rfl | rfl | rfl | rfl | rfl | rfl | rfl
 all_goals
  unfold DX C7;simp only;go_enter Tryz.func68,Tryz.ntmps68
 ·go_wp2_with (go_at_call 57;refine (Fe b x z (.map (some y)) m n D _ J _ A.o.k.s9 A.o.k.r6 Z a3 hn).mono ?_);rintro e G ⟨rfl,g,hv,a⟩;have f:=Aa (A.o.k.MM g hv a);have O1:=Aa (A.o.o.trans a);clear g hv a;go_wp2;go_end0;exact ⟨rfl,⟨n+1,by omega,f.o⟩,O1.o⟩
 rotate_right
 ·go_wp2_with (go_at_call 74;refine (CU b x z (.map (some y)) m n D _ C _ A.o.k.s9 A.o.k.r6 N).mono ?_);rintro e G ⟨rfl,g,a⟩;have f:=Aa (A.o.step g a);obtain ⟨j,l,o,p,r,t,u,v⟩:=f.o.s.c8;simp only [Ng,Nh] at j l o p r t u v;have L:=f.o.o.size;clear g a;go_wp2;go_end0;exact ⟨rfl,⟨n,by omega,f.o.k⟩,f.o.o⟩
 all_goals
  go_wp2_with (go_at_call 74;refine (CU b x z (.map (some y)) m n D _ J _ A.o.k.s9 A.o.k.r6 Z).mono ?_);rintro e G ⟨rfl,g,a⟩;have f:=Aa (A.o.step g a);obtain ⟨j,l,o,p,r,t,u,v⟩:=f.o.s.c8;simp only [Ng,Nh] at j l o p r t u v;have L:=f.o.o.size;clear g a
 ·go_wp2;go_end0;exact ⟨rfl,⟨n,by omega,f.o.k⟩,f.o.o⟩
 rotate_left 2
 ·go_wp2_with (go_at_call 75;refine (E8 b x z (.map (some m)) y O F _ C _ f.o.k.s9 f.o.k.t9 N).mono ?_);rintro e G ⟨rfl,g,a⟩;have h:=Aa (f.o.step g a);obtain ⟨j,l,o,p,r,t,u,v⟩:=h.o.s.c8;simp only [Ng,Nh] at j l o p r t u v;have L:=h.o.o.size;clear g a;go_wp2;go_end0;exact ⟨rfl,⟨n,by omega,h.o.k⟩,h.o.o⟩
 rotate_left 2
 ·go_wp2_with (go_at_call 76;refine (I7 b d U x H z (.map (some m)) y O F _ C E.length _ f.o.k.s9 f.o.k.t9 f.o.k.rows f.o.k.fin N f.o.k.Mz).mono ?_);rintro e G ⟨rfl,g,a⟩;have h:=Aa (f.o.step g a);obtain ⟨j,l,o,p,r,t,u,v⟩:=h.o.s.c8;simp only [Ng,Nh] at j l o p r t u v;have L:=h.o.o.size;clear g a;go_wp2_with (go_at_call 77;refine (Du b x z (.map (some y)) m n D _ E _ _ h.o.k.s9 h.o.k.r6 h.o.a X W).mono ?_);rintro e G ⟨rfl,g,a⟩;have B:=Aa (h.o.step g a);obtain ⟨j,l,o,p,r,t,u,v⟩:=B.o.s.c8;simp only [Ng,Nh] at j l o p r t u v;have L:=B.o.o.size;clear g a;go_wp2;go_end0;exact ⟨rfl,⟨n,by omega,B.o.k⟩,B.o.o⟩
 all_goals
  go_wp2_with (go_at_call 74;refine (CU b x z (.map (some y)) m n D _ C _ f.o.k.s9 f.o.k.r6 N).mono ?_);rintro e G ⟨rfl,g,a⟩;have h:=Aa (f.o.step g a);obtain ⟨j,l,o,p,r,t,u,v⟩:=h.o.s.c8;simp only [Ng,Nh] at j l o p r t u v;have L:=h.o.o.size;clear g a
 ·go_wp2_with (go_at_call 77;refine (Du b x z (.map (some y)) m n D _ E _ _ h.o.k.s9 h.o.k.r6 h.o.a X W).mono ?_);rintro e G ⟨rfl,g,a⟩;have B:=Aa (h.o.step g a);obtain ⟨j,l,o,p,r,t,u,v⟩:=B.o.s.c8;simp only [Ng,Nh] at j l o p r t u v;have L:=B.o.o.size;clear g a;go_wp2;go_end0;exact ⟨rfl,⟨n,by omega,B.o.k⟩,B.o.o⟩
 all_goals
  go_wp2;go_end0;exact ⟨rfl,⟨n,by omega,h.o.k⟩,h.o.o⟩
def FQ(F:DataW Unit)(b:List TF):Nat→Nat→TS→DataW Unit×CS→DataW Unit×CS
 | 0,_,_,x=>x
 | d+1,a,.mk s c,x=>
   if s.kind=11∨s.kind=12 then c.foldl (fun x q=>q.2.foldl (fun x t=>FQ F b d (a+1) t x) (x.1,if 6<a+1 then Bb 4 q.1 x.2 else x.2)) x
   else C7 F b s x
def H8(F:DataW Unit)(b:List TF)(d a:Nat)(q:Nat×List TS)(x:DataW Unit×CS):DataW Unit×CS:=
 q.2.foldl (fun x t=>FQ F b d a t x) (x.1,if 6<a then Bb 4 q.1 x.2 else x.2)
def Bl:Nat→TS→Nat
 | 0,_=>0
 | d+1,.mk _ a=>1+(a.map (fun q=>(q.2.map (Bl d)).sum)).sum
def LT:Nat→TS→Prop
 | 0,_=>False
 | d+1,.mk s a=>Mh s∧s.kind≤12∧a.length≤4000∧∀q,q∈a→q.2.length≤4000∧∀t,t∈q.2→LT d t
def Kt(d:Nat):Prop:=∀(b h a:Nat) (U:Nat→Prop) (i:Value) (f:List TF) (p:Int) (j o m n:Nat) (F D:DataW Unit) (c:CS) (t:TS) (g:Array Value) (w:World),
 Ck b h U i f p j o m n F D c w→BB d U w t g.toList→LT d t→n+Bl d t≤4000→a+d≤4001→
 Calls Tryz.prog 68 #[.pointer (some ⟨b,0,none⟩),.agg g,.int .i64 a] w fun e q=>e=.returned (.tuple #[])∧(∃l,l≤n+Bl d t∧Ck b h U i f p j o m l F (FQ F f d a t (D,c)).1 (FQ F f d a t (D,c)).2 q)∧Ab (fun k=>k=b∨k=m) w q
theorem CI.get{d}{U:Nat→Prop}{w g l c q}(h:CI d U w (.slice (some ⟨g,0,none⟩) l c) q){j}(B:j<q.length):
 ∃(s:VS) (a:Option Addr) (m f:Nat) (b:Option Addr) (n k:Nat),(∀i,i<8→w.cell? ⟨g,j*8+i,none⟩=(DX s (.slice a m f) (.slice b n k))[i]?)∧BB d U w q[j] (DX s (.slice a m f) (.slice b n k)).toList:=by
 obtain ⟨p,y,O,P,z⟩:=h;have F:=Ap y;subst F;have u:j<p.length:=by omega
 have v:∀i (o:i<q.length) (A:i<p.length),∃(s:VS) (a:Option Addr) (m f:Nat) (b:Option Addr) (n k:Nat),p[i]=(DX s (.slice a m f) (.slice b n k)).toList:=by
  intro i o A;have r:=z i o A;generalize p[i]=N at r;generalize q[i]=t at r;cases d with
  | zero=>exact r.elim
  | succ d=> obtain ⟨s,L⟩:=t;obtain ⟨J,M,K,e,H,_,I,_⟩:=r;obtain ⟨a,m,f,rfl⟩:=Af H;obtain ⟨b,n,k,rfl⟩:=Af I;exact ⟨s,a,m,f,b,n,k,e⟩
 have E:∀x,x∈p→x.length=8:=by intro x G;obtain ⟨i,o,rfl⟩:=List.mem_iff_getElem.1 G;obtain ⟨_,_,_,_,_,_,_,C⟩:=v i (by omega) o;rw [C];rfl
 obtain ⟨s,a,m,f,b,n,k,e⟩:=v j B u;refine ⟨s,a,m,f,b,n,k,fun i o=>?_,by rw [←e];exact z j B u⟩;have D:=y.cellAt (j*8+i) (by omega);rw [D,CG E u o,e];simp
theorem C3{A B:Type}(f:B→A→B)(l:List A)(k:Nat)(h:k<l.length)(x:B):(l.drop k).foldl f x=(l.drop (k+1)).foldl f (f x l[k]):=by rw [List.drop_eq_getElem_cons h];rfl
theorem IQ(f:TS→Nat)(l:List TS)(k:Nat)(h:k<l.length):((l.drop k).map f).sum=f l[k]+((l.drop (k+1)).map f).sum:=by rw [List.drop_eq_getElem_cons h,List.map_cons,List.sum_cons]
theorem Ej(d:Nat)(hS:Kt d)(b J h p:Nat)(U:Nat→Prop)(B:Value)(j:List TF)(H:Int)(G M m n:Nat)(F D:DataW Unit)(c:CS)(a:List TS)(sv:Value)(w:World)
 (K:Ck b J U B j H G M m n F D c w)(hR:CI d U w sv a)(hO:∀t,t∈a→LT d t)(hn:n+(a.map (Bl d)).sum≤4000)(hd:h+d≤4001)(hl:a.length≤4000):
 Calls Tryz.prog 58 #[.pointer (some ⟨b,0,none⟩),.agg #[.int .i64 p,sv],.int .i64 h] w fun e w'=>e=.returned (.tuple #[])∧(∃n',n'≤n+(a.map (Bl d)).sum∧Ck b J U B j H G M m n' F (H8 F j d h (p,a) (D,c)).1 (H8 F j d h (p,a) (D,c)).2 w')∧Ab (fun k=>k=b∨k=m) w w':=by
 have X:=hR;obtain ⟨b4,v,_⟩:=X;obtain ⟨va,vl,vc,rfl⟩:=Af v;have b3:=Ap v;subst b3;have lb:=Ad K.s9;have O:=Aa (K.quiet ((Ab.refl (fun _=>False) w).alloc (.cells #[.int .i64 p,.slice va a.length vc] 124)));have S0:=Aa (Aq.new w #[.int .i64 p,.slice va a.length vc] 124);have O0:=Aa ((Ab.refl (fun k=>k=b∨k=m) w).alloc (.cells #[.int .i64 p,.slice va a.length vc] 124));have R0:=Aa hR;have HS:=Aa hS;clear K hR v hS;by_cases h6:6<h
 ·have a9:(6:Int)<(h:Int):=by omega
  obtain ⟨l,L⟩:∃l,Bb 4 p c=l:=⟨_,rfl⟩;generalize T:H8 F j d h (p,a) (D,c)=V;have N:Nj ((a.drop 0).foldl (fun x t=>FQ F j d h t x) (D,l)=V):=by rw [←T,H8,if_pos h6,L];rfl
  have C1:=Aa L;clear T L h6;go_enter Tryz.func58,Tryz.ntmps58;go_wp2_with (go_at_call 41;refine (Bh b 4 p B H (.map (some G)) (.map (some m)) c _ O.o.s9).mono ?_);rw [C1.o];rintro e W ⟨rfl,kw,ow⟩;have P:=Aa (O.o.step kw ow);have I:=Aa (O0.o.trans (ow.mono (fun _ _ q=>.inl q)));have s0:=Aj (Aq.d7 S0.o ow (by omega)) 1;simp only [Ni,Ng,Nh] at s0;have z1:=I.o.size;clear kw ow O O0 S0;go_wp2;go_loopw [17] (fun i wr=>∃(k u:Nat) (o:DataW Unit) (r:CS),k≤a.length∧i=.int .i64 k∧u+((a.drop k).map (Bl d)).sum≤n+(a.map (Bl d)).sum∧Nj (Ck b J U B j H G M m u F o r wr)∧Nj (Ab (fun k=>k=b∨k=m) w wr)∧Nj ((a.drop k).foldl (fun x t=>FQ F j d h t x) (o,r)=V)) (fun i _=>a.length-(intOf i).toNat)
  case atStart=>exact ⟨0,n,D,l,by omega,rfl,by simp,P,I,N⟩
  case round=>
   obtain ⟨k,u,o,r,b0,rfl,a4,y,z,a0⟩:=hrel;clear N P I;by_cases E:k<a.length
   ·have C:CI d U wr (.slice va a.length vc) a:=CI.d7 R0.o z.o (fun _ Y q=>q.elim (fun e=>y.o.ub (e▸Y)) (fun e=>y.o.um (e▸Y)));have X:=C;obtain ⟨a8,v,_⟩:=X;obtain ⟨g,rfl⟩:=Ay v (by omega);have lg:=(v.lt g rfl).2;obtain ⟨s,Q,l1,l,R,l2,S,f,Z⟩:=C.get E;have f0:=f 0 (by omega);have f1:=f 1 (by omega);have f2:=f 2 (by omega);have f3:=f 3 (by omega);have f4:=f 4 (by omega);have f5:=f 5 (by omega);have f6:=f 6 (by omega);have f7:=f 7 (by omega);simp only [DX,Ni,Ng,Nh,Nat.add_zero] at f0 f1 f2 f3 f4 f5 f6 f7;have a6:=Aa (C3 (fun x t=>FQ F j d h t x) a k E (o,r));have b2:=IQ (Bl d) a k E;have a5:=Aa (hO a[k] (List.getElem_mem _));have a3:=Aa Z;clear v f C Z;generalize a[k]=t at*;have l0:=z.o.size;have A:=Aa ((Ab.refl (fun _=>False) wr).alloc (.cells #[.int .i64 s.kind,.string s.tg.d9,.int .i64 s.tg.f8,.string s.sr.d9,.int .i64 s.sr.f8,.int .i64 s.field,.slice Q l1 l,.slice R l2 S] 144));go_wp2_with (go_at_call 68;refine (HS.o b J h U B j H G M m u F o r t #[.int .i64 s.kind,.string s.tg.d9,.int .i64 s.tg.f8,.string s.sr.d9,.int .i64 s.sr.f8,.int .i64 s.field,.slice Q l1 l,.slice R l2 S] _ (y.o.quiet A.o) (BB.d7 a3.o A.o (fun _ _ q=>q)) a5.o (by omega) hd).mono ?_;rintro e w2 ⟨rfl,⟨n2,b1,k2⟩,o2⟩);go_round
    case rel=>exact ⟨k+1,n2,_,_,by omega,by go_num,by omega,Aa k2,Aa (z.o.trans ((A.o.mono (fun _ _ q=>q.elim)).trans o2)),Aa (a6.o.symm.trans a0.o)⟩
    case measure=>simp [intOf];omega
   ·have e:k=a.length:=by omega
    subst e;have a7:(o,r)=V:=by have:=a0.o;simpa using this
    subst a7;go_wp2;go_end0;simp at a4;exact ⟨rfl,⟨u,by omega,y.o⟩,z.o⟩
 ·have a9:¬(6:Int)<(h:Int):=by omega
  obtain ⟨l,L⟩:∃l,c=l:=⟨_,rfl⟩;generalize T:H8 F j d h (p,a) (D,c)=V;have N:Nj ((a.drop 0).foldl (fun x t=>FQ F j d h t x) (D,l)=V):=by rw [←T,H8,if_neg h6,L];rfl
  subst L;clear T h6;go_enter Tryz.func58,Tryz.ntmps58;go_wp2;have P:=O;have I:=O0;clear O O0 S0;go_loopw [17] (fun i wr=>∃(k u:Nat) (o:DataW Unit) (r:CS),k≤a.length∧i=.int .i64 k∧u+((a.drop k).map (Bl d)).sum≤n+(a.map (Bl d)).sum∧Nj (Ck b J U B j H G M m u F o r wr)∧Nj (Ab (fun k=>k=b∨k=m) w wr)∧Nj ((a.drop k).foldl (fun x t=>FQ F j d h t x) (o,r)=V)) (fun i _=>a.length-(intOf i).toNat)
  case atStart=>exact ⟨0,n,D,c,by omega,rfl,by simp,P,I,N⟩
  case round=>
   obtain ⟨k,u,o,r,b0,rfl,a4,y,z,a0⟩:=hrel;clear N P I;by_cases E:k<a.length
   ·have C:CI d U wr (.slice va a.length vc) a:=CI.d7 R0.o z.o (fun _ Y q=>q.elim (fun e=>y.o.ub (e▸Y)) (fun e=>y.o.um (e▸Y)));have X:=C;obtain ⟨a8,v,_⟩:=X;obtain ⟨g,rfl⟩:=Ay v (by omega);have lg:=(v.lt g rfl).2;obtain ⟨s,Q,l1,l,R,l2,S,f,Z⟩:=C.get E;have f0:=f 0 (by omega);have f1:=f 1 (by omega);have f2:=f 2 (by omega);have f3:=f 3 (by omega);have f4:=f 4 (by omega);have f5:=f 5 (by omega);have f6:=f 6 (by omega);have f7:=f 7 (by omega);simp only [DX,Ni,Ng,Nh,Nat.add_zero] at f0 f1 f2 f3 f4 f5 f6 f7;have a6:=Aa (C3 (fun x t=>FQ F j d h t x) a k E (o,r));have b2:=IQ (Bl d) a k E;have a5:=Aa (hO a[k] (List.getElem_mem _));have a3:=Aa Z;clear v f C Z;generalize a[k]=t at*;have l0:=z.o.size;have A:=Aa ((Ab.refl (fun _=>False) wr).alloc (.cells #[.int .i64 s.kind,.string s.tg.d9,.int .i64 s.tg.f8,.string s.sr.d9,.int .i64 s.sr.f8,.int .i64 s.field,.slice Q l1 l,.slice R l2 S] 144));go_wp2_with (go_at_call 68;refine (HS.o b J h U B j H G M m u F o r t #[.int .i64 s.kind,.string s.tg.d9,.int .i64 s.tg.f8,.string s.sr.d9,.int .i64 s.sr.f8,.int .i64 s.field,.slice Q l1 l,.slice R l2 S] _ (y.o.quiet A.o) (BB.d7 a3.o A.o (fun _ _ q=>q)) a5.o (by omega) hd).mono ?_;rintro e w2 ⟨rfl,⟨n2,b1,k2⟩,o2⟩);go_round
    case rel=>exact ⟨k+1,n2,_,_,by omega,by go_num,by omega,Aa k2,Aa (z.o.trans ((A.o.mono (fun _ _ q=>q.elim)).trans o2)),Aa (a6.o.symm.trans a0.o)⟩
    case measure=>simp [intOf];omega
   ·have e:k=a.length:=by omega
    subst e;have a7:(o,r)=V:=by have:=a0.o;simpa using this
    subst a7;go_wp2;go_end0;simp at a4;exact ⟨rfl,⟨u,by omega,y.o⟩,z.o⟩
def Hr(d:Nat)(q:Nat×List TS):Nat:=(q.2.map (Bl d)).sum
theorem Hd(f:Nat×List TS→Nat)(l:List (Nat×List TS))(k:Nat)(h:k<l.length):((l.drop k).map f).sum=f l[k]+((l.drop (k+1)).map f).sum:=by rw [List.drop_eq_getElem_cons h,List.map_cons,List.sum_cons]
theorem Ht(d:Nat)(hS:Kt d)(b H f:Nat)(U:Nat→Prop)(I:Value)(h:List TF)(M:Int)(J L m n:Nat)(F D:DataW Unit)(c:CS)(s:VS)(a:List (Nat×List TS))(cs:Array Value)(w:World)
 (K:Ck b H U I h M J L m n F D c w)(hT:BB (d+1) U w (.mk s a) cs.toList)(hO:LT (d+1) (.mk s a))(hn:n+Bl (d+1) (.mk s a)≤4000)(hd:f+(d+1)≤4001)(S:s.kind=11∨s.kind=12):
 Calls Tryz.prog 68 #[.pointer (some ⟨b,0,none⟩),.agg cs,.int .i64 f] w fun e w'=>e=.returned (.tuple #[])∧(∃n',n'≤n+Bl (d+1) (.mk s a)∧Ck b H U I h M J L m n' F (a.foldl (fun x q=>H8 F h d (f+1) q x) (D,c)).1 (a.foldl (fun x q=>H8 F h d (f+1) q x) (D,c)).2 w')∧Ab (fun k=>k=b∨k=m) w w':=by
 obtain ⟨av,bv,a7,b0,ha,b3,a3,c3,a8,b1⟩:=hT;obtain ⟨ho,_,c4,b2⟩:=hO;obtain ⟨a1,l1,c1,rfl⟩:=Af ha;obtain ⟨a2,l2,c2,rfl⟩:=Af a3;have c0:=Ap a3;subst c0;have b4:cs=DX s (.slice a1 l1 c1) (.slice a2 a.length c2):=Array.ext' b0;subst b4;have a9:Bl (d+1) (.mk s a)=1+(a.map (Hr d)).sum:=rfl;rw [a9] at hn⊢;have lb:=Ad K.s9;have b6:∃kd:Nat,s.kind=kd:=⟨_,rfl⟩;generalize hV:a.foldl (fun x q=>H8 F h d (f+1) q x) (D,c)=V;have HV:Nj ((a.drop 0).foldl (fun x q=>H8 F h d (f+1) q x) (D,c)=V):=hV;have HS:=Aa hS;have HI:=Aa b1;have HB:=Aa a3;clear hV hS b1 b0 ha b3 a9 b6;rcases S with S | S
 ·have B:=Aa ((Ab.refl (fun _=>False) w).alloc (.cells #[.int .i64 11,.string s.tg.d9,.int .i64 s.tg.f8,.string s.sr.d9,.int .i64 s.sr.f8,.int .i64 s.field,.slice a1 l1 c1,.slice a2 a.length c2] 144));unfold DX;rw [S,show ((11:Nat):Int)=11 from rfl];go_enter Tryz.func68,Tryz.ntmps68;go_wp2;go_loopw [89] (fun i wr=>∃(k v:Nat) (l:DataW Unit) (o:CS),k≤a.length∧i=.int .i64 k∧v+((a.drop k).map (Hr d)).sum≤n+(1+(a.map (Hr d)).sum)∧Nj (Ck b H U I h M J L m v F l o wr)∧Nj (Ab (fun k=>k=b∨k=m) w wr)∧Nj ((a.drop k).foldl (fun x q=>H8 F h d (f+1) q x) (l,o)=V)) (fun i _=>a.length-(intOf i).toNat)
  case atStart=>exact ⟨0,n,D,c,by omega,rfl,by simp,Aa (K.quiet B.o),Aa (B.o.mono (fun _ _ q=>q.elim)),HV⟩
  case round=>
   obtain ⟨k,v,l,o,b7,rfl,a4,X,y,W⟩:=hrel;clear HV B;by_cases E:k<a.length
   ·have Q:∀j,U j→¬(j=b∨j=m):=fun _ z q=>q.elim (fun e=>K.ub (e▸z)) (fun e=>K.um (e▸z))
    have p:=Ac HB.o y.o (fun j z=>Q j (a8 j z));obtain ⟨sv,a0,e,r,Y,u,Z⟩:=HI.o k E (by omega);have hR:=Aa (CI.d7 (d:=d) (U:=U) (w:=w) (sv:=sv) (sts:=a[k].2) ⟨a0,r,Y,u,Z⟩ y.o Q);obtain ⟨sa,sl,sc,rfl⟩:=Af r;obtain ⟨g,rfl⟩:=Ay p (by omega);have lg:=(p.lt g rfl).2;have G:∀x,x∈a7→x.length=2:=by intro x hx;obtain ⟨i,hi,rfl⟩:=List.mem_iff_getElem.1 hx;obtain ⟨_,_,e',_⟩:=HI.o i (by omega) hi;rw [e'];rfl
    have O:=p.cellAt (k*2) (by omega);have P:=p.cellAt (k*2+1) (by omega);have C:=CG G (j:=k) (i:=0) (by omega) (by omega);have N:=CG G (j:=k) (i:=1) (by omega) (by omega);rw [Nat.add_zero] at C;rw [C,e] at O;rw [N,e] at P;simp only [Ng,Nh] at O P;have a5:=Aa (C3 (fun x q=>H8 F h d (f+1) q x) a k E (l,o));have b9:=Hd (Hr d) a k E;have T:=Aa (b2 a[k] (List.getElem_mem _));clear p r Z u e C N G Y;generalize a[k]=t at*;have l0:=y.o.size;have A:=Aa ((Ab.refl (fun _=>False) wr).alloc (.cells #[.int .i64 t.1,.slice sa sl sc] 124));have R:((f:Int)+1)=((f+1:Nat):Int):=by omega
    have b5:Hr d t=(t.2.map (Bl d)).sum:=rfl;have HD:=Aa R;clear R;go_wp2_with (go_at_call 58;rw [HD.o];refine (Ej d HS.o b H (f+1) t.1 U I h M J L m v F l o t.2 (.slice sa sl sc) _ (X.o.quiet A.o) (CI.d7 hR.o A.o (fun _ _ q=>q)) T.o.2 (by omega) (by omega) T.o.1).mono ?_;rintro e w2 ⟨rfl,⟨n2,b8,k2⟩,o2⟩);go_round
    case rel=>exact ⟨k+1,n2,_,_,by omega,by go_num,by omega,Aa k2,Aa (y.o.trans ((A.o.mono (fun _ _ q=>q.elim)).trans o2)),Aa (a5.o.symm.trans W.o)⟩
    case measure=>simp [intOf];omega
   ·have e:k=a.length:=by omega
    subst e;have a6:(l,o)=V:=by have:=W.o;simpa using this
    subst a6;go_wp2;go_end0;simp at a4;exact ⟨rfl,⟨v,by omega,X.o⟩,y.o⟩
 ·have B:=Aa ((Ab.refl (fun _=>False) w).alloc (.cells #[.int .i64 12,.string s.tg.d9,.int .i64 s.tg.f8,.string s.sr.d9,.int .i64 s.sr.f8,.int .i64 s.field,.slice a1 l1 c1,.slice a2 a.length c2] 144));unfold DX;rw [S,show ((12:Nat):Int)=12 from rfl];go_enter Tryz.func68,Tryz.ntmps68;go_wp2;go_loopw [89] (fun i wr=>∃(k v:Nat) (l:DataW Unit) (o:CS),k≤a.length∧i=.int .i64 k∧v+((a.drop k).map (Hr d)).sum≤n+(1+(a.map (Hr d)).sum)∧Nj (Ck b H U I h M J L m v F l o wr)∧Nj (Ab (fun k=>k=b∨k=m) w wr)∧Nj ((a.drop k).foldl (fun x q=>H8 F h d (f+1) q x) (l,o)=V)) (fun i _=>a.length-(intOf i).toNat)
  case atStart=>exact ⟨0,n,D,c,by omega,rfl,by simp,Aa (K.quiet B.o),Aa (B.o.mono (fun _ _ q=>q.elim)),HV⟩
  case round=>
   obtain ⟨k,v,l,o,b7,rfl,a4,X,y,W⟩:=hrel;clear HV B;by_cases E:k<a.length
   ·have Q:∀j,U j→¬(j=b∨j=m):=fun _ z q=>q.elim (fun e=>K.ub (e▸z)) (fun e=>K.um (e▸z))
    have p:=Ac HB.o y.o (fun j z=>Q j (a8 j z));obtain ⟨sv,a0,e,r,Y,u,Z⟩:=HI.o k E (by omega);have hR:=Aa (CI.d7 (d:=d) (U:=U) (w:=w) (sv:=sv) (sts:=a[k].2) ⟨a0,r,Y,u,Z⟩ y.o Q);obtain ⟨sa,sl,sc,rfl⟩:=Af r;obtain ⟨g,rfl⟩:=Ay p (by omega);have lg:=(p.lt g rfl).2;have G:∀x,x∈a7→x.length=2:=by intro x hx;obtain ⟨i,hi,rfl⟩:=List.mem_iff_getElem.1 hx;obtain ⟨_,_,e',_⟩:=HI.o i (by omega) hi;rw [e'];rfl
    have O:=p.cellAt (k*2) (by omega);have P:=p.cellAt (k*2+1) (by omega);have C:=CG G (j:=k) (i:=0) (by omega) (by omega);have N:=CG G (j:=k) (i:=1) (by omega) (by omega);rw [Nat.add_zero] at C;rw [C,e] at O;rw [N,e] at P;simp only [Ng,Nh] at O P;have a5:=Aa (C3 (fun x q=>H8 F h d (f+1) q x) a k E (l,o));have b9:=Hd (Hr d) a k E;have T:=Aa (b2 a[k] (List.getElem_mem _));clear p r Z u e C N G Y;generalize a[k]=t at*;have l0:=y.o.size;have A:=Aa ((Ab.refl (fun _=>False) wr).alloc (.cells #[.int .i64 t.1,.slice sa sl sc] 124));have R:((f:Int)+1)=((f+1:Nat):Int):=by omega
    have b5:Hr d t=(t.2.map (Bl d)).sum:=rfl;have HD:=Aa R;clear R;go_wp2_with (go_at_call 58;rw [HD.o];refine (Ej d HS.o b H (f+1) t.1 U I h M J L m v F l o t.2 (.slice sa sl sc) _ (X.o.quiet A.o) (CI.d7 hR.o A.o (fun _ _ q=>q)) T.o.2 (by omega) (by omega) T.o.1).mono ?_;rintro e w2 ⟨rfl,⟨n2,b8,k2⟩,o2⟩);go_round
    case rel=>exact ⟨k+1,n2,_,_,by omega,by go_num,by omega,Aa k2,Aa (y.o.trans ((A.o.mono (fun _ _ q=>q.elim)).trans o2)),Aa (a5.o.symm.trans W.o)⟩
    case measure=>simp [intOf];omega
   ·have e:k=a.length:=by omega
    subst e;have a6:(l,o)=V:=by have:=W.o;simpa using this
    subst a6;go_wp2;go_end0;simp at a4;exact ⟨rfl,⟨v,by omega,X.o⟩,y.o⟩
theorem GU:∀d,Kt d
 | 0=>fun _ _ _ _ _ _ _ _ _ _ _ _ _ _ _ _ _ _ h _ _ _=>h.elim
 | d+1=>by
   intro b u g U v f B z A m n F D c t r w K h i N M
   obtain ⟨s,a⟩:=t;by_cases j:s.kind=11∨s.kind=12
   ·have k:FQ F f (d+1) g (.mk s a) (D,c)=a.foldl (fun x q=>H8 F f d (g+1) q x) (D,c):=by simp only [FQ,if_pos j];rfl
    rw [k]
    exact Ht d (GU d) b u g U v f B z A m n F D c s a r w K h i N M j
   ·have k:FQ F f (d+1) g (.mk s a) (D,c)=C7 F f s (D,c):=by simp only [FQ,if_neg j]
    rw [k];have S:Bl (d+1) (.mk s a)=1+(a.map (fun q=>(q.2.map (Bl d)).sum)).sum:=rfl;obtain ⟨o,Q,P,J,G,H,I,_⟩:=h;obtain ⟨l,y,p,rfl⟩:=Af I;have L:r=DX s o (.slice l y p):=Array.ext' J;subst L;refine (Jz b u g U v f B z A m n F D c s o _ w K i.1 (by omega) G H ⟨l,y,p,rfl⟩ (by have:=i.2.1;omega)).mono ?_;rintro e T ⟨rfl,⟨O,R,C⟩,E⟩;exact ⟨rfl,⟨O,by omega,C⟩,E⟩
def JN(l:List PT)(x:DataW Unit×CS):DataW Unit×CS:=l.foldl (fun x t=>(Ed x.1 t,CZ x.1 t x.2)) x
theorem J5{m n N F w s}(h:AS m n F w)(g:FH F N)(k:s.size≤4000):
 (Instr.lookup 97 (.map (some m)) (.string s) false).run Tryz.prog w=.ok (.int .i64 (Bf F s:Nat)) w:=by
 obtain ⟨c,l,a,_⟩:=World.ownsMap.lookup_int h Ji Tryz.underlying97 Tryz.underlying3 (JR w) (Hu k);have i:c=((Bf F s:Nat):Int):=by
  cases d:Maps.has F (AT s) with
  | true=>
    obtain ⟨j,_,f⟩:=g s d;rw [f] at a;have e:(j:Int)=c:=by simpa using a
    rw [←e];simp [Bf,f]
  | false=>
    have b:=atKey_of_not_has d (.lit (.int .i64 0));rw [b] at a;have e:(0:Int)=c:=by simpa using a
    rw [←e];simp [Bf,b]
 rw [←i];exact l
end Go.Proofs.YtmaankfbhhbeoaaGreatDoor
