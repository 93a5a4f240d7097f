/- Part of the proof: ChA CkA CkB CkC CkD CkE CkF CkG. -/
import Derived.Test.YtaningfhibkemaaGreatDoorG08
import Derived.Maps.OwnSet
import Derived.StringKeys
set_option maxRecDepth 100000
set_option maxHeartbeats 20000000
namespace Go.Proofs.YtaningfhibkemaaGreatDoor
open Go.RowKit Go.Maps Go.Proofs.Tryz
theorem LU:Keyed prog 9:=string_keyed underlying9
theorem OI(w):(zeroValue 3).run prog w=.ok (.int .i64 0) w:=jW
structure CS where
 cI:Nat
 l7:Nat
def BO(f p:Nat)(c:CS):CS:=if c.cI=0 then⟨f,p⟩else c
def CL(b:Nat)(a:Value)(f:Int)(d e:Value)(c:CS)(w:World):Prop:=W b #[a,.int .i64 f,d,e,.int .i64 c.cI,.int .i64 c.l7] 176 w
def Bn(s:ByteArray):Lit:=.string s.data.toList
def Bh(b n:Nat)(a:DataW Unit)(w:World):Prop:=w.ownsMap prog 9 (plainElem prog 3) b n a
theorem Cj(b f p:Nat)(j:Value)(n:Int)(l m:Value)(c:CS)(w:World)(d:CL b j n l m c w):
 Calls prog 79 #[.pointer (some ⟨b,0,none⟩),.int .i64 f,.int .i64 p] w fun e o=>e=.returned (.tuple #[])/\CL b j n l m (BO f p c) o/\O (fun k=>k=b) w o:=by
 have r:=Ak d 4;have s:=Ak d 5;have t:=fun i=>Ay d i
 simp only[gH,gF,gG]at r s;have u:=Ae d;have h:=J d;clear d;by_cases a:c.cI=0
 .have g:BO f p c=⟨f,p⟩:=by simp[BO,a]
  rw[g];have q:((c.cI:Int)==0)=true:=by simp[a]
  clear g a;go_enter func79,ntmps79;go_wp2;go_end0;refine⟨rfl,?_,?_⟩
  .have:=(W.set (w:=w) h.o 4 (.int .i64 f)).set 5 (.int .i64 p);simpa[CL]using this
  .exact((O.refl _ _).t9 4 _).t9 5 _
 .have g:BO f p c=c:=by simp[BO,a]
  rw[g];have q:((c.cI:Int)==0)=false:=by simp[a]
  clear g a;go_enter func79,ntmps79;go_wp2;go_end0;exact⟨rfl,h.o,O.refl _ _⟩
theorem Jm{s}(a:s.size<=4000):keyOf prog 9 (.string s)=some (Bn s):=WideMaps.keyOf_string_mk underlying9 jZ
theorem Fc{m n b w s}(h:Bh m n b w)(e:s.size<=4000):
 ∃z:Int,(Instr.lookup 121 (.map (some m)) (.string s) true).run prog w=.ok (.tuple #[.int .i64 z,.bool (Maps.has b (Bn s))]) w/\b.atKey (Bn s) (.lit (.int .i64 0))=.lit (.int .i64 z)/\(Lit.int .i64 z).wf=true:=by
 obtain⟨v,j,f,g⟩:=World.ownsMap.look_ok h LU underlying121 (OI w) (plainElem_int underlying3 (a:=0) T) (Jm e);obtain⟨c,rfl,d,i⟩:=plainElem_int_inv underlying3 g;exact⟨c,f,congrArg Prod.fst d,i⟩
theorem Bh.d8{m n a}{X:Nat->Prop}{w c}(h:Bh m n a w)(f:O X w c)(g:¬X m):Bh m n a c:=by obtain⟨e,d,b,r⟩:=h;exact⟨e,d,by rw[f.block m (lt_of_block b) g];exact b,r⟩
theorem Bh.ne{m n b c w}(h:Bh m n c w){d t e}(a:w.heap[b]? =some (.cells d t e)):m≠b:=by obtain⟨i,g,f,r⟩:=h;rintro rfl;rw[f]at a;cases a
def Cx(a:DataW Unit)(t:PT)(c:CS):CS:=if Maps.has a (Bn t.d9)then c else BO 6 t.l7 c
theorem EJ(b h j i m n d c t w)(g:CL b h j i (.map (some m)) c w)(o:Bh m n d w)(r:t.d9.size<=4000):
 Calls prog 155 #[.pointer (some ⟨b,0,none⟩),J9 t] w fun e q=>e=.returned (.tuple #[])/\CL b h j i (.map (some m)) (Cx d t c) q/\O (fun k=>k=b) w q:=by
 have v:=Ak g 3;simp only[gH,gF,gG]at v;have x:=Ae g;obtain⟨z,p,_,_⟩:=Fc (w:=(w.alloc (.cells #[.string t.d9,.int .i64 t.l7] 126)).drew) (o.d8 (((O.refl kD w).alloc _).drew) id) r;have l:=J g;clear g o;unfold J9;cases a:Maps.has d (Bn t.d9)with
 |true=>
  rw[a]at p;have f:Cx d t c=c:=by simp[Cx,a]
  rw[f];clear f a;go_enter func155,ntmps155;go_wp2;go_region;go_wp2;go_end0;exact⟨rfl,l.o.d8 (((O.refl kD w).alloc _).drew) id,((O.refl _ w).alloc _).drew⟩
 |false=>
  rw[a]at p;have f:Cx d t c=BO 6 t.l7 c:=by simp[Cx,a]
  rw[f];clear f a;go_enter func155,ntmps155;go_wp2;go_region;go_wp2_with(go_at_call 79;refine(Cj b 6 t.l7 h j i (.map (some m)) c _ (l.o.d8 (((O.refl kD w).alloc _).drew) id)).mono ?_);rintro e y ⟨rfl,u,s⟩;go_wp2;go_end0;exact⟨rfl,u,(((O.refl _ w).alloc _).drew).trans s⟩
theorem J2(b h j i m n d c t w)(g:CL b h j (.map (some m)) i c w)(o:Bh m n d w)(r:t.d9.size<=4000):
 Calls prog 156 #[.pointer (some ⟨b,0,none⟩),J9 t] w fun e q=>e=.returned (.tuple #[])/\CL b h j (.map (some m)) i (Cx d t c) q/\O (fun k=>k=b) w q:=by
 have v:=Ak g 2;simp only[gH,gF,gG]at v;have x:=Ae g;obtain⟨z,p,_,_⟩:=Fc (w:=(w.alloc (.cells #[.string t.d9,.int .i64 t.l7] 126)).drew) (o.d8 (((O.refl kD w).alloc _).drew) id) r;have l:=J g;clear g o;unfold J9;cases a:Maps.has d (Bn t.d9)with
 |true=>
  rw[a]at p;have f:Cx d t c=c:=by simp[Cx,a]
  rw[f];clear f a;go_enter func156,ntmps156;go_wp2;go_region;go_wp2;go_end0;exact⟨rfl,l.o.d8 (((O.refl kD w).alloc _).drew) id,((O.refl _ w).alloc _).drew⟩
 |false=>
  rw[a]at p;have f:Cx d t c=BO 6 t.l7 c:=by simp[Cx,a]
  rw[f];clear f a;go_enter func156,ntmps156;go_wp2;go_region;go_wp2_with(go_at_call 79;refine(Cj b 6 t.l7 h j (.map (some m)) i c _ (l.o.d8 (((O.refl kD w).alloc _).drew) id)).mono ?_);rintro e y ⟨rfl,u,s⟩;go_wp2;go_end0;exact⟨rfl,u,(((O.refl _ w).alloc _).drew).trans s⟩
theorem ET{m n p:Nat}{b:DataW Unit}{w:World}{s:ByteArray}(h:Bh m n b w)(f:s.size<=4000)(l:p<=4000)(j:n<=4000):
 ∃a,(Instr.mapUpdate 121 (.map (some m)) (.string s) (.int .i64 p)).run prog w=.ok () a/\Bh m (n+1) (b.put (Bn s) (.lit (.int .i64 p))) a/\O (fun k=>k=m) w a:=by
 have i:(Lit.int .i64 (p:Int)).wf=true:=WalkArith.wf_i64 Z;obtain⟨a,g,c,d⟩:=World.ownsMap.store h LU underlying121 jZ (Jm f) (plainElem_int underlying3 i);exact⟨a,g,c,(O.refl _ w).grown d.grown (fun k e=>.inl (by cases e;rfl))⟩
def EZ(a:DataW Unit)(t:PT)(c:CS):CS:=
 let b:=if 12<=Maps.size a then BO 4 t.l7 c else c
 if Maps.has a (Bn t.d9)then BO 5 t.l7 b else b
def Ig(a:DataW Unit)(t:PT):DataW Unit:=a.put (Bn t.d9) (.lit (.int .i64 t.l7))
theorem Kp(b Q Y U m n g c t w)(hr:CL b Q Y U (.map (some m)) c w)(hm:Bh m n g w)(M:t.d9.size<=4000)(hp:t.l7<=4000)(hn:n<=4000):
 Calls prog 115 #[.pointer (some ⟨b,0,none⟩),J9 t] w fun e w'=>e=.returned (.tuple #[])/\CL b Q Y U (.map (some m)) (EZ g t c) w'/\Bh m (n+1) (Ig g t) w'/\O (fun k=>k=b\/k=m) w w':=by
 have r3:=Ak hr 3;simp only[gH,gF,gG]at r3;have lr:=Ae hr;have HR:=J hr;have HM:=J hm;clear hr hm;unfold J9;have K0:=J (HR.o.d8 ((O.refl kD w).alloc (.cells #[.string t.d9,.int .i64 t.l7] 126)) id);have N:=J (HM.o.d8 ((O.refl kD w).alloc (.cells #[.string t.d9,.int .i64 t.l7] 126)) id);have N0:=J (W.new w #[.string t.d9,.int .i64 t.l7] 126);have O0:=J ((O.refl (fun k=>k=b) w).alloc (.cells #[.string t.d9,.int .i64 t.l7] 126));have a1:=fun ty=>World.ownsMap.len N.o underlying121 ty
 by_cases hs:12<=Maps.size g
 .have a2:(12:Int)<=(Maps.size g:Int):=Z;obtain⟨l,L⟩:∃l,BO 4 t.l7 c=l:=⟨_,rfl⟩;have R:EZ g t c=if Maps.has g (Bn t.d9)then BO 5 t.l7 l else l:=by simp[EZ,hs,L]
  rw[R];have C1:=J L;clear R L hs;go_enter func115,ntmps115;go_wp2_with(go_at_call 79;refine(Cj b 4 t.l7 Q Y U (.map (some m)) c _ K0.o).mono ?_);rw[C1.o];rintro e a ⟨rfl,kw,ow⟩;have o:=J kw;have p:=J (Bh.d8 N.o ow (Bh.ne N.o K0.o));have r:=J (W.d8 N0.o ow Z);have P:=J (O0.o.trans ow);clear kw ow a1 r3;go_wp2;have G:=Ak o.o 3;have E:=Ak r.o 0;have F:=Ak r.o 1;simp only[gH,gF,gG]at G E F;obtain⟨z,s,_,_⟩:=Fc (w:=a.drew) (Bh.d8 p.o ((O.refl kD a).drew) id) M;cases f:Maps.has g (Bn t.d9)with
  |true=> rw[f]at s;have v:=J f;clear f;go_region;go_wp2_with(go_at_call 79;refine(Cj b 5 t.l7 Q Y U (.map (some m)) l _ (W.d8 o.o ((O.refl kD a).drew) id)).mono ?_);rintro e V ⟨rfl,S,X⟩;have u:O (fun k=>k=b) a V:=((O.refl _ a).drew).trans X;have d:=J S;have h:=J (Bh.d8 p.o u (Bh.ne p.o o.o));have i:=J (W.d8 r.o u Z);have x:=J (P.o.trans u);clear S X u s G E F;obtain⟨y,a0,A,B⟩:=ET (w:=V.drew) (Bh.d8 h.o ((O.refl kD V).drew) id) M hp hn;have K:=Ak d.o 3;have H:=Ak i.o 0;have I:=Ak i.o 1;simp only[gH,gF,gG]at K H I;go_wp2;go_region;go_end0;have j:O (fun k=>k=m) V y:=((O.refl _ V).drew).trans B;have C:=h.o.ne d.o;rw[jH v.o];exact⟨rfl,W.d8 d.o j (fun q=>C q.symm),A,(x.o.mono (fun _ _ q=>.inl q)).trans (j.mono (fun _ _ q=>.inr q))⟩
  |false=> rw[f]at s;have v:=J f;clear f;go_region;have d:=J (W.d8 o.o ((O.refl kD a).drew) id);have h:=J (Bh.d8 p.o ((O.refl kD a).drew) id);have i:=J (W.d8 r.o ((O.refl kD a).drew) id);have x:=J (P.o.drew);generalize hV:a.drew=V at*;clear s G E F hV;obtain⟨y,a0,A,B⟩:=ET (w:=V.drew) (Bh.d8 h.o ((O.refl kD V).drew) id) M hp hn;have K:=Ak d.o 3;have H:=Ak i.o 0;have I:=Ak i.o 1;simp only[gH,gF,gG]at K H I;go_wp2;go_region;go_end0;have j:O (fun k=>k=m) V y:=((O.refl _ V).drew).trans B;have C:=h.o.ne d.o;rw[jG (by rw[v.o];decide)];exact⟨rfl,W.d8 d.o j (fun q=>C q.symm),A,(x.o.mono (fun _ _ q=>.inl q)).trans (j.mono (fun _ _ q=>.inr q))⟩
 .have a2:¬(12:Int)<=(Maps.size g:Int):=Z;obtain⟨l,L⟩:∃l,c=l:=⟨_,rfl⟩;have R:EZ g t c=if Maps.has g (Bn t.d9)then BO 5 t.l7 l else l:=by simp[EZ,hs,L]
  rw[R];clear R hs;subst L;go_enter func115,ntmps115;go_wp2;generalize w.alloc (.cells #[.string t.d9,.int .i64 t.l7] 126)=a at*;have o:=K0;have p:=N;have r:=N0;have P:=O0;clear a1 r3 K0 N N0 O0;have G:=Ak o.o 3;have E:=Ak r.o 0;have F:=Ak r.o 1;simp only[gH,gF,gG]at G E F;obtain⟨z,s,_,_⟩:=Fc (w:=a.drew) (Bh.d8 p.o ((O.refl kD a).drew) id) M;cases f:Maps.has g (Bn t.d9)with
  |true=> rw[f]at s;have v:=J f;clear f;go_region;go_wp2_with(go_at_call 79;refine(Cj b 5 t.l7 Q Y U (.map (some m)) c _ (W.d8 o.o ((O.refl kD a).drew) id)).mono ?_);rintro e V ⟨rfl,S,X⟩;have u:O (fun k=>k=b) a V:=((O.refl _ a).drew).trans X;have d:=J S;have h:=J (Bh.d8 p.o u (Bh.ne p.o o.o));have i:=J (W.d8 r.o u Z);have x:=J (P.o.trans u);clear S X u s G E F;obtain⟨y,a0,A,B⟩:=ET (w:=V.drew) (Bh.d8 h.o ((O.refl kD V).drew) id) M hp hn;have K:=Ak d.o 3;have H:=Ak i.o 0;have I:=Ak i.o 1;simp only[gH,gF,gG]at K H I;go_wp2;go_region;go_end0;have j:O (fun k=>k=m) V y:=((O.refl _ V).drew).trans B;have C:=h.o.ne d.o;rw[jH v.o];exact⟨rfl,W.d8 d.o j (fun q=>C q.symm),A,(x.o.mono (fun _ _ q=>.inl q)).trans (j.mono (fun _ _ q=>.inr q))⟩
  |false=> rw[f]at s;have v:=J f;clear f;go_region;have d:=J (W.d8 o.o ((O.refl kD a).drew) id);have h:=J (Bh.d8 p.o ((O.refl kD a).drew) id);have i:=J (W.d8 r.o ((O.refl kD a).drew) id);have x:=J (P.o.drew);generalize hV:a.drew=V at*;clear s G E F hV;obtain⟨y,a0,A,B⟩:=ET (w:=V.drew) (Bh.d8 h.o ((O.refl kD V).drew) id) M hp hn;have K:=Ak d.o 3;have H:=Ak i.o 0;have I:=Ak i.o 1;simp only[gH,gF,gG]at K H I;go_wp2;go_region;go_end0;have j:O (fun k=>k=m) V y:=((O.refl _ V).drew).trans B;have C:=h.o.ne d.o;rw[jG (by rw[v.o];decide)];exact⟨rfl,W.d8 d.o j (fun q=>C q.symm),A,(x.o.mono (fun _ _ q=>.inl q)).trans (j.mono (fun _ _ q=>.inr q))⟩
def FJ(a:DataW Unit)(l:List PT)(c:CS):CS:=l.foldl (fun c t=>Cx a t c) c
theorem PW(a:DataW Unit)(l:List PT)(k:Nat)(h:k<l.length)(c:CS):FJ a (l.drop k) c=FJ a (l.drop (k+1)) (Cx a l[k] c):=by rw[gT h];rfl
theorem Fx{l i}(h:i<l.length):(BI l)[i*2]? =some (.string l[i].d9)/\(BI l)[i*2+1]? =some (.int .i64 l[i].l7):=by
 induction l generalizing i with
 |nil=>simp at h
 |cons t l a=>
  cases i with
  |zero=>simp[BI,Fw]
  |succ i=>
   have:=a (i:=i) (by simpa using h);simp only[BI,List.flatMap_cons,iX]at this⊢;have e:∀j,(Fw t++List.flatMap Fw l)[(i+1)*2+j]? =(List.flatMap Fw l)[i*2+j]? :=by intro j;rw[jI (by simp[Fw];omega)];congr 1;simp[Fw];omega
   exact⟨by rw[show(i+1)*2=(i+1)*2+0 from rfl,e];exact this.1,by rw[e];exact this.2⟩
theorem FZ(b o r q m n a c l z w)(j:CL b o r q (.map (some m)) c w)(u:Bh m n a w)(h:w.ownsRow 0 126 2 z l.length (BI l))(L:∀t,t∈l->t.d9.size<=4000)(Y:l.length<=4000):
 Calls prog 158 #[.pointer (some ⟨b,0,none⟩),z] w fun e F=>e=.returned (.tuple #[])/\CL b o r q (.map (some m)) (FJ a l c) F/\O (fun k=>k=b) w F:=by
 obtain⟨va,vl,vc,rfl⟩:=Ad h;have X:=Ag h;subst X;have lr:=Ae j;have P:=Am h j T;have N:=u.ne j;generalize A:FJ a l c=V;have x:D (FJ a (l.drop 0) c=V):=A;have v:=J j;have G:=J u;have y:=J h;clear A j u h;go_enter func158,ntmps158;go_wp2;go_loopw[8] (fun i wr=>∃(k:Nat) (d:CS),k<=l.length/\i=.int .i64 k/\D (CL b o r q (.map (some m)) d wr)/\D (O (fun k=>k=b) w wr)/\D (FJ a (l.drop k) d=V)) (fun i _=>l.length-(intOf i).toNat)
 case atStart=>exact⟨0,c,Z,rfl,v,J (O.refl _ _),x⟩
 case round=>
  obtain⟨k,d,a0,rfl,C,f,E⟩:=hrel;clear x v;by_cases B:k<l.length
  .obtain⟨g,rfl⟩:=Ap y.o Z;have p:=Ac y.o f.o P;have K:=J (Bh.d8 G.o f.o N);have s:=Fx B;have H:=p.cellAt (k*2) Z;have I:=p.cellAt (k*2+1) Z;rw[s.1]at H;rw[s.2]at I;have lg:=(p.lt g rfl).2;have S:=J (PW a l k B d);have M:=L l[k] (gQ _);generalize l[k]=t at*;have l1:=f.o.size;clear s p;go_wp2_with(go_at_call 155;refine(EJ b o r q m n a d t _ (W.d8 C.o ((O.refl kD _).alloc _) id) (Bh.d8 K.o ((O.refl kD _).alloc _) id) M).mono ?_;rintro e w2 ⟨rfl,R,Q⟩);go_round
   case rel=>exact⟨k+1,_,Z,by go_num,J R,J (f.o.trans (((O.refl _ _).alloc _).trans Q)),J (S.o.symm.trans E.o)⟩
   case measure=>simp[intOf];omega
  .have e:k=l.length:=Z;subst e;have U:d=V:=by have:=E.o;simpa[FJ]using this
   subst U;go_wp2;go_end0;exact⟨rfl,C.o,f.o⟩
theorem Cw:∀{a:List (List Value)} {s:Nat},(∀c,c∈a->c.length=s)->∀{j i:Nat} (b:j<a.length),i<s->a.flatten[j*s+i]? =a[j][i]?
 |[],_,_,_,_,b,_=>by simp at b
 |c::a,s,d,0,i,_,g=>by have f:=d c jY;simp only[Nat.zero_mul,iO,List.flatten_cons,iD];rw[jJ Z]
 |c::a,s,d,j+1,i,b,g=>by
  have f:=d c jY;have h:j<a.length:=by simpa using b
  have e:(j+1)*s+i=s+(j*s+i):=by rw[Nat.succ_mul];omega
  simp only[List.flatten_cons,iX];rw[e,jI Z,f,Nat.add_sub_cancel_left];exact Cw (fun x k=>d x (by simp[k])) h g
theorem DF.d8{d}{U:Nat->Prop}{w f sv a}{X:Nat->Prop}(h:DF d U w sv a)(c:O X w f)(e:∀k,U k->¬X k):DF d U f sv a:=by obtain⟨i,m,n,b,o⟩:=h;exact⟨i,Ac m c (fun k p=>e k (b k p)),n,b,fun j g l=>(o j g l).d8 c e⟩
theorem DF.get{d}{U:Nat->Prop}{w g l c a}(h:DF d U w (.slice (some ⟨g,0,none⟩) l c) a){j}(t:j<a.length):
 ∃(b f:Value),(∀i,i<5->w.cell? ⟨g,j*5+i,none⟩=(MN a[j] b f)[i]?)/\w.ownsRow 0 126 2 b a[j].u9.length (BI a[j].u9)/\(∀k,b.ownBlock=some k->U k)/\CU d U w f a[j].cF:=by
 obtain⟨n,o,C,E,p⟩:=h;have v:=Ag o;subst v;have q:j<n.length:=Z;obtain⟨b,f,e,z,A,B⟩:=p j t q;have u:∀x,x∈n->x.length=5:=by intro x y;obtain⟨i,m,rfl⟩:=iF.1 y;obtain⟨_,_,r,_⟩:=p i Z m;rw[r];rfl
 refine⟨b,f,fun i m=>?_,z,A,B⟩;have s:=o.cellAt (j*5+i) Z;rw[s,Cw u q m,e];simp
def Lf(F:DataW Unit)(N:Nat):Prop:=∀s,Maps.has F (Bn s)=true->∃j:Nat,j<N/\F.atKey (Bn s) (.lit (.int .i64 0))=.lit (.int .i64 j)
def Cg(F:DataW Unit)(s:ByteArray):Nat:=match F.atKey (Bn s) (.lit (.int .i64 0))with|.lit (.int _ z)=>z.toNat|_=>0
def Ju(a:List TF)(j:Nat):Nat:=(a[j]?.map (fun t=>t.u9.length)).getD 0
def Es(F:DataW Unit)(b:List TF)(t:PT)(a:Nat)(c:CS):CS:=
 if Maps.has F (Bn t.d9)then(if Ju b (Cg F t.d9)=a then c else BO 7 t.l7 c)else BO 6 t.l7 c
theorem Rc(b d:Nat)(U:Nat->Prop)(r:Value)(f:List TF)(A:Int)(y:Value)(m n:Nat)(F:DataW Unit)(c:CS)(t:PT)(a:Nat)(w:World)(p:CL b r A (.map (some m)) y c w)(L:Bh m n F w)(u:DF d U w r f)(Y:Lf F f.length)(hl:t.d9.size<=4000)(hk:f.length<=4001):
 Calls prog 157 #[.pointer (some ⟨b,0,none⟩),J9 t,.int .i64 a] w fun e P=>e=.returned (.tuple #[])/\CL b r A (.map (some m)) y (Es F f t a c) P/\O (fun k=>k=b) w P:=by
 have N:=Ak p 0;have r2:=Ak p 2;simp only[gH,gF,gG]at N r2;have lr:=Ae p;obtain⟨z,M,C,_⟩:=Fc (w:=(w.alloc (.cells #[.string t.d9,.int .i64 t.l7] 126)).drew) (L.d8 (((O.refl kD w).alloc _).drew) id) hl;have B:=J p;clear p L;unfold J9;cases h:Maps.has F (Bn t.d9)with
 |false=>
  rw[h]at M;have i:Es F f t a c=BO 6 t.l7 c:=by simp[Es,h]
  rw[i];clear i h u N;go_enter func157,ntmps157;go_wp2;go_region;go_wp2_with(go_at_call 79;refine(Cj b 6 t.l7 r A (.map (some m)) y c _ (B.o.d8 (((O.refl kD w).alloc _).drew) id)).mono ?_);rintro e w2 ⟨rfl,I,H⟩;go_wp2;refine gP (v:=.tuple #[]) (by simp[results,results157,go_sem]) rfl ⟨rfl,I,(((O.refl _ w).alloc _).drew).trans H⟩
 |true=>
  rw[h]at M;obtain⟨j,K,E⟩:=Y _ h;have hz:z=(j:Int):=by rw[E]at C;simpa using C.symm
  have s:Cg F t.d9=j:=by simp[Cg,E]
  have x:Ju f j=f[j].u9.length:=by simp[Ju,K]
  subst hz;have a1:=u;obtain⟨a4,q,_⟩:=a1;obtain⟨va,vl,vc,rfl⟩:=Ad q;obtain⟨g,rfl⟩:=Ap q Z;have a3:=Ag q;subst a3;have lg:=(q.lt g rfl).2;obtain⟨av,sv,l,G,_,_⟩:=u.get K;obtain⟨aa,al,ac,rfl⟩:=Ad G;have a0:=Ag G;subst a0;have S:=l 2 Z;have Q:=l 0 Z;have R:=l 1 Z;have V:=l 3 Z;have X:=l 4 Z;simp only[MN,gH,gF,gG,gX]at Q R S V X;clear q G l u C E;by_cases o:f[j].u9.length=a
  .have i:Es F f t a c=c:=by simp[Es,h,s,x,o]
   rw[i];have a2:((f[j].u9.length:Int) !=(a:Int))=false:=by simp[o]
   clear i h s x o;go_enter func157,ntmps157;go_wp2;go_region;go_wp2;go_end0;exact⟨rfl,B.o.d8 (((O.refl kD w).alloc _).drew) id,((O.refl _ w).alloc _).drew⟩
  .have i:Es F f t a c=BO 7 t.l7 c:=by simp[Es,h,s,x,o]
   rw[i];have a2:((f[j].u9.length:Int) !=(a:Int))=true:=jX;clear i h s x o;go_enter func157,ntmps157;go_wp2;go_region;go_wp2_with(go_at_call 79;refine(Cj b 7 t.l7 _ A (.map (some m)) y c _ (B.o.d8 (((O.refl kD w).alloc _).drew) id)).mono ?_);rintro e w2 ⟨rfl,I,H⟩;go_wp2;go_end0;exact⟨rfl,I,(((O.refl _ w).alloc _).drew).trans H⟩
structure RF where
 name:Tk
 cG:List Tk
 cJ:List Nat
 br:Nat
 t8:List ByteArray
def EH(f:RF)(b a c:Value):Array Value:=#[.string f.name.d9,.int .i64 f.name.pos,.int .i64 f.name.sort,b,a,.int .i64 f.br,c]
def Au(B:Nat)(w:World)(v:Value)(l:List ByteArray):Prop:=w.ownsRow B 9 1 v l.length (l.map Value.string)
def OR(B:Nat)(w:World)(c:List Value)(f:RF):Prop:=∃b a d,c=(EH f b a d).toList/\CE B w b f.cG/\Ax B w a f.cJ/\Au B w d f.t8
def QN(c:List Value):Value:=c[6]?.getD (.bool false)
def Cp(B:Nat)(w:World)(c:Value)(b:List RF):Prop:=
 ∃a:List (List Value),w.ownsRow B 53 7 c b.length a.flatten/\a.length=b.length/\(∀i (h:i<a.length) (d:i<b.length),OR B w a[i] b[i])/\∀i j (e:i<a.length) (f:j<a.length),i≠j->∀k,(QN a[i]).ownBlock=some k->(QN a[j]).ownBlock≠some k
theorem OR.d8{B w i c f}{X:Nat->Prop}(h:OR B w c f)(e:O X w i)(g:∀k a t b,X k->w.heap[k]? =some (.cells a t b)->t≠3/\t≠49/\t≠9):OR B i c f:=by obtain⟨p,j,r,m,n,l,o⟩:=h;exact⟨p,j,r,m,Ai n e (fun k a b d q=>(g k a _ b d q).2.1 rfl),Ai l e (fun k a b d q=>(g k a _ b d q).1 rfl),Ai o e (fun k a b d q=>(g k a _ b d q).2.2 rfl)⟩
theorem Cp.d8{B w e b c}{X:Nat->Prop}(h:Cp B w b c)(d:O X w e)(p:∀k,b.ownBlock=some k->¬X k)(q:∀k a t f,X k->w.heap[k]? =some (.cells a t f)->t≠3/\t≠49/\t≠9):Cp B e b c:=by obtain⟨a,o,m,n,l⟩:=h;exact⟨a,Ac o d p,m,fun i g j=>(n i g j).d8 d q,l⟩
theorem Cp.s9{B w c b a}(h:Cp B w b a)(d:O kD w c):Cp B c b a:=h.d8 d (fun _ _ q=>q) (fun _ _ _ _ q=>q.elim)
theorem Cp.get{B w g l c a}(h:Cp B w (.slice (some ⟨g,0,none⟩) l c) a){i}(v:i<a.length):
 ∃d b f,(∀j,j<7->w.cell? ⟨g,i*7+j,none⟩=(EH a[i] d b f)[j]?)/\CE B w d a[i].cG/\Ax B w b a[i].cJ/\Au B w f a[i].t8:=by
 obtain⟨m,p,C,o,A⟩:=h;have y:=Ag p;subst y;have n:i<m.length:=Z;have t:∀x,x∈m->x.length=7:=by intro x z;obtain⟨j,k,rfl⟩:=iF.1 z;obtain⟨_,_,_,e,_⟩:=o j k Z;rw[e];rfl
 obtain⟨d,b,f,e,q,r,s⟩:=o i n v;refine⟨d,b,f,fun j k=>?_,q,r,s⟩;have u:=p.cellAt (i*7+j) Z;rw[u,Cw t n k,e];simp
def Bz:List ByteArray->ByteArray->Nat->Int
 |[],_,_=> -1
 |a::l,s,k=>if a.toList=s.toList then(k:Int)else Bz l s (k+1)
theorem LK(l:List ByteArray)(s:ByteArray)(k:Nat)(h:k<l.length):Bz (l.drop k) s k=if l[k].toList=s.toList then(k:Int)else Bz (l.drop (k+1)) s (k+1):=by rw[gT h];rfl
theorem Ct{a b:ByteArray}(h:a.toList=b.toList):a=b:=by rw[jS,jS]at h;exact ByteArray.ext (Array.toList_inj.1 h)
theorem CR(l s):∀k,(0<=Bz l s k↔s∈l)/\ -1<=Bz l s k/\Bz l s k<k+l.length:=by
 induction l with
 |nil=>intro k;simp[Bz];omega
 |cons a l d=>
  intro k;rw[Bz];split
  .rename_i h;have:=Ct h;subst this;exact⟨⟨fun _=>jF ..,fun _=>Z⟩,Z,jX⟩
  .rename_i h;obtain⟨b,c,e⟩:=d (k+1);refine⟨⟨fun q=>iA _ (b.1 q),fun q=>?_⟩,c,by simp only[gK];omega⟩;rcases iZ.1 q with q|q
   .subst q;exact jO rfl h
   .exact b.2 q
theorem GL(B v l s w)(h:Au B w v l)(y:l.length<=20000):
 Calls prog 55 #[v,.string s] w fun e u=>e=.returned (.int .i64 (Bz l s 0))/\u=w:=by
 obtain⟨A,E,C,rfl⟩:=Ad h;have t:=Ag h;subst t;generalize n:Bz l s 0=V;have m:D (Bz (l.drop 0) s 0=V):=n;have j:=J h;clear n h;go_enter func55,ntmps55;go_wp2;go_loopw[5] (fun i wr=>∃k:Nat,k<=l.length/\i=.int .i64 k/\wr=w/\D (Bz (l.drop k) s k=V)) (fun i _=>l.length-(intOf i).toNat)
 case atStart=>exact⟨0,Z,rfl,rfl,m⟩
 case round=>
  obtain⟨k,x,rfl,rfl,d⟩:=hrel;clear m;by_cases p:k<l.length
  .obtain⟨g,rfl⟩:=Ap j.o Z;have c:=j.o.cellAt k Z;rw[iL,gL p]at c;simp only[Option.map_some]at c;have z:=(j.o.lt g rfl).2;have b:=LK l s k p;generalize l[k]=a at c b;cases o:(a.toList==s.toList)with
   |true=>
    have f:a.toList=s.toList:=by simpa using o
    rw[jH f,d.o]at b;subst b;clear d f;go_wp2;go_ret;exact⟨rfl,rfl⟩
   |false=>
    have f:¬a.toList=s.toList:=by simpa using o
    rw[jG f,d.o]at b;have q:=J b;clear d f b;go_wp2;go_round
    case rel=>exact⟨k+1,Z,by go_num,by trivial,q.o.symm⟩
    case measure=>simp[intOf];omega
  .have e:k=l.length:=Z;subst e;have r:V= -1:=by have:=d.o;rw[jM]at this;exact this.symm
   subst r;clear d;go_wp2;go_ret;exact⟨rfl,rfl⟩
theorem Ga(B v l s w)(h:Au B w v l)(b:l.length<=4001):
 Calls prog 55 #[v,.string s] w fun e a=>e=.returned (.int .i64 (Bz l s 0))/\a=w:=GL B v l s w h Z
theorem DI(B y H A r I b s w)(o:BZ y r I H A w)(h:Cp B w r b)(N:b.length<=4001):
 Calls prog 20 #[.pointer (some ⟨y,0,none⟩),.string s] w fun e K=>e=.returned (.int .i64 (Bz (b.map fun f=>f.name.d9) s 0))/\K=w:=by
 have n:=h;obtain⟨C,j,_⟩:=n;obtain⟨S,X,U,rfl⟩:=Ad j;have F:=Ag j;subst F;have G:=o.bY.cell 0;simp at G;have Q:=Ae o;generalize t:Bz (b.map fun f=>f.name.d9) s 0=V;have q:D (Bz ((b.map fun f=>f.name.d9).drop 0) s 0=V):=t;have p:=J h;clear t h j o;go_enter func20,ntmps20;go_wp2;go_loopw[5] (fun i wr=>∃k:Nat,k<=b.length/\i=.int .i64 k/\wr=w/\D (Bz ((b.map fun f=>f.name.d9).drop k) s k=V)) (fun i _=>b.length-(intOf i).toNat)
 case atStart=>exact⟨0,Z,rfl,rfl,q⟩
 case round=>
  obtain⟨k,M,rfl,rfl,l⟩:=hrel;clear q;by_cases x:k<b.length
  .have n:=p.o;obtain⟨C,j,_⟩:=n;obtain⟨g,rfl⟩:=Ap j Z;have P:=(j.lt g rfl).2;obtain⟨R,L,Y,u,_,_,_⟩:=p.o.get x;have c:=u 0 Z;simp only[EH,gH,gF,gX]at c;have d:=LK (b.map fun f=>f.name.d9) s k (by simpa using x);rw[iU]at d;clear u j;generalize b[k].name.d9=a at c d;cases v:(a.toList==s.toList)with
   |true=>
    have m:a.toList=s.toList:=by simpa using v
    rw[jH m,l.o]at d;subst d;clear l m;go_wp2;go_ret;exact⟨rfl,rfl⟩
   |false=>
    have m:¬a.toList=s.toList:=by simpa using v
    rw[jG m,l.o]at d;have z:=J d;clear l m d;go_wp2;go_round
    case rel=>exact⟨k+1,Z,by go_num,by trivial,z.o.symm⟩
    case measure=>simp[intOf];omega
  .have e:k=b.length:=Z;subst e;have E:V= -1:=by have:=l.o;rw[List.drop_of_length_le jY]at this;exact this.symm
   subst E;clear l;go_wp2;go_ret;exact⟨rfl,rfl⟩
def Be(e p:Nat)(c:CS):CS:=if c.cI=0\/p<c.l7\/(p=c.l7/\e<c.cI)then⟨e,p⟩else c
def IU(b:Nat)(c:CS)(w:World):Prop:=W b #[.int .i64 c.l7,.int .i64 c.cI] 82 w
theorem Ch(b e p:Nat)(c:CS)(w:World)(h:IU b c w):
 Calls prog 19 #[.pointer (some ⟨b,0,none⟩),.int .i64 e,.int .i64 p] w fun r s=>r=.returned (.tuple #[])/\IU b (Be e p c) s/\O (fun k=>k=b) w s:=by
 have o:=Ak h 0;have q:=Ak h 1;have y:=fun i=>Ay h i
 simp only[gH,gF,gG]at o q;have z:=Ae h;have j:=J h;clear h;obtain⟨d,f⟩:=c;simp only at o q;by_cases g:d=0
 .have a:Be e p ⟨d,f⟩=⟨e,p⟩:=by simp[Be,g]
  rw[a];have t:((d:Int)==0)=true:=by simp[g]
  clear a g;go_enter func19,ntmps19;go_wp2;go_end0;refine⟨rfl,?_,((O.refl _ _).t9 1 _).t9 0 _⟩;have:=(W.set (w:=w) j.o 1 (.int .i64 e)).set 0 (.int .i64 p);simpa[IU]using this
 .have t:((d:Int)==0)=false:=by simp[g]
  by_cases m:p<f
  .have a:Be e p ⟨d,f⟩=⟨e,p⟩:=by simp[Be,m]
   rw[a];have u:decide ((p:Int)<(f:Int))=true:=by simp[m]
   clear a g;go_enter func19,ntmps19;go_wp2;go_end0;refine⟨rfl,?_,((O.refl _ _).t9 1 _).t9 0 _⟩;have:=(W.set (w:=w) j.o 1 (.int .i64 e)).set 0 (.int .i64 p);simpa[IU]using this
  .have u:decide ((p:Int)<(f:Int))=false:=jX;by_cases l:p=f
   .have v:((p:Int)==(f:Int))=true:=by simp[l]
    by_cases n:e<d
    .have a:Be e p ⟨d,f⟩=⟨e,p⟩:=by simp[Be,l,n]
     rw[a];have x:decide ((e:Int)<(d:Int))=true:=by simp[n]
     clear a g l;go_enter func19,ntmps19;go_wp2;go_end0;refine⟨rfl,?_,((O.refl _ _).t9 1 _).t9 0 _⟩;have:=(W.set (w:=w) j.o 1 (.int .i64 e)).set 0 (.int .i64 p);simpa[IU]using this
    .have a:Be e p ⟨d,f⟩=⟨d,f⟩:=by unfold Be;rw[jG kC]
     rw[a];have x:decide ((e:Int)<(d:Int))=false:=jX;clear a g l;go_enter func19,ntmps19;go_wp2;go_end0;exact⟨rfl,j.o,O.refl _ _⟩
   .have a:Be e p ⟨d,f⟩=⟨d,f⟩:=by unfold Be;rw[jG kC]
    rw[a];have v:((p:Int)==(f:Int))=false:=jX;clear a g;go_enter func19,ntmps19;go_wp2;go_end0;exact⟨rfl,j.o,O.refl _ _⟩
theorem Wa(n:Nat):((n:Int)==0)=(n==0):=by rw[Bool.eq_iff_iff];simp
def A7:List TF->Nat->DataW Unit->DataW Unit
 |[],_,a=>a
 |t::l,k,a=>A7 l (k+1) (if Maps.has a (Bn t.name.d9)then a else a.put (Bn t.name.d9) (.lit (.int .i64 k)))
theorem Pm(a:List TF)(k:Nat)(h:k<a.length)(b:DataW Unit):A7 (a.drop k) k b=A7 (a.drop (k+1)) (k+1) (if Maps.has b (Bn a[k].name.d9)then b else b.put (Bn a[k].name.d9) (.lit (.int .i64 k))):=by rw[gT h];rfl
theorem IA(d)(U:Nat->Prop)(I a Y w)(y:DF d U w I a)(hl:∀t,t∈a->t.name.d9.size<=4000)(hk:a.length<=4000):
 Calls prog 76 #[.agg #[I,.int .i64 Y]] w fun e w'=>∃M,e=.returned (.map (some M))/\w.heap.size<=M/\Bh M a.length (A7 a 0 (.map [])) w'/\O kD w w':=by
 have a8:=@run_makeMap prog;have x:=y;obtain⟨a4,c,_⟩:=x;obtain⟨va,vl,vc,rfl⟩:=Ad c;have a3:=Ag c;subst a3;generalize K:A7 a 0 (.map [])=V;have G:D (A7 (a.drop 0) 0 (.map [])=V):=K;have HP:=J y;clear K y c;go_enter func76,ntmps76;go_wp2;go_loopw[12] (fun i wr=>∃(k:Nat) (b:DataW Unit),k<=a.length/\i=.int .i64 k/\D (Bh (w.heap.size+1) k b wr)/\D (O kD w wr)/\D (A7 (a.drop k) k b=V)) (fun i _=>a.length-(intOf i).toNat)
 case atStart=> refine⟨0,.map [],Z,rfl,J ?_,J (((O.refl _ w).alloc _).alloc _),G⟩;have:=World.ownsMap_made (H:=Unit) (w.alloc (.cells #[.slice va a.length vc,.int .i64 Y] 60)) prog 9 (plainElem prog 3);simpa[Bh]using this
 case round=>
  obtain⟨k,b,a7,rfl,n,o,B⟩:=hrel;clear G;by_cases Q:k<a.length
  .have A:=HP.o.d8 o.o (fun _ _ q=>q);have x:=A;obtain⟨a5,c,_⟩:=x;obtain⟨g,rfl⟩:=Ap c Z;have lg:=(c.lt g rfl).2;obtain⟨av,sv,h,L,_,a1⟩:=A.get Q;obtain⟨s,v,u,rfl⟩:=Ad L;obtain⟨a6,X,_⟩:=a1;obtain⟨C,F,E,rfl⟩:=Ad X;have f0:=h 0 Z;have f1:=h 1 Z;have f2:=h 2 Z;have f3:=h 3 Z;have f4:=h 4 Z;simp only[MN,gH,gF,gG,gX]at f0 f1 f2 f3 f4;have S:=J (Pm a k Q b);have P:=hl a[k] (gQ _);clear c X L h A;generalize a[k]=t at*;have l1:=o.o.size;have lm:=World.ownsMap.lt n.o;obtain⟨z,R,_,_⟩:=Fc (w:=wr.alloc (.cells #[.string t.name.d9,.int .i64 t.name.l7,.slice s v u,.int .i64 t.l7,.slice C F E] 132)) (n.o.d8 ((O.refl kD wr).alloc _) id) P;cases l:Maps.has b (Bn t.name.d9)with
   |true=>
    rw[l]at R;have r:=J l;clear l;go_wp2;go_round
    case rel=>
     refine⟨k+1,b,Z,by go_num,J ?_,J (o.o.alloc _),J ?_⟩
     .exact World.ownsMap.mono (n.o.d8 ((O.refl kD wr).alloc _) id) Z
     .have:=S.o;rw[jH r.o]at this;exact this.symm.trans B.o
    case measure=>simp[intOf];omega
   |false=>
    rw[l]at R;have r:=J l;clear l;obtain⟨w2,a9,a0,m⟩:=ET (p:=k) (w:=wr.alloc (.cells #[.string t.name.d9,.int .i64 t.name.l7,.slice s v u,.int .i64 t.l7,.slice C F E] 132)) (n.o.d8 ((O.refl kD wr).alloc _) id) P Z Z;go_wp2;go_round
    case rel=>
     refine⟨k+1,_,Z,by go_num,J a0,J ?_,J ?_⟩
     .have f:=o.o.alloc (.cells #[.string t.name.d9,.int .i64 t.name.l7,.slice s v u,.int .i64 t.l7,.slice C F E] 132);exact⟨m.os.trans f.os,m.tape.trans f.tape,m.output.trans f.output,gW f.size m.size,fun j N _=>(m.block j (gY N f.size) Z).trans (f.block j N id)⟩
     .have:=S.o;rw[jG (by rw[r.o];decide)]at this;exact this.symm.trans B.o
    case measure=>simp[intOf];omega
  .have e:k=a.length:=Z;subst e;have a2:b=V:=by have:=B.o;simpa[A7]using this
   subst a2;go_wp2;go_ret;exact⟨_,rfl,Z,n.o,o.o⟩
theorem Ks(b d)(U:Nat->Prop)(q a M K m n F c w)(k:CL b q M (.map (some m)) K c w)(v:Bh m n F w)(i:DF d U w q a)(C:Lf F a.length)(X:a.length<=4001):
 Calls prog 78 #[.pointer (some ⟨b,0,none⟩)] w fun e N=>e=.returned (.bool (Maps.has F (Bn ⟨#[109,97,105,110]⟩) && Ju a (Cg F ⟨#[109,97,105,110]⟩)==0))/\O kD w N:=by
 have A:=Ak k 0;have L:=Ak k 2;simp only[gH,gF,gG]at A L;have lr:=Ae k;obtain⟨z,y,l,_⟩:=Fc (w:=w) (s:=⟨#[109,97,105,110]⟩) v T;clear k v;cases f:Maps.has F (Bn ⟨#[109,97,105,110]⟩)with
 |false=> rw[f]at y;clear f i A;go_enter func78,ntmps78;go_wp2;go_ret;exact⟨jY,O.refl _ _⟩
 |true=>
  rw[f]at y;obtain⟨j,u,o⟩:=C _ f;have I:z=(j:Int):=by rw[o]at l;simpa using l.symm
  have t:Cg F ⟨#[109,97,105,110]⟩=j:=by simp[Cg,o]
  have x:Ju a j=a[j].u9.length:=by simp[Ju,u]
  subst I;have G:=i;obtain⟨V,h,_⟩:=G;obtain⟨va,vl,vc,rfl⟩:=Ad h;obtain⟨g,rfl⟩:=Ap h Z;have H:=Ag h;subst H;have Y:=(h.lt g rfl).2;obtain⟨S,sv,r,p,_,_⟩:=i.get u;obtain⟨P,R,Q,rfl⟩:=Ad p;have E:=Ag p;subst E;have B:=r 2 Z;simp only[MN,gH,gF,gG]at B;rw[t,x];clear h p r i l o t x f;go_enter func78,ntmps78;go_wp2;go_ret;exact⟨by simp[Wa],O.refl _ _⟩
structure Ck(b d:Nat)(U:Nat->Prop)(fs:Value)(fns:List TF)(stop:Int)(mf nf m n:Nat)(F D:DataW Unit)(c:CS)(w:World):Prop where
 cZ:CL b fs stop (.map (some mf)) (.map (some m)) c w
 t8:Bh m n D w
 dN:Bh mf nf F w
 rows:DF d U w fs fns
 fin:Lf F fns.length
 cR:fns.length<=4001
 ne:m≠mf
 ub:¬U b
 um:¬U m
theorem Ck.d8{b d}{U:Nat->Prop}{i g l e j m n F f c w o}{X:Nat->Prop}(h:Ck b d U i g l e j m n F f c w)(a:O X w o)(p:¬X b)(q:¬X m)(r:¬X e)(s:∀k,U k->¬X k):Ck b d U i g l e j m n F f c o:=
 ⟨W.d8 h.cZ a p,h.t8.d8 a q,h.dN.d8 a r,h.rows.d8 a s,h.fin,h.cR,h.ne,h.ub,h.um⟩
theorem Ck.quiet{b d}{U:Nat->Prop}{f e j g i m n F a c w k}(h:Ck b d U f e j g i m n F a c w)(l:O kD w k):Ck b d U f e j g i m n F a c k:=
 h.d8 l id id id (fun _ _ q=>q)
theorem Ck.step{b d}{U:Nat->Prop}{a o g f p m n F j c l w i}(h:Ck b d U a o g f p m n F j c w)(r:CL b a g (.map (some f)) (.map (some m)) l i)(e:O (fun k=>k=b) w i):Ck b d U a o g f p m n F j l i:=
 ⟨r,h.t8.d8 e (h.t8.ne h.cZ),h.dN.d8 e (h.dN.ne h.cZ),h.rows.d8 e (fun _ s q=>h.ub (q▸s)),h.fin,h.cR,h.ne,h.ub,h.um⟩
theorem Ck.eR{b d}{U:Nat->Prop}{f o i g t m n s F u j c l w a}(h:Ck b d U f o i g t m n F u c w)(v:CL b f i (.map (some g)) (.map (some m)) l a)(x:Bh m s j a)(r:O (fun k=>k=b\/k=m) w a):Ck b d U f o i g t m s F j l a:=
 ⟨v,x,h.dN.d8 r (fun q=>q.elim (h.dN.ne h.cZ) (fun e=>h.ne e.symm)),h.rows.d8 r (fun _ p q=>q.elim (fun e=>h.ub (e▸p)) (fun e=>h.um (e▸p))),h.fin,h.cR,h.ne,h.ub,h.um⟩
structure ZT(s:VS):Prop where
 tg:s.tg.d9.size<=4000
 tp:s.tg.l7<=4000
 sr:s.sr.d9.size<=4000
 ar:∀t,t∈s.args->t.d9.size<=4000
 al:s.args.length<=4000
def Ff(F:DataW Unit)(a:List TF)(s:VS)(x:DataW Unit×CS):DataW Unit×CS:=
 match s.kind with
 |0=>(Ig x.1 s.tg,EZ x.1 s.tg x.2)
 |1=>(x.1,Cx x.1 s.tg x.2)
 |4=>(x.1,Cx F s.sr (Cx x.1 s.tg x.2))
 |7=>(x.1,FJ x.1 s.args (Es F a s.sr s.args.length (Cx x.1 s.tg x.2)))
 |8=>(x.1,FJ x.1 s.args (Cx x.1 s.sr (Cx x.1 s.tg x.2)))
 |10=>(x.1,Cx x.1 s.sr x.2)
 |_=>(x.1,Cx x.1 s.sr (Cx x.1 s.tg x.2))
structure KS(b d:Nat)(U:Nat->Prop)(fs:Value)(fns:List TF)(stop:Int)(mf nf m n:Nat)(F D:DataW Unit)(sb:Nat)(sc:Array Value)(av:Value)(ar:List PT)(w0:World)(c:CS)(w:World):Prop where
 k:Ck b d U fs fns stop mf nf m n F D c w
 s:W sb sc 230 w
 o:O (fun k=>k=b\/k=m) w0 w
 a:w.ownsRow 0 126 2 av ar.length (BI ar)
 u:∀k,av.ownBlock=some k->k≠b
 e:sb≠b
theorem KS.step{b d}{U:Nat->Prop}{e r g f s m n F j t u o l v w i c p}(h:KS b d U e r g f s m n F j t u o l v c w)(x:CL b e g (.map (some f)) (.map (some m)) p i)(a:O (fun k=>k=b) w i):KS b d U e r g f s m n F j t u o l v p i:=
 ⟨h.k.step x a,W.d8 h.s a h.e,h.o.trans (a.mono (fun _ _ q=>.inl q)),Ac h.a a h.u,h.u,h.e⟩
theorem W.c8{b:Nat}{l:List Value}{t:TypeId}{w:World}(h:W b l.toArray t w):w.cell? ⟨b,0,none⟩=l[0]? /\w.cell? ⟨b,1,none⟩=l[1]? /\w.cell? ⟨b,2,none⟩=l[2]? /\w.cell? ⟨b,3,none⟩=l[3]? /\w.cell? ⟨b,4,none⟩=l[4]? /\w.cell? ⟨b,5,none⟩=l[5]? /\w.cell? ⟨b,6,none⟩=l[6]? /\w.cell? ⟨b,7,none⟩=l[7]? :=by refine⟨?_,?_,?_,?_,?_,?_,?_,?_⟩<;>rw[h.cell]<;>simp
theorem Sh(b d a6:Nat)(U:Nat->Prop)(x:Value)(I:List TF)(z:Int)(y R m n:Nat)(F A:DataW Unit)(c:CS)(s:VS)(av bv:Value)(w:World)(K:Ck b d U x I z y R m n F A c w)(L:ZT s)(hn:n<=4000)(P:w.ownsRow 0 126 2 av s.args.length (BI s.args))(hu:∀k,av.ownBlock=some k->U k)(a7:∃S X V,bv=.slice S X V)(hk:s.kind<=10):
 Calls prog 144 #[.pointer (some ⟨b,0,none⟩),.agg (EW s av bv),.int .i64 a6] w fun e w'=>e=.returned (.tuple #[])/\(∃n',n'<=n+1/\Ck b d U x I z y R m n' F (Ff F I s (A,c)).1 (Ff F I s (A,c)).2 w')/\O (fun k=>k=b\/k=m) w w':=by
 obtain⟨i,M,E,a4,G⟩:=s;simp only at hk P;obtain⟨Y,l1,c1,rfl⟩:=Ad P;have a9:=Ag P;subst a9;obtain⟨S,X,V,rfl⟩:=a7;have lb:=Ae K.cZ;have ht:=L.tg;have a5:=L.tp;have Q:=L.sr;have a3:=L.ar;have a0:=L.al;simp only at ht a5 Q a3 a0;have B:D (KS b d U x I z y R m n F A w.heap.size #[.int .i64 i,.string M.d9,.int .i64 M.l7,.string E.d9,.int .i64 E.l7,.int .i64 a4,.slice Y G.length c1,.slice S X V] (.slice Y G.length c1) G w c (w.alloc (.cells #[.int .i64 i,.string M.d9,.int .i64 M.l7,.string E.d9,.int .i64 E.l7,.int .i64 a4,.slice Y G.length c1,.slice S X V] 230))):=
  ⟨K.quiet ((O.refl kD w).alloc _),W.new _ _ _,(O.refl _ w).alloc _,Ac P ((O.refl kD w).alloc _) (fun _ _ q=>q),fun k hk e=>K.ub (e▸hu k hk),Z⟩
 clear K P L;have a8:i=0\/i=1\/i=2\/i=3\/i=4\/i=5\/i=6\/i=7\/i=8\/i=9\/i=10:=Z;rcases a8 with rfl|rfl|rfl|rfl|rfl|rfl|rfl|rfl|rfl|rfl|rfl
 all_goals
  unfold EW Ff;simp only;go_enter func144,ntmps144
 .go_wp2_with(go_at_call 115;refine(Kp b x z (.map (some y)) m n A _ M _ B.o.k.cZ B.o.k.t8 ht a5 hn).mono ?_);rintro e H ⟨rfl,g,hv,a⟩;have f:=J (B.o.k.eR g hv a);have O1:=J (B.o.o.trans a);clear g hv a;go_wp2;go_end0;exact⟨rfl,⟨n+1,Z,f.o⟩,O1.o⟩
 rotate_right
 .go_wp2_with(go_at_call 155;refine(EJ b x z (.map (some y)) m n A _ E _ B.o.k.cZ B.o.k.t8 Q).mono ?_);rintro e H ⟨rfl,g,a⟩;have f:=J (B.o.step g a);obtain⟨j,l,o,p,r,t,u,v⟩:=f.o.s.c8;simp only[gF,gG]at j l o p r t u v;have N:=f.o.o.size;clear g a;go_wp2;go_end0;exact⟨rfl,⟨n,Z,f.o.k⟩,f.o.o⟩
 all_goals
  go_wp2_with(go_at_call 155;refine(EJ b x z (.map (some y)) m n A _ M _ B.o.k.cZ B.o.k.t8 ht).mono ?_);rintro e H ⟨rfl,g,a⟩;have f:=J (B.o.step g a);obtain⟨j,l,o,p,r,t,u,v⟩:=f.o.s.c8;simp only[gF,gG]at j l o p r t u v;have N:=f.o.o.size;clear g a
 .go_wp2;go_end0;exact⟨rfl,⟨n,Z,f.o.k⟩,f.o.o⟩
 rotate_left 2
 .go_wp2_with(go_at_call 156;refine(J2 b x z (.map (some m)) y R F _ E _ f.o.k.cZ f.o.k.dN Q).mono ?_);rintro e H ⟨rfl,g,a⟩;have h:=J (f.o.step g a);obtain⟨j,l,o,p,r,t,u,v⟩:=h.o.s.c8;simp only[gF,gG]at j l o p r t u v;have N:=h.o.o.size;clear g a;go_wp2;go_end0;exact⟨rfl,⟨n,Z,h.o.k⟩,h.o.o⟩
 rotate_left 2
 .go_wp2_with(go_at_call 157;refine(Rc b d U x I z (.map (some m)) y R F _ E G.length _ f.o.k.cZ f.o.k.dN f.o.k.rows f.o.k.fin Q f.o.k.cR).mono ?_);rintro e H ⟨rfl,g,a⟩;have h:=J (f.o.step g a);obtain⟨j,l,o,p,r,t,u,v⟩:=h.o.s.c8;simp only[gF,gG]at j l o p r t u v;have N:=h.o.o.size;clear g a;go_wp2_with(go_at_call 158;refine(FZ b x z (.map (some y)) m n A _ G _ _ h.o.k.cZ h.o.k.t8 h.o.a a3 a0).mono ?_);rintro e H ⟨rfl,g,a⟩;have C:=J (h.o.step g a);obtain⟨j,l,o,p,r,t,u,v⟩:=C.o.s.c8;simp only[gF,gG]at j l o p r t u v;have N:=C.o.o.size;clear g a;go_wp2;go_end0;exact⟨rfl,⟨n,Z,C.o.k⟩,C.o.o⟩
 all_goals
  go_wp2_with(go_at_call 155;refine(EJ b x z (.map (some y)) m n A _ E _ f.o.k.cZ f.o.k.t8 Q).mono ?_);rintro e H ⟨rfl,g,a⟩;have h:=J (f.o.step g a);obtain⟨j,l,o,p,r,t,u,v⟩:=h.o.s.c8;simp only[gF,gG]at j l o p r t u v;have N:=h.o.o.size;clear g a
 .go_wp2_with(go_at_call 158;refine(FZ b x z (.map (some y)) m n A _ G _ _ h.o.k.cZ h.o.k.t8 h.o.a a3 a0).mono ?_);rintro e H ⟨rfl,g,a⟩;have C:=J (h.o.step g a);obtain⟨j,l,o,p,r,t,u,v⟩:=C.o.s.c8;simp only[gF,gG]at j l o p r t u v;have N:=C.o.o.size;clear g a;go_wp2;go_end0;exact⟨rfl,⟨n,Z,C.o.k⟩,C.o.o⟩
 all_goals
  go_wp2;go_end0;exact⟨rfl,⟨n,Z,h.o.k⟩,h.o.o⟩
def Lw(F:DataW Unit)(b:List TF):Nat->Nat->TS->DataW Unit×CS->DataW Unit×CS
 |0,_,_,x=>x
 |d+1,a,.mk s c,x=>
  if s.kind=11\/s.kind=12 then c.foldl (fun x q=>q.2.foldl (fun x t=>Lw F b d (a+1) t x) (x.1,if 6<a+1 then BO 4 q.1 x.2 else x.2)) x
  else Ff F b s x
def OM(F:DataW Unit)(b:List TF)(d a:Nat)(q:Nat×List TS)(x:DataW Unit×CS):DataW Unit×CS:=
 q.2.foldl (fun x t=>Lw F b d a t x) (x.1,if 6<a then BO 4 q.1 x.2 else x.2)
def Cs:Nat->TS->Nat
 |0,_=>0
 |d+1,.mk _ a=>1+(a.map (fun q=>(q.2.map (Cs d)).sum)).sum
def OK:Nat->TS->Prop
 |0,_=>False
 |d+1,.mk s a=>ZT s/\s.kind<=12/\a.length<=4000/\∀q,q∈a->q.2.length<=4000/\∀t,t∈q.2->OK d t
def Vk(d:Nat):Prop:=∀(b i a:Nat) (U:Nat->Prop) (j:Value) (f:List TF) (q:Int) (l p m n:Nat) (F g:DataW Unit) (c:CS) (t:TS) (h:Array Value) (w:World),
 Ck b i U j f q l p m n F g c w->BW d U w t h.toList->OK d t->n+Cs d t<=4000->a+d<=4001->
 Calls prog 144 #[.pointer (some ⟨b,0,none⟩),.agg h,.int .i64 a] w fun e r=>e=.returned (.tuple #[])/\(∃o,o<=n+Cs d t/\Ck b i U j f q l p m o F (Lw F f d a t (g,c)).1 (Lw F f d a t (g,c)).2 r)/\O (fun k=>k=b\/k=m) w r
theorem CU.get{d}{U:Nat->Prop}{w g l c q}(h:CU d U w (.slice (some ⟨g,0,none⟩) l c) q){j}(B:j<q.length):
 ∃(s:VS) (a:Option Addr) (m f:Nat) (b:Option Addr) (n k:Nat),(∀i,i<8->w.cell? ⟨g,j*8+i,none⟩=(EW s (.slice a m f) (.slice b n k))[i]?)/\BW d U w q[j] (EW s (.slice a m f) (.slice b n k)).toList:=by
 obtain⟨p,y,R,S,z⟩:=h;have G:=Ag y;subst G;have u:j<p.length:=Z;have v:∀i (o:i<q.length) (A:i<p.length),∃(s:VS) (a:Option Addr) (m f:Nat) (b:Option Addr) (n k:Nat),p[i]=(EW s (.slice a m f) (.slice b n k)).toList:=by
  intro i o A;have r:=z i o A;generalize p[i]=Q at r;generalize q[i]=t at r;cases d with
  |zero=>exact r.elim
  |succ d=> obtain⟨s,N⟩:=t;obtain⟨L,P,M,e,I,_,K,_⟩:=r;obtain⟨a,m,f,rfl⟩:=Ad I;obtain⟨b,n,k,rfl⟩:=Ad K;exact⟨s,a,m,f,b,n,k,e⟩
 have F:∀x,x∈p->x.length=8:=by intro x H;obtain⟨i,o,rfl⟩:=iF.1 H;obtain⟨_,_,_,_,_,_,_,C⟩:=v i Z o;rw[C];rfl
 obtain⟨s,a,m,f,b,n,k,e⟩:=v j B u;refine⟨s,a,m,f,b,n,k,fun i o=>?_,by rw[<-e];exact z j B u⟩;have E:=y.cellAt (j*8+i) Z;rw[E,Cw F u o,e];simp
theorem E9{A B:Type}(f:B->A->B)(l:List A)(k:Nat)(h:k<l.length)(x:B):(l.drop k).foldl f x=(l.drop (k+1)).foldl f (f x l[k]):=by rw[gT h];rfl
theorem QF(f:TS->Nat)(l:List TS)(k:Nat)(h:k<l.length):((l.drop k).map f).sum=f l[k]+((l.drop (k+1)).map f).sum:=by rw[gT h,iK,iS]
theorem Ix(d:Nat)(hS:Vk d)(b M h p:Nat)(U:Nat->Prop)(C:Value)(j:List TF)(I:Int)(H P m n:Nat)(F y:DataW Unit)(c:CS)(a:List TS)(sv:Value)(w:World)
 (K:Ck b M U C j I H P m n F y c w)(hR:CU d U w sv a)(hO:∀t,t∈a->OK d t)(hn:n+(a.map (Cs d)).sum<=4000)(hd:h+d<=4001)(hl:a.length<=4000):
 Calls prog 116 #[.pointer (some ⟨b,0,none⟩),.agg #[.int .i64 p,sv],.int .i64 h] w fun e w'=>e=.returned (.tuple #[])/\(∃n',n'<=n+(a.map (Cs d)).sum/\Ck b M U C j I H P m n' F (OM F j d h (p,a) (y,c)).1 (OM F j d h (p,a) (y,c)).2 w')/\O (fun k=>k=b\/k=m) w w':=by
 have a0:=hR;obtain⟨b7,v,_⟩:=a0;obtain⟨va,vl,vc,rfl⟩:=Ad v;have b5:=Ag v;subst b5;have lb:=Ae K.cZ;have R:=J (K.quiet ((O.refl kD w).alloc (.cells #[.int .i64 p,.slice va a.length vc] 130)));have S0:=J (W.new w #[.int .i64 p,.slice va a.length vc] 130);have O0:=J ((O.refl (fun k=>k=b\/k=m) w).alloc (.cells #[.int .i64 p,.slice va a.length vc] 130));have R0:=J hR;have HS:=J hS;clear K hR v hS;by_cases h6:6<h
 .have b1:(6:Int)<(h:Int):=Z;obtain⟨l,N⟩:∃l,BO 4 p c=l:=⟨_,rfl⟩;generalize hV:OM F j d h (p,a) (y,c)=V;have Q:D ((a.drop 0).foldl (fun x t=>Lw F j d h t x) (y,l)=V):=by rw[<-hV,OM,jH h6,N];rfl
  have C1:=J N;clear hV N h6;go_enter func116,ntmps116;go_wp2_with(go_at_call 79;refine(Cj b 4 p C I (.map (some H)) (.map (some m)) c _ R.o.cZ).mono ?_);rw[C1.o];rintro e b6 ⟨rfl,kw,ow⟩;have S:=J (R.o.step kw ow);have L:=J (O0.o.trans (ow.mono (fun _ _ q=>.inl q)));have s0:=Ak (W.d8 S0.o ow Z) 1;simp only[gH,gF,gG]at s0;have z1:=L.o.size;clear kw ow R O0 S0;go_wp2;go_loopw[17] (fun i wr=>∃(k u:Nat) (o:DataW Unit) (r:CS),k<=a.length/\i=.int .i64 k/\u+((a.drop k).map (Cs d)).sum<=n+(a.map (Cs d)).sum/\D (Ck b M U C j I H P m u F o r wr)/\D (O (fun k=>k=b\/k=m) w wr)/\D ((a.drop k).foldl (fun x t=>Lw F j d h t x) (o,r)=V)) (fun i _=>a.length-(intOf i).toNat)
  case atStart=>exact⟨0,n,y,l,Z,rfl,jY,S,L,Q⟩
  case round=>
   obtain⟨k,u,o,r,b2,rfl,a6,z,A,a4⟩:=hrel;clear Q S L;by_cases G:k<a.length
   .have E:CU d U wr (.slice va a.length vc) a:=CU.d8 R0.o A.o (fun _ hk q=>q.elim (fun e=>z.o.ub (e▸hk)) (fun e=>z.o.um (e▸hk)));have a0:=E;obtain⟨b0,v,_⟩:=a0;obtain⟨g,rfl⟩:=Ap v Z;have lg:=(v.lt g rfl).2;obtain⟨s,X,l1,l,Y,l2,c2,f,a3⟩:=E.get G;have f0:=f 0 Z;have f1:=f 1 Z;have f2:=f 2 Z;have f3:=f 3 Z;have f4:=f 4 Z;have f5:=f 5 Z;have f6:=f 6 Z;have f7:=f 7 Z;simp only[EW,gH,gF,gG,gX]at f0 f1 f2 f3 f4 f5 f6 f7;have a8:=J (E9 (fun x t=>Lw F j d h t x) a k G (o,r));have b4:=QF (Cs d) a k G;have a7:=J (hO a[k] (gQ _));have a5:=J a3;clear v f E a3;generalize a[k]=t at*;have l0:=A.o.size;have B:=J ((O.refl kD wr).alloc (.cells #[.int .i64 s.kind,.string s.tg.d9,.int .i64 s.tg.l7,.string s.sr.d9,.int .i64 s.sr.l7,.int .i64 s.field,.slice X l1 l,.slice Y l2 c2] 230));go_wp2_with(go_at_call 144;refine(HS.o b M h U C j I H P m u F o r t #[.int .i64 s.kind,.string s.tg.d9,.int .i64 s.tg.l7,.string s.sr.d9,.int .i64 s.sr.l7,.int .i64 s.field,.slice X l1 l,.slice Y l2 c2] _ (z.o.quiet B.o) (BW.d8 a5.o B.o (fun _ _ q=>q)) a7.o Z hd).mono ?_;rintro e w2 ⟨rfl,⟨n2,b3,k2⟩,o2⟩);go_round
    case rel=>exact⟨k+1,n2,_,_,Z,by go_num,Z,J k2,J (A.o.trans ((B.o.mono (fun _ _ q=>q.elim)).trans o2)),J (a8.o.symm.trans a4.o)⟩
    case measure=>simp[intOf];omega
   .have e:k=a.length:=Z;subst e;have a9:(o,r)=V:=by have:=a4.o;simpa using this
    subst a9;go_wp2;go_end0;simp at a6;exact⟨rfl,⟨u,Z,z.o⟩,A.o⟩
 .have b1:¬(6:Int)<(h:Int):=Z;obtain⟨l,N⟩:∃l,c=l:=⟨_,rfl⟩;generalize hV:OM F j d h (p,a) (y,c)=V;have Q:D ((a.drop 0).foldl (fun x t=>Lw F j d h t x) (y,l)=V):=by rw[<-hV,OM,jG h6,N];rfl
  subst N;clear hV h6;go_enter func116,ntmps116;go_wp2;have S:=R;have L:=O0;clear R O0 S0;go_loopw[17] (fun i wr=>∃(k u:Nat) (o:DataW Unit) (r:CS),k<=a.length/\i=.int .i64 k/\u+((a.drop k).map (Cs d)).sum<=n+(a.map (Cs d)).sum/\D (Ck b M U C j I H P m u F o r wr)/\D (O (fun k=>k=b\/k=m) w wr)/\D ((a.drop k).foldl (fun x t=>Lw F j d h t x) (o,r)=V)) (fun i _=>a.length-(intOf i).toNat)
  case atStart=>exact⟨0,n,y,c,Z,rfl,jY,S,L,Q⟩
  case round=>
   obtain⟨k,u,o,r,b2,rfl,a6,z,A,a4⟩:=hrel;clear Q S L;by_cases G:k<a.length
   .have E:CU d U wr (.slice va a.length vc) a:=CU.d8 R0.o A.o (fun _ hk q=>q.elim (fun e=>z.o.ub (e▸hk)) (fun e=>z.o.um (e▸hk)));have a0:=E;obtain⟨b0,v,_⟩:=a0;obtain⟨g,rfl⟩:=Ap v Z;have lg:=(v.lt g rfl).2;obtain⟨s,X,l1,l,Y,l2,c2,f,a3⟩:=E.get G;have f0:=f 0 Z;have f1:=f 1 Z;have f2:=f 2 Z;have f3:=f 3 Z;have f4:=f 4 Z;have f5:=f 5 Z;have f6:=f 6 Z;have f7:=f 7 Z;simp only[EW,gH,gF,gG,gX]at f0 f1 f2 f3 f4 f5 f6 f7;have a8:=J (E9 (fun x t=>Lw F j d h t x) a k G (o,r));have b4:=QF (Cs d) a k G;have a7:=J (hO a[k] (gQ _));have a5:=J a3;clear v f E a3;generalize a[k]=t at*;have l0:=A.o.size;have B:=J ((O.refl kD wr).alloc (.cells #[.int .i64 s.kind,.string s.tg.d9,.int .i64 s.tg.l7,.string s.sr.d9,.int .i64 s.sr.l7,.int .i64 s.field,.slice X l1 l,.slice Y l2 c2] 230));go_wp2_with(go_at_call 144;refine(HS.o b M h U C j I H P m u F o r t #[.int .i64 s.kind,.string s.tg.d9,.int .i64 s.tg.l7,.string s.sr.d9,.int .i64 s.sr.l7,.int .i64 s.field,.slice X l1 l,.slice Y l2 c2] _ (z.o.quiet B.o) (BW.d8 a5.o B.o (fun _ _ q=>q)) a7.o Z hd).mono ?_;rintro e w2 ⟨rfl,⟨n2,b3,k2⟩,o2⟩);go_round
    case rel=>exact⟨k+1,n2,_,_,Z,by go_num,Z,J k2,J (A.o.trans ((B.o.mono (fun _ _ q=>q.elim)).trans o2)),J (a8.o.symm.trans a4.o)⟩
    case measure=>simp[intOf];omega
   .have e:k=a.length:=Z;subst e;have a9:(o,r)=V:=by have:=a4.o;simpa using this
    subst a9;go_wp2;go_end0;simp at a6;exact⟨rfl,⟨u,Z,z.o⟩,A.o⟩
