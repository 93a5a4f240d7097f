/- Part of the proof. -/
import Derived.Test.YtbkhmmeecjnnkaaGreatDoorG07
import Derived.Test.YtbkhmmeecjnnkaaGreatDoorG08
import Derived.Test.YtbkhmmeecjnnkaaGreatDoorG10
set_option maxHeartbeats 1000000
namespace Go.Proofs.YtbkhmmeecjnnkaaGreatDoor
open Go.Proofs.Tryz Go.RowKit
open Option renaming none->Z,some->T
open Value renaming int->G,slice->Y,pointer->Z',string->Y',tuple->P',agg->N'
open IntKind renaming i64->A
open Ending renaming returned->T'
open List renaming length->L
open Go renaming Value->H',Calls->F',maxLen->E'
open Go.Proofs.Tryz renaming prog->zy
open Go.RowKit renaming Below->zx
open _root_ renaming Nat->M,rfl->Q,decide->zu
open Bool renaming false->zr
open Or renaming inl->zo,inr->zn
variable {x1:C8}{o0:Dd}{y2:Df}{B C R:Nat}{V:Value}{P:World}
theorem VA{c}(m x b a)(h:x.wY≠Z):(ER c B m x b a).2.1.wY≠Z:=by
 cases m with
 |zero=>exact h
 |succ m=> rw[ER,Ba λq=>h q.1];exact h
theorem ZI{d}(l:(CI d<|L d-1).h=0)(k x f)(s:Mw (L d) x<|L f)(p:(K8 d (2*L d) k x f).2.1.wY=Z):
 My (λj a b c e=>JE (2*L d) (K8 d (2*L d) k x f).2.2 j a b c e) (K8 d (2*L d) k x f).1.body x.pl x.g (K8 d (2*L d) k x f).2.1.pl (K8 d (2*L d) k x f).2.1.g/\OT f (K8 d (2*L d) k x f).2.2/\∀j,L f<=j->j<L (K8 d (2*L d) k x f).2.2->PM (K8 d (2*L d) k x f).2.2 (K8 d (2*L d) k x f).1.body j:=by
 have E:=DP d;have C:∀(r:Cj) (x:St),x.b<d->(CW d r x).b<d:=λr x h=>EK Q l h
 unfold K8 at p|-;simp only at p|-;have y:=(E [102,110] x).trans<|IU d 1<|CW d [102,110] x;have v:(Ev d 1<|CW d [102,110] x).2.b<d:=Iw (q:=(Ev d 1<|CW d [102,110] x).1) Q nofun l (C _ _ s.1);generalize Ev d 1 (CW d [102,110] x)=g at*;have z:=y.trans<|(E [40] g.2).trans<|Jr d<|CW d [40] g.2;have w:(EM d<|CW d [40] g.2).2.b<d:=IW (q:=(EM d<|CW d [40] g.2).1) Q l<|C _ _ v;generalize EM d (CW d [40] g.2)=m at*;have i:=z.trans<|E [123] m.2;have F:=s.xQ i<|C [123] m.2 w;have o:=E [125] (C6 d (2*d) k (CW d [123] m.2) f []).2.1;have B:=(o.2.2.2 p).1;have⟨K,t,u,H,I⟩:=(gM (n:=d) l<|2*d).1 k (CW d [123] m.2) f [] F (λq=>by have:=(i.2.2.2 q).2;omega) B;rw[A8]at t;rw[t,o.2.1,o.2.2.1];rw[i.2.1,i.2.2.1]at u;exact⟨u.mono λ_ _ _ _ _ q=>q.2,H,I⟩
theorem VE{a:DH}(f:(CI a<|L a-1).h=0):∀(m:M) (x:St) (b:C8) (c:Dd),Mw a x b->MW (2*a) b c 0 0 x.pl x.g->(ER a (2*a) m x b c).2.1.wY=Z->
 MW (2*a) (ER a (2*a) m x b c).2.2 (ER a (2*a) m x b c).1 0 0 (ER a (2*a) m x b c).2.1.pl (ER a (2*a) m x b c).2.1.g
 |0,x,b,c,_,e,_=>e
 |m+1,x,b,c,g,e,d=>by
  rw[ER]at d|-;split at d
  .rename_i k;rw[Bb k];have j:(K8 a (2*a) c x b).2.1.wY=Z:=BC λq=>VA m _ _ _ q d;obtain⟨h,i,_⟩:=ZI f c x b g j;exact VE f m _ _ _ (Nb f _ _ x b g).1 ((e.pre i).snoc h) d
  grind
def U7(a:C8)(b:Dd):Prop:=∀k,k<L a->∃f,f∈b/\PM a f.body k
theorem VB{b:DH}(g:(CI b<|L b-1).h=0):∀(m:M) (x:St) (a:C8) (c:Dd),Mw b x a->U7 a c->(ER b (2*b) m x a c).2.1.wY=Z->U7 (ER b (2*b) m x a c).2.2 (ER b (2*b) m x a c).1
 |0,x,a,c,_,e,_=>e
 |m+1,x,a,c,h,e,d=>by
  rw[ER]at d|-;split at d
  .rename_i l;rw[Bb l];have j:(K8 b (2*b) c x a).2.1.wY=Z:=BC λq=>VA m _ _ _ q d;obtain⟨_,i,p⟩:=ZI g c x a h j;refine VB g m _ _ _ (Nb g _ _ x a h).1 (λk r=>?_) d;rcases AV k a with q|q
   .obtain⟨f,n,o⟩:=e k q;exact⟨f,BN _ n,o.pre i⟩
   grind
  grind
theorem Z8:∀(l:Dd) (a:Df) (k c b g d:M),L l=a->(∀j (h:j<L l) (n:j<L a),Fv (Gs (k+j) 4000 x1) l[j].body a[j].i)->MW B x1 l c b g d->
 ∀i (h:i<L l) (n:i<L a),TO x1 (k+i) a[i].i l[i].body (c+sK 1 a i)<|b+sK 8 a i
 |[],_,_,_,_,_,_,_,_,_,i,h,_=>by simp at h
 |f::l,[],_,_,_,_,_,p,_,_,_,_,_=>by simp at p
 |f::l,t::a,k,c,b,g,d,p,o,s,i,h,n=>by
  obtain⟨w,r,u,v⟩:=s;have m:=o 0 (by simp) (by simp);simp only[AA,Au]at m;obtain⟨C,x,y⟩:=SV 4000 B f.body t.i c b w r m u;subst x y;cases i with
  |zero=>grind[sK]
  |succ i=>
   have I:=Z8 l a (k+1) (c+nL 1 t.i) (b+nL 8 t.i) g d (by grind) (λj q z=>by have:=o (j+1) (by simpa using q) (by grind);grind) v i (by simpa using h)<|by grind
   grind[sK]
theorem Wn:∀(l:Dd) (a:Df) (k i b m c:M),L l=a->(∀j (h:j<L l) (v:j<L a),Fv (Gs (k+j) 4000 x1) l[j].body a[j].i)->MW B x1 l i b m c->m=i+(a.map λt=>nL 1 t.i).sum/\c=b+(a.map λt=>nL 8 t.i).sum
 |[],[],_,_,_,_,_,_,_,g=>⟨g.1,g.2⟩
 |[],_::_,_,_,_,_,_,d,_,_=>by simp at d
 |_::_,[],_,_,_,_,_,d,_,_=>by simp at d
 |f::l,t::a,k,i,b,m,c,d,p,g=>by
  obtain⟨r,o,s,u⟩:=g;have n:=p 0 (by simp) (by simp);simp only[AA,Au]at n;obtain⟨_,x,y⟩:=SV 4000 B f.body t.i i b r o n s;have I:=Wn l a (k+1) r o m c (by grind) (λj q w=>by have:=p (j+1) (by simpa using q) (by grind);grind) u
  grind
theorem WH(c:aW 4000 o0 x1 y2)(d:∀t,t∈y2->∀s,s∈t.i->XE 4000 s)(h:(Ep o0 4000 y2 0 (o0,⟨0,0⟩)).2.E=0)(i)(e:i<L (Ep o0 4000 y2 0 (o0,⟨0,0⟩)).1)(f:i<L o0):(Ep o0 4000 y2 0 (o0,⟨0,0⟩)).1[i].body=o0[i].body:=by have⟨a,b⟩:=Nc c;have⟨g,j,k,l⟩:=Qc a b y2 0 (o0,⟨0,0⟩) d h;grind
theorem sX(a:Fi y2)(b:aW 4000 o0 x1 y2)(k:∀t,t∈y2->∀s,s∈t.i->XE 4000 s)(h:(Ep o0 4000 y2 0 (o0,⟨0,0⟩)).2.E=0)(n:MW B x1 o0 0 0 C R):Se (DN y2) (UX y2) (KV y2 0 0) (Ep o0 4000 y2 0 (o0,⟨0,0⟩)).1 x1:=by have d:=Rq b k h;have w:=WH b k h;have l:=b.len;have N:=Z8 o0 y2 0 0 0 C R l (λj q o=>by rw[AM];exact(b.S j q o).body) n;generalize (Ep o0 4000 y2 0 (o0,⟨0,0⟩)).1=z at*;have y:=d.len;have x:=a.xZ.xE;refine⟨⟨?_,by omega,λi=>?_,λi j=>?_,λi m=>?_,a.ce.xE⟩,a.ce,λf g=>?_,λf g=>?_,λf g=>?_,b.bp⟩;apply A5;grind[DN];intro i u v;simp only[AT,DN];rw[d.I i (by grind)<|by grind];rfl;unfold Lh DN;rw[AI];by_cases q:i<y2;rw[Ag q];exact(a.ak _<|Am q).1.2;rw[AF<|by omega];decide;unfold Xs;by_cases q:i<y2;rw[IN y2 i q];simp only;by_cases r:j<FU y2[i];rw[Ag r];exact(a.var q<|Am _).2;rw[AF<|by omega];decide;rw[KN y2 i q];simp only[List.getElem?_nil,Option.getD_none];decide;rw[d.y i m<|by omega,IN y2 i<|by omega];grind[IN];rw[IN y2 f<|by omega];have:=a.cd (Am<|show f<y2 by omega);grind;rw[d.wZ f g<|by omega,AG,IN y2 f<|by omega]
theorem Yb(h:Fq B P V o0)(d:0<L o0):B<=P:=by have⟨_,b,_⟩:=h;obtain⟨a,l,c,rfl⟩:=CA b;obtain⟨g,rfl⟩:=CH b d;have:=b.lt g Q;omega
def vR(b:Dd)(a:Df):Prop:=∀i (h:i<L b) (c:i<L a),b[i].wZ=a[i].m.map CR
def sN(s:Cd):Bool:=zu (s.size<=4000) && match Dg s s 0 x0 with
 |.inl _=>zr
 |.inr y=>!(FQ (C2 s y) (C2 s y) ⟨0,zr,0⟩).2.2.H && zu ((Od (FQ (C2 s y) (C2 s y) ⟨0,zr,0⟩).1 4000 (FQ (C2 s y) (C2 s y) ⟨0,zr,0⟩).2.1).E=0)
theorem Xh(F V)(hF:EZ F V)(s)(hm:s.size<=E'):
 (∃f p:M,(f≠0/\sN s=zr)/\(∀w,zx F V w->F<=(w:M)->F' zy 29 #[Y' s] w λe o=>e=T' (P' #[Y Z 0 0,fE,G A f,G A p])/\zx (w:M) w o)/\
   (∀w,F' zy 9 #[Y' s] w λe o=>e=T' (P' #[Z' Z,Y Z 0 0,G A f,G A p])/\zx (w:M) w o))\/
 (∃(d:Df) (m:Dd) (z:C8) (v:M),Fi d/\(∀t,t∈d->∀u,u∈t.i->Sx 4000 u)/\(Se (DN d) (UX d) (KV d 0 0) m z/\U7 z m/\U0 4000 z/\vR m d)/\
   (∀w,zx F V w->F<=(w:M)->F' zy 29 #[Y' s] w λe o=>∃(g n X:M) (a:Ch) (l c:M) (U:Ce),e=T' (P' #[Y (T ⟨g,0,Z⟩) n X,N' #[Y a l c,G A v],G A 0,G A 0])/\Gt 4000 U o (Y a l c) d/\(∀k,U k->k<(o:M))/\zx (w:M) w o)/\
   (∀w,F' zy 9 #[Y' s] w λe o=>∃(pb B g n X:M) (U:Ce) (fv sv:H') (p0 c0:M),e=T' (P' #[Z'<|T ⟨pb,0,Z⟩,Y (T ⟨g,0,Z⟩) n X,G A 0,G A 0])/\KO pb B U fv sv m z p0 c0 o/\(w:M)<=pb/\(w:M)<=B/\B<=(o:M)/\zx (w:M) w o/\p0=(d.map λt=>nL 1 t.i).sum/\c0=(d.map λt=>nL 8 t.i).sum)):=by
 by_cases h4:4000<s.size;refine zo ⟨1,0,⟨by decide,by grind[sN]⟩,λw _ _=>cH s h4 hm w,λw=>(pK s h4 hm w).mono ?_⟩;grind[Below.refl];have r:s.size<=4000:=by omega
 cases I:Dg s s 0 x0 with
 |inl p=>
  have hl:Ex s s 0 []=.inl p:=by rw[Pg];have h':Dg s s 0 ⟨[],zr,0,0⟩=.inl p:=I;rw[h'];rfl
  refine zo ⟨2,p,⟨by decide,by grind[sN]⟩,λw _ _=>Uy s p r I w,λw=>(Lz s r w 0 [] λl h=>by grind).mono ?_⟩;grind[Ro]
 |inr y=>
  have K:=iW r I;have hz:=K.ok.end_;have⟨d,v,x,R⟩:=iA<|FQ (C2 s y) (C2 s y) ⟨0,zr,0⟩;have⟨m,yy,z,hR⟩:=iA<|ER ((C2 s y).map CR) (2*(C2 s y)) (C2 s y) ⟨0,Z,0,0⟩ [] [];have⟨p1,p2⟩:=dJ K.ok K.dk r K.len d v x R m yy z hR
  have b6:PJ s ((Gh s s y).tZ.map CR)=(m,yy,z):=by unfold PJ;rw[dN,K.c];exact hR
  cases P:x.H with
  |true=>
   have c1:=p1 P;refine zo ⟨3,x.xN,⟨by decide,by grind[sN]⟩,λw hG H=>Rp F V hF s y r I d v x R P w hG H hz,λw=>(Lz s r w 0 [] λl h=>by rw[K.lex]at h;grind).mono ?_⟩
   intro e o C;unfold Ro at C;rw[K.lex]at C;grind
  |false=>
   have⟨q1,E,q3,q4,q5⟩:=p2 P;have a0:∀t,t∈d->∀u,u∈t.i->XE 4000 u:=λt S u hu=>by have⟨_,_,q⟩:=(Tu K.ok r K.len d v x R P).2.2.1 t S u hu;exact q.shp
   have hA:dM s ((Gh s s y).tZ.map CR) 4000 d=Ep m 4000 d 0 (m,⟨0,0⟩):=by grind[dM]
   have hC:kF s ((Gh s s y).tZ.map CR) 4000 d=Od d 4000 v:=by grind[kF]
   have rd:∀w,F' zy 9 #[s] w λe o=>Ms w s ((Gh s s y).tZ.map CR) (Ep m 4000 d 0 (m,⟨0,0⟩)).1 z yy (Od d 4000 v) e o:=by
    intro w;refine(Lz s r w 4000 d λl h=>by rw[K.lex]at h;grind).mono ?_
    intro e o C;unfold Ro at C;rw[K.lex]at C;grind
   by_cases hc:(Od d 4000 v).E=0;right;have a1:=iC (rf:=m) (N:=s) (c:=(Ep m 4000 d 0 (m,⟨0,0⟩)).2) (by grind);have a6:vO d:=rX (Nc E).1 (Nc E).2 a0 (N:=s) (by grind);have⟨s1,s2⟩:=kB K.ok r K.len d v x R P
   have b4:=YW (s:=s) (y:=y) I;have a5:Fi d:=⟨a6,s1,s2,by have:=kA (tZ:=C2 s y) (qp:=λb=>fF b/\b.size<=4000) (λt S hk=>⟨b4 t S hk,As (K.ok.len t S).1 r⟩) ⟨QY,by decide⟩ (C2 s y) ⟨0,zr,0⟩;grind⟩
   have a9:(CI ((C2 s y).map CR)<|L ((C2 s y).map CR)-1).h=0:=by grind[D7,CR,GK]
   have a2:=VE a9 (C2 s y) ⟨0,Z,0,0⟩ [] [] ⟨by rw[AG];exact K.ok.pos,Ar _,Ar _,Ar _,λ_=>⟨Ad _,Ad _,Ad _⟩⟩ ⟨Q,Q⟩;rw[AG,hR]at a2;have a7:=VB a9 (C2 s y) ⟨0,Z,0,0⟩ [] [] ⟨by rw[AG];exact K.ok.pos,Ar _,Ar _,Ar _,λ_=>⟨Ad _,Ad _,Ad _⟩⟩ λk hk=>Bm hk<|Nat.not_lt_zero k;rw[AG,hR]at a7;have a4:=Wn m d 0 0 0 _ _ E.len (λj a b=>by rw[AM];exact(E.S j a b).body)<|a2 q1;rw[AM,AM]at a4;have a3:=sX a5 E a0 a1.1<|a2 q1;have b7:=WH E a0 a1.1;have b5:U0 4000 z:=by
    have:=iJ (tZ:=(C2 s y).map CR) (mx:=4000) (λi=>by rw[D7];exact As (OF K.ok _).1 r) (2*(C2 s y)) (C2 s y) ⟨0,Z,0,0⟩ [] [] λ_ q=>(AE q).elim
    grind
   have b9:=a3.h.yG;have b0:U7 z (Ep m 4000 d 0 (m,⟨0,0⟩)).1:=λk hk=>by
    have⟨f,hf,hr⟩:=a7 q1 k hk;obtain⟨i,hi,rfl⟩:=AC.1 hf;have b8:i<(Ep m 4000 d 0 (m,⟨0,0⟩)).1:=by rw[(Rq E a0 a1.1).len,<-E.len];exact hi
    grind
   refine⟨d,_,z,v,a5,λt S=>(q3.each t S).2.1,⟨a3,b0,b5,(Rq E a0 a1.1).wZ⟩,λw hG H=>?_,λw=>?_⟩;apply(WG F V hF s y r I d v x R P w hG H hz 4000 q4 q3 _ Q hc).mono;grind;apply(rd w).mono;intro e o C;unfold Ms at C;rw[Bb hc]at C;obtain⟨pb,B,g,X,U,fv,sv,rfl,_,_,b2,b1,a8,H,b3,hb⟩:=C;have h0:0<L (Ep m 4000 d 0 (m,⟨0,0⟩)).1:=by have h1:=a3.h.yG;have h2:=a6.main;grind[DN]
   exact⟨pb,B,g,_,X,U,fv,sv,_,_,Q,⟨b2,a8,b3⟩,b1,H,Yb a8 h0,hb,a4.1,a4.2⟩;refine zo ⟨_,_,⟨hc,by grind[sN]⟩,λw hG H=>Ux F V hF s y r I d v x R P w hG H hz 4000 q4 q3 _ Q hc,λw=>(rd w).mono ?_⟩;grind[Ms]
mutual
def Us:TS->M->M->List (VS×M×M)
 |.mk s [],pl,ca=>[(s,pl,ca)]
 |.mk _ [(_,ts)],pl,ca=>RU ts pl ca
 |.mk _ ((_,ts)::(_,ts2)::_),pl,ca=>RU ts pl ca++RU ts2 (pl+nL 1 ts) (ca+nL 8 ts)
def RU:Dj->M->M->List (VS×M×M)
 |[],_,_=>[]
 |t::ts,pl,ca=>Us t pl ca++RU ts (pl+nK 1 t) (ca+nK 8 t)
end
structure vJ(m:C8)(n:M)(x:VS×M×M)(u:FS):Prop where
 sc:SC x.1 u n
 pl:x.1.e=1->u.t9=x.2.1+1
 g:x.1.e=8->u.t9=x.2.2+1
section
variable{m:C8}{n:M}
mutual
theorem uR:∀(t:TS) (i pl ca:M),FN m n t i pl ca->∀x,x∈Us t pl ca->∃(j:M) (u:FS),m[j]? =u/\vJ m n x u
 |.mk s [],i,pl,ca,h,x,hx=>by obtain⟨u,h1,h2,h3,h4⟩:=h;rw[Us,Ay]at hx;subst hx;exact⟨i,u,h1,h2,h3,h4⟩
 |.mk s [(_,ts)],i,pl,ca,h,x,hx=>by obtain⟨u,_,_,_,_,h5⟩:=h;rw[Us]at hx;exact QM ts _ pl ca h5 x hx
 |.mk s [(_,ts),(_,ts2)],i,pl,ca,h,x,hx=>by
  obtain⟨u,_,_,_,_,h5,h6⟩:=h;rw[Us]at hx;rcases AJ.1 hx with q|q
  .exact QM ts _ pl ca h5 x q
  .exact QM ts2 _ _ _ h6 x q
 |.mk _ (_::_::_::_),_,_,_,h,_,_=>h.elim
theorem QM:∀(ts:Dj) (l:Cf) (pl ca:M),TO m n ts l pl ca->∀x,x∈RU ts pl ca->∃(j:M) (u:FS),m[j]? =u/\vJ m n x u
 |[],_,_,_,_,x,hx=>by grind[RU]
 |t::ts,l,pl,ca,h,x,hx=>by
  obtain⟨j,l',_,h1,h2⟩:=h;rw[RU]at hx;rcases AJ.1 hx with q|q
  .exact uR t j pl ca h1 x q
  .exact QM ts l' _ _ h2 x q
end
theorem Li:∀(d:Dj) (l:Cf) (b a:M),TO m n d l b a->∀k,k∈l->∃t p c,FN m n t k p c/\∀x,x∈Us t p c->x∈RU d b a
 |[],_,_,_,h,k,f=>by have h:_=[]:=h;grind
 |t::d,l,b,a,h,k,f=>by
  obtain⟨j,s,rfl,o,r⟩:=h;rw[RU];rcases AY.1 f with rfl|q
  .exact⟨t,b,a,o,λx e=>BN _ e⟩
  .obtain⟨u,p,c,g,i⟩:=Li d s _ _ r k q;exact⟨u,p,c,g,λx e=>Bs _<|i x e⟩
theorem rD{w:Dj}{l:Cf}{v r:M}(h:TO m n w l v r){k:M}(C:PM m l k):∃t p c,FN m n t k p c/\∀x,x∈Us t p c->x∈RU w v r:=by
 induction C with
 |root q=>grind[Li]
 |@body j k u _ g z B i=>
  have⟨t,p,c,a,b⟩:=i;match t,a,b with
  |.mk s [],a,_=> have⟨f,e,d,_⟩:=a;rw[g]at e;cases e;have:=d.e;have:=d.xE;grind[FK]
  |.mk s [(_,o)],a,b=> have⟨f,e,_,_,_,y⟩:=a;grind[Li,Us]
  |.mk s [(_,o),(_,E)],a,b=> have⟨f,e,_,_,_,y,_⟩:=a;grind[Li,Us]
  |.mk _ (_::_::_::_),a,_=>exact a.elim
 |@other j k u _ g z B i=>
  have⟨t,p,c,a,b⟩:=i;match t,a,b with
  |.mk s [],a,_=> have⟨f,e,d,_⟩:=a;rw[g]at e;cases e;have:=d.e;have:=d.xE;grind[FK]
  |.mk s [(_,o)],a,_=> have⟨f,e,_,_,F,_⟩:=a;grind
  |.mk s [(_,o),(_,E)],a,b=> have⟨f,e,_,_,_,_,H⟩:=a;grind[Li,Us]
  |.mk _ (_::_::_::_),a,_=>exact a.elim
end
theorem rZ{fn:Cc}{par:Cf}{X:FZ}{h:Dd}{m:C8}(S:Se fn par X h m)(C:U7 m h){k:M}{u:FS}(j:m[k]? =u):(u.e=12\/u.e=13)\/∃f x,f<L h/\x∈RU (CP X f).i (CP X f).pl (CP X f).g/\vJ m f x u:=by
 have⟨g,q,r⟩:=C k (Bz.1 j).1;obtain⟨f,i,rfl⟩:=AC.1 q;have⟨t,p,c,a,b⟩:=rD (S.body f i) r;match t,a,b with
 |.mk s [],a,b=> have⟨l,e,v,d,o⟩:=a;rw[j]at e;cases e;exact zn ⟨f,(s,p,c),i,b _<|by grind[Us],v,d,o⟩
 |.mk s [(_,w)],a,_=> have⟨l,e,_,d,_⟩:=a;grind
 |.mk s [(_,w),(_,y)],a,_=> have⟨l,e,_,_,d,_⟩:=a;grind
 |.mk _ (_::_::_::_),a,_=>exact a.elim
structure Vb(fn V:Cc)(xs:List<|VS×M×M)(l:List DX):Prop where
 of:∀u,u∈l->(u.e=11\/u.e=12)\/∃x,x∈xs/\Hn fn V x.1 u x.2.1 x.2.2
 back:∀x,x∈xs->∃u,u∈l/\Hn fn V x.1 u x.2.1 x.2.2
theorem Hn.upd{fn V s u d c}(h:Hn fn V s u d c)(a b):Hn fn V s {u with q:=a,xI:=b} d c:=⟨h.e,h.w,h.func,h.n,h.wU,h.t9,h.call,h.k⟩
theorem oY{l:List DX}{i:M}{f:DX->DX}{t:DX}(h:t∈l):t∈l.modify i f\/f t∈l.modify i f:=by have⟨j,b,e⟩:=AC.1 h;by_cases a:i=j;refine zn<|AC.2 ⟨j,by grind,?_⟩;grind;refine zo<|AC.2 ⟨j,by grind,?_⟩;grind
theorem Vb.mod{fn V d l}(h:Vb fn V d l)(i){f:DX->DX}(c:∀u,∃a b,f u={u with q:=a,xI:=b}):Vb fn V d<|l.modify i f:=by
 refine⟨λu g=>?_,λx j=>?_⟩;rcases MI g with q|⟨v,q,rfl⟩
 exact h.of u q;have⟨a,b,e⟩:=c v;rw[e];rcases h.of v q with r|⟨x,k,o⟩
 exact zo r;exact zn ⟨x,k,o.upd a b⟩;have⟨u,q,r⟩:=h.back x j;rcases oY (i:=i) (f:=f) q with z|z
 grind;have⟨a,b,e⟩:=c u;exact⟨_,z,by rw[e];exact r.upd a b⟩
theorem Vb.snoc{fn V a l u}(h:Vb fn V a l)(d:u.e=11\/u.e=12):Vb fn V a<|l++[u]:=by
 refine⟨λv b=>?_,λx c=>?_⟩;rcases AJ.1 b with q|q
 exact h.of v q;grind;have⟨v,q,r⟩:=h.back x c;grind
theorem Vb.one{fn V a l u}{x:VS×M×M}(h:Vb fn V a l)(d:Hn fn V x.1 u x.2.1 x.2.2):Vb fn V (a++[x])<|l++[u]:=by
 refine⟨λv b=>?_,λy c=>?_⟩;rcases AJ.1 b with q|q
 rcases h.of v q with r|⟨y,g,i⟩
 exact zo r;grind;grind;rcases AJ.1 c with q|q
 have⟨v,e,f⟩:=h.back y q;grind;grind
section
variable{fn:Cc}{par:Cf}{V:Cc}
mutual
theorem ZQ:∀(t:TS) (a:M) (b:Bd) (xs),nC fn par t b.wT->(∃more,V=b.wT++dS t++more)->Vb fn V xs b.f->Vb fn V (xs++Us t b.pl b.g) (Gy fn t a b).f
 |.mk s [],a,b,xs,ho,hV,h=>by obtain⟨more,rfl⟩:=hV;rw[Gy,Us,DK];apply h.one (x:=(s,b.pl,b.g));rw[Bh];exact TD ho.2 a _
 |.mk s [(_,ts)],a,b,xs,ho,hV,h=>by
  obtain⟨hk,ho⟩:=ho;obtain⟨n1,n2,n3⟩:=Hb fn s a b hk;have h1:Vb fn V xs (CV fn s a b).f:=by rw[DK];exact h.snoc hk
  have hV':∃more,V=(CV fn s a b).wT++dL ts++more:=by grind[dS,dB]
  rw[Gy,Us];have I:=λa'=>Nm ts a' (CV fn s a b) xs (by grind) hV' h1
  rw[n2,n3]at I;split
  .exact(I _).mod _ λu=>⟨u.q,_,Q⟩
  .split
   .exact(I _).mod _ λu=>⟨u.q,_,Q⟩
   .omega
 |.mk s [(_,ts),(_,ts2)],a,b,xs,ho,hV,h=>by
  obtain⟨hk,ho,ho2⟩:=ho;obtain⟨n1,n2,n3⟩:=Hb fn s a b<|zo hk;have h1:Vb fn V xs (CV fn s a b).f:=by rw[DK];exact h.snoc<|zo hk
  obtain⟨more,hV⟩:=hV;have e:V=(CV fn s a b).wT++dL ts++(dL ts2++more):=by grind[dS,dB]
  have I:=Nm ts a (CV fn s a b) xs (by grind) ⟨_,e⟩ h1;have R:=GV (fn:=fn) (par:=par) ts a (CV fn s a b) (by grind);rw[Gy,Us,Bb hk];simp only;have I2:=Nm ts2 a ((DI fn ts a<|CV fn s a b).tk b.f<|Dx ts a<|CV fn s a b) _ (by
   show Mn fn par ts2 (DI fn ts a<|CV fn s a b).wT;rw[R.wT,n1];exact ho2) ⟨more,by
   show V=(DI fn ts a<|CV fn s a b).wT++_++_;rw[R.wT,Bh _<|dL ts2];exact e⟩ (I.mod _ λu=>⟨u.q,_,Q⟩)
  have e1:((DI fn ts a<|CV fn s a b).tk b.f<|Dx ts a<|CV fn s a b).pl=b.pl+nL 1 ts:=by show(DI fn ts a<|CV fn s a b).pl=_;rw[R.pl,n2]
  have e2:((DI fn ts a<|CV fn s a b).tk b.f<|Dx ts a<|CV fn s a b).g=b.g+nL 8 ts:=by show(DI fn ts a<|CV fn s a b).g=_;rw[R.g,n3]
  rw[e1,e2,n2,n3]at I2;rw[<-Bh];exact I2.mod _ λu=>⟨_,u.xI,Q⟩
 |.mk _ (_::_::_::_),_,_,_,ho,_,_=>ho.elim
theorem Nm:∀(ts:Dj) (a:M) (b:Bd) (xs),Mn fn par ts b.wT->(∃more,V=b.wT++dL ts++more)->Vb fn V xs b.f->Vb fn V (xs++RU ts b.pl b.g) (DI fn ts a b).f
 |[],a,b,xs,_,_,h=>by grind[DI,RU]
 |[t],a,b,xs,ho,hV,h=>by rw[DI,RU,RU,AN];exact ZQ t a b xs ho.1 (by grind[dL]) h
 |t::t2::ts,a,b,xs,ho,hV,h=>by obtain⟨more,e⟩:=hV;have I:=ZQ t (b.f+IL t) b xs ho.1 ⟨dL (t2::ts)++more,by rw[e];simp only[dL,Bh]⟩ h;have R:=Nn (fn:=fn) (par:=par) t (b.f+IL t) b ho.1;rw[DI,RU,<-Bh];have I2:=Nm (t2::ts) a (Gy fn t (b.f+IL t) b) _ (by rw[R.wT];exact ho.2) ⟨more,by rw[e,R.wT];simp only[dL,Bh]⟩ I;rw[R.pl,R.g]at I2;exact I2
end
end
theorem pJ{fn:Cc}{par:Cf}(t b a)(c:Mn fn par t.i<|t.m.map λp=>p.a):Vb fn (FO fn t b a).y (RU t.i b a) (FO fn t b a).f:=by have R:=GV (fn:=fn) (par:=par) t.i (FG t.i) (XM t b a) c;have:=Nm (V:=(FO fn t b a).y) t.i (FG t.i) (XM t b a) [] c ⟨[],by rw[AN];exact R.wT⟩ ⟨λu d=>(by cases d),λx e=>(by cases e)⟩;rw[A8]at this;exact this
