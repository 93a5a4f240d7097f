/- Part of the proof: ChB ChC ChD ChE CkG CkH CkI. -/
import Derived.Test.YtaningfhibkemaaGreatDoorG03
import Derived.Test.YtaningfhibkemaaGreatDoorG07
set_option maxRecDepth 100000
set_option maxHeartbeats 2000000
namespace Go.Proofs.YtaningfhibkemaaGreatDoor
open Go.RowKit Go.Maps Go.Proofs.Tryz
open Option renaming none->Z,some->T
open Value renaming int->G,slice->Y
open IntKind renaming i64->A
def LH(F:DataW Unit)(b:List TF):Nat->Nat->TS->DataW Unit×CS->DataW Unit×CS
 |0,_,_,x=>x
 |d+1,a,.mk s c,x=>
  if s.kind=11\/s.kind=12 then c.foldl (fun x q=>q.2.foldl (fun x t=>LH F b d (a+1) t x) (x.1,if 6<a+1 then Ca 4 q.1 x.2 else x.2)) x
  else Fp F b s x
def Pa(F:DataW Unit)(b:List TF)(d a:Nat)(q:Nat×List TS)(x:DataW Unit×CS):DataW Unit×CS:=
 q.2.foldl (fun x t=>LH F b d a t x) (x.1,if 6<a then Ca 4 q.1 x.2 else x.2)
def Cz:Nat->TS->Nat
 |0,_=>0
 |d+1,.mk _ a=>1+(a.map (fun q=>(q.2.map (Cz d)).sum)).sum
def OZ:Nat->TS->Prop
 |0,_=>False
 |d+1,.mk s a=>Z6 s/\s.kind<=12/\a.length<=4000/\∀q,q∈a->q.2.length<=4000/\∀t,t∈q.2->OZ d t
def Vu(d:Nat):Prop:=∀(b i a:Nat) (U:Nat->Prop) (j:Value) (f:List TF) (q:Int) (l p m n:Nat) (F g:DataW Unit) (c:CS) (t:TS) (h:Array Value) (w:World),
 Ck b i U j f q l p m n F g c w->Ce d U w t h.toList->OZ d t->n+Cz d t<=4000->a+d<=4001->
 Calls prog 144 #[.pointer (T ⟨b,0,Z⟩),.agg h,G A a] w fun e r=>e=.returned (.tuple #[])/\(∃o,o<=n+Cz d t/\Ck b i U j f q l p m o F (LH F f d a t (g,c)).1 (LH F f d a t (g,c)).2 r)/\O (fun k=>k=b\/k=m) w r
theorem C7.get{d}{U:Nat->Prop}{w g l c q}(h:C7 d U w (Y (T ⟨g,0,Z⟩) l c) q){j}(C:j<q.length):
 ∃(s:VS) (a:Option Addr) (m f:Nat) (b:Option Addr) (n k:Nat),(∀i,i<8->w.cell? ⟨g,j*8+i,Z⟩=(Fc s (Y a m f) (Y b n k))[i]?)/\Ce d U w q[j] (Fc s (Y a m f) (Y b n k)).toList:=by
 obtain⟨p,y,V,X,z⟩:=h;have I:=Ag y;subst I;have u:j<p.length:=by omega
 have v:∀i (o:i<q.length) (B:i<p.length),∃(s:VS) (a:Option Addr) (m f:Nat) (b:Option Addr) (n k:Nat),p[i]=(Fc s (Y a m f) (Y b n k)).toList:=by
  intro i o B;have r:=z i o B;generalize p[i]=S at r;generalize q[i]=t at r;cases d with
  |zero=>exact r.elim
  |succ d=> obtain⟨s,Q⟩:=t;obtain⟨N,R,P,e,L,_,M,_⟩:=r;obtain⟨a,m,f,rfl⟩:=Ad L;obtain⟨b,n,k,rfl⟩:=Ad M;exact⟨s,a,m,f,b,n,k,e⟩
 have H:∀x,x∈p->x.length=8:=by intro x K;obtain⟨i,o,rfl⟩:=iP.1 K;obtain⟨_,_,_,_,_,_,_,E⟩:=v i (by omega) o;rw[E];rfl
 obtain⟨s,a,m,f,b,n,k,e⟩:=v j C u;refine⟨s,a,m,f,b,n,k,fun i o=>?_,by rw[<-e];exact z j C u⟩;have F:=y.cellAt (j*8+i) (by omega);rw[F,CD H u o,e];simp
theorem Fj{a B:Type}(f:B->a->B)(l:List a)(k:Nat)(h:k<l.length)(x:B):(l.drop k).foldl f x=(l.drop (k+1)).foldl f (f x l[k]):=by rw[iD h];rfl
theorem QO(f:TS->Nat)(l:List TS)(k:Nat)(h:k<l.length):((l.drop k).map f).sum=f l[k]+((l.drop (k+1)).map f).sum:=by rw[iD h,iU,jC]
theorem IG(d:Nat)(hS:Vu d)(b P h p:Nat)(U:Nat->Prop)(E:Value)(j:List TF)(M:Int)(L R m n:Nat)(F y:DataW Unit)(c:CS)(a:List TS)(sv:Value)(w:World)
 (K:Ck b P U E j M L R m n F y c w)(hR:C7 d U w sv a)(hO:∀t,t∈a->OZ d t)(hn:n+(a.map (Cz d)).sum<=4000)(hd:h+d<=4001)(hl:a.length<=4000):
 Calls prog 116 #[.pointer (T ⟨b,0,Z⟩),.agg #[G A p,sv],G A h] w fun e w'=>e=.returned (.tuple #[])/\(∃n',n'<=n+(a.map (Cz d)).sum/\Ck b P U E j M L R m n' F (Pa F j d h (p,a) (y,c)).1 (Pa F j d h (p,a) (y,c)).2 w')/\O (fun k=>k=b\/k=m) w w':=by
 have a0:=hR;obtain⟨b7,v,_⟩:=a0;obtain⟨va,vl,vc,rfl⟩:=Ad v;have b5:=Ag v;subst b5;have lb:=Ae K.dK;obtain⟨X,S0,O0,R0,HS⟩:=BB (K.quiet ((O.refl kJ w).alloc (.cells #[G A p,Y va a.length vc] 130))) (W.new w #[G A p,Y va a.length vc] 130) ((O.refl (fun k=>k=b\/k=m) w).alloc (.cells #[G A p,Y va a.length vc] 130)) hR hS;clear K hR v hS;by_cases h6:6<h
 .have b1:(6:Int)<(h:Int):=by omega
  obtain⟨l,Q⟩:∃l,Ca 4 p c=l:=⟨_,rfl⟩;generalize hV:Pa F j d h (p,a) (y,c)=V;have S:D ((a.drop 0).foldl (fun x t=>LH F j d h t x) (y,l)=V):=by rw[<-hV,Pa,jR h6,Q];rfl
  have C1:=J Q;clear hV Q h6;go_enter func116,ntmps116;go_wp2_with(go_at_call 79;refine(Ct b 4 p E M (.map (T L)) (.map (T m)) c _ X.o.dK).mono ?_);rw[C1.o];rintro e b6 ⟨rfl,kw,ow⟩;have K1:=J (X.o.step kw ow);have N:=J (O0.o.trans (ow.mono (fun _ _ q=>.inl q)));have s0:=Ak (W.d8 S0.o ow (by omega)) 1;simp only[gR,gP,gQ]at s0;have z1:=N.o.size;clear kw ow X O0 S0;go_wp2;go_loopw[17] (fun i wr=>∃(k u:Nat) (o:DataW Unit) (r:CS),k<=a.length/\i=G A k/\u+((a.drop k).map (Cz d)).sum<=n+(a.map (Cz d)).sum/\D (Ck b P U E j M L R m u F o r wr)/\D (O (fun k=>k=b\/k=m) w wr)/\D ((a.drop k).foldl (fun x t=>LH F j d h t x) (o,r)=V)) (fun i _=>a.length-(intOf i).toNat)
  case atStart=>exact⟨0,n,y,l,by omega,rfl,by simp,K1,N,S⟩
  case round=>
   obtain⟨k,u,o,r,b2,rfl,a6,z,B,a4⟩:=hrel;clear S K1 N;by_cases I:k<a.length
   .have H:C7 d U wr (Y va a.length vc) a:=C7.d8 R0.o B.o (fun _ hk q=>q.elim (fun e=>z.o.ub (e▸hk)) (fun e=>z.o.um (e▸hk)));have a0:=H;obtain⟨b0,v,_⟩:=a0;obtain⟨g,rfl⟩:=Ap v (by omega);have lg:=(v.lt g rfl).2;obtain⟨s,a1,l1,l,a2,l2,c2,f,a3⟩:=H.get I;have f0:=f 0 (by omega);have f1:=f 1 (by omega);have f2:=f 2 (by omega);have f3:=f 3 (by omega);have f4:=f 4 (by omega);have f5:=f 5 (by omega);have f6:=f 6 (by omega);have f7:=f 7 (by omega);simp only[Fc,gR,gP,gQ,iH]at f0 f1 f2 f3 f4 f5 f6 f7;have a8:=J (Fj (fun x t=>LH F j d h t x) a k I (o,r));have b4:=QO (Cz d) a k I;have a7:=J (hO a[k] (iA _));have a5:=J a3;clear v f H a3;generalize a[k]=t at*;have l0:=B.o.size;have C:=J ((O.refl kJ wr).alloc (.cells #[G A s.kind,.string s.tg.d9,G A s.tg.l7,.string s.sr.d9,G A s.sr.l7,G A s.field,Y a1 l1 l,Y a2 l2 c2] 230));go_wp2_with(go_at_call 144;refine(HS.o b P h U E j M L R m u F o r t #[G A s.kind,.string s.tg.d9,G A s.tg.l7,.string s.sr.d9,G A s.sr.l7,G A s.field,Y a1 l1 l,Y a2 l2 c2] _ (z.o.quiet C.o) (Ce.d8 a5.o C.o (fun _ _ q=>q)) a7.o (by omega) hd).mono ?_;rintro e w2 ⟨rfl,⟨n2,b3,k2⟩,o2⟩);go_round
    case rel=>exact⟨k+1,n2,_,_,by omega,by go_num,by omega,J k2,J (B.o.trans ((C.o.mono (fun _ _ q=>q.elim)).trans o2)),J (a8.o.symm.trans a4.o)⟩
    case measure=>simp[intOf];omega
   .have e:k=a.length:=by omega
    subst e;have a9:(o,r)=V:=by have:=a4.o;simpa using this
    subst a9;go_wp2;go_end0;simp at a6;exact⟨rfl,⟨u,by omega,z.o⟩,B.o⟩
 .have b1:¬(6:Int)<(h:Int):=by omega
  obtain⟨l,Q⟩:∃l,c=l:=⟨_,rfl⟩;generalize hV:Pa F j d h (p,a) (y,c)=V;have S:D ((a.drop 0).foldl (fun x t=>LH F j d h t x) (y,l)=V):=by rw[<-hV,Pa,jQ h6,Q];rfl
  subst Q;clear hV h6;go_enter func116,ntmps116;go_wp2;have K1:=X;have N:=O0;clear X O0 S0;go_loopw[17] (fun i wr=>∃(k u:Nat) (o:DataW Unit) (r:CS),k<=a.length/\i=G A k/\u+((a.drop k).map (Cz d)).sum<=n+(a.map (Cz d)).sum/\D (Ck b P U E j M L R m u F o r wr)/\D (O (fun k=>k=b\/k=m) w wr)/\D ((a.drop k).foldl (fun x t=>LH F j d h t x) (o,r)=V)) (fun i _=>a.length-(intOf i).toNat)
  case atStart=>exact⟨0,n,y,c,by omega,rfl,by simp,K1,N,S⟩
  case round=>
   obtain⟨k,u,o,r,b2,rfl,a6,z,B,a4⟩:=hrel;clear S K1 N;by_cases I:k<a.length
   .have H:C7 d U wr (Y va a.length vc) a:=C7.d8 R0.o B.o (fun _ hk q=>q.elim (fun e=>z.o.ub (e▸hk)) (fun e=>z.o.um (e▸hk)));have a0:=H;obtain⟨b0,v,_⟩:=a0;obtain⟨g,rfl⟩:=Ap v (by omega);have lg:=(v.lt g rfl).2;obtain⟨s,a1,l1,l,a2,l2,c2,f,a3⟩:=H.get I;have f0:=f 0 (by omega);have f1:=f 1 (by omega);have f2:=f 2 (by omega);have f3:=f 3 (by omega);have f4:=f 4 (by omega);have f5:=f 5 (by omega);have f6:=f 6 (by omega);have f7:=f 7 (by omega);simp only[Fc,gR,gP,gQ,iH]at f0 f1 f2 f3 f4 f5 f6 f7;have a8:=J (Fj (fun x t=>LH F j d h t x) a k I (o,r));have b4:=QO (Cz d) a k I;have a7:=J (hO a[k] (iA _));have a5:=J a3;clear v f H a3;generalize a[k]=t at*;have l0:=B.o.size;have C:=J ((O.refl kJ wr).alloc (.cells #[G A s.kind,.string s.tg.d9,G A s.tg.l7,.string s.sr.d9,G A s.sr.l7,G A s.field,Y a1 l1 l,Y a2 l2 c2] 230));go_wp2_with(go_at_call 144;refine(HS.o b P h U E j M L R m u F o r t #[G A s.kind,.string s.tg.d9,G A s.tg.l7,.string s.sr.d9,G A s.sr.l7,G A s.field,Y a1 l1 l,Y a2 l2 c2] _ (z.o.quiet C.o) (Ce.d8 a5.o C.o (fun _ _ q=>q)) a7.o (by omega) hd).mono ?_;rintro e w2 ⟨rfl,⟨n2,b3,k2⟩,o2⟩);go_round
    case rel=>exact⟨k+1,n2,_,_,by omega,by go_num,by omega,J k2,J (B.o.trans ((C.o.mono (fun _ _ q=>q.elim)).trans o2)),J (a8.o.symm.trans a4.o)⟩
    case measure=>simp[intOf];omega
   .have e:k=a.length:=by omega
    subst e;have a9:(o,r)=V:=by have:=a4.o;simpa using this
    subst a9;go_wp2;go_end0;simp at a6;exact⟨rfl,⟨u,by omega,z.o⟩,B.o⟩
structure RK(j wb B p o:Nat)(U:Nat->Prop)(fv m:Value)(d:List RF)(r:List FS)(c:CS)(w:World):Prop where
 pr:Cg j fv m p o w
 fn:Cw B w fv d
 st:BA B U w m r
 wr:Jc wb c w
def KX(wb B:Nat)(fv:Value)(w:World)(k:Nat):Prop:=k=wb\/fv.ownBlock=T k\/(B<=k/\∃a b,w.heap[k]? =T (.cells a 9 b))
def DW(wb B:Nat)(fv:Value)(w l:World):Prop:=O (KX wb B fv w) w l
theorem DW.refl(wb B fv w):DW wb B fv w w:=O.refl _ _
theorem DW.trans{wb B:Nat}{fv:Value}{a b c:World}(h:DW wb B fv a b)(k:DW wb B fv b c):DW wb B fv a c:=by
 refine⟨k.os.trans h.os,k.tape.trans h.tape,k.output.trans h.output,iG h.size k.size,fun i g f=>?_⟩;have e:=h.block i g f;rw[k.block i (iI g h.size) ?_,e];rintro(q|q|⟨t,n,s,q⟩)
 .exact f (.inl q)
 .exact f (.inr (.inl q))
 .rw[e]at q;exact f (.inr (.inr ⟨t,n,s,q⟩))
theorem DW.dG{wb B fv a b}(h:O (fun k=>k=wb) a b):DW wb B fv a b:=h.mono (fun _ _ q=>.inl q)
theorem DW.cW{wb B fv a b}(h:O kJ a b):DW wb B fv a b:=h.mono (fun _ _ q=>q.elim)
theorem DW.cI{wb B b fv c t w l}(h:DW wb B fv w l)(e:W b c t w)(f:b≠wb)(g:fv.ownBlock≠T b)(i:t≠9):W b c t l:=by
 refine e.d8 h ?_;rintro(q|q|⟨_,k,n,q⟩)
 .exact f q
 .exact g q
 .have a:w.heap[b]? =_:=e;rw[q]at a;simp only[gX,iE]at a;exact i a.2.1.symm
theorem DW.row{wb B fv e g v n i w l}(h:DW wb B fv w l)(y:w.ownsRow B e g v n i){c}(E:Jc wb c w){d}(x:Cw B w fv d)(s:e≠82)(t:e≠53)(u:e≠9):l.ownsRow B e g v n i:=by
 refine Ai y h ?_;rintro k I N (q|q|⟨_,M,P,q⟩) b
 .subst q;have f:w.heap[k]? =_:=E;rw[b]at f;simp only[gX,iE]at f;exact s f.2.1
 .obtain⟨K,z,_⟩:=x;rcases z.2 with⟨F,_⟩|⟨Q,H,L,C,_,a,_⟩
  .rw[F]at q;simp[Value.ownBlock]at q
  .rw[C]at q;simp[Value.ownBlock]at q;subst q;rw[b]at a;simp only[gX,iE]at a;exact t a.2.1
 .rw[b]at q;simp only[gX,iE]at q;exact u q.2.1
section
variable{j wb B p o:Nat}{U:Nat->Prop}{fv m:Value}{d:List RF}{r:List FS}{c:CS}{w l:World}
theorem RK.dU(K:RK j wb B p o U fv m d r c w):∀k,fv.ownBlock=T k->k≠wb/\k≠j:=by intro k a;obtain⟨e,b,_⟩:=K.fn;exact⟨Am b K.wr (by decide) k a,Am b K.pr (by decide) k a⟩
theorem RK.gH(K:RK j wb B p o U fv m d r c w):∀k,m.ownBlock=T k->k≠wb/\k≠j:=by intro k a;obtain⟨e,b,_⟩:=K.st;exact⟨Am b K.wr (by decide) k a,Am b K.pr (by decide) k a⟩
theorem RK.pw(K:RK j wb B p o U fv m d r c w):j≠wb:=K.pr.cI.ne K.wr (by decide)
theorem RK.s9(K:RK j wb B p o U fv m d r c w)(a:O kJ w l):RK j wb B p o U fv m d r c l:=
 ⟨K.pr.cI.d8 a id,K.fn.s9 a,K.st.s9 a,W.d8 K.wr a id⟩
theorem RK.add{i:CS}(K:RK j wb B p o U fv m d r c w)(q:Jc wb i l)(g:O (fun k=>k=wb) w l):RK j wb B p o U fv m d r i l:=by
 have n:∀(k:Nat) (b:Array Value) (t:TypeId) (e:Nat×Nat),k=wb->w.heap[k]? =T (.cells b t e)->t=82:=by intro k b t e a f;subst a;have h:w.heap[k]? =_:=K.wr;rw[f]at h;simp only[gX,iE]at h;exact h.2.1
 exact⟨K.pr.cI.d8 g K.pw,K.fn.d8 g (fun k a=>(K.dU k a).1) (fun k b t e a f=>by rw[n k b t e a f];decide),K.st.d8 g (fun k a=>(K.gH k a).1) (fun k b t e a f=>by rw[n k b t e a f];decide),q⟩
end
def DS(a:List ByteArray)(t:Tk)(c:CS):CS:=if 0<=BC a t.d9 0 then c else Bi 6 t.pos c
def Ev(d:List RF)(t:Tk)(a:Int)(c:CS):CS:=
 if 0<=BC (d.map fun f=>f.name.d9) t.d9 0 then
  (if 0<=a/\((((d.map fun f=>f.cQ.length)[(BC (d.map fun f=>f.name.d9) t.d9 0).toNat]?).getD 0:Nat):Int)≠a then Bi 7 t.pos c else c)
 else Bi 6 t.pos c
def Dt(b:List ByteArray)(t:Tk)(c:CS):CS:=
 let a:=if 12<=b.length then Bi 4 t.pos c else c
 if 0<=BC b t.d9 0 then Bi 5 t.pos a else a
theorem Df(j wb B p o b:Nat)(U:Nat->Prop)(fv m:Value)(d:List RF)(r:List FS)(c:CS)(t:Tk)(w:World)(K:RK j wb B p o U fv m d r c w)(H:b<d.length)(hn:d.length<=4001)(y:d[b].t8.length<=4001):
 Calls prog 56 #[.pointer (T ⟨j,0,Z⟩),.pointer (T ⟨wb,0,Z⟩),G A b,JW t] w fun e l=>e=.returned (.tuple #[])/\RK j wb B p o U fv m d r (DS d[b].t8 t c) l/\DW wb B fv w l:=by
 have N:=K.pr.cI.cell 0;simp at N;have lp:=Ae K.pr;have lw:=Ae K.wr;have F:=K.fn;obtain⟨V,i,_⟩:=F;obtain⟨va,vl,vc,rfl⟩:=Ad i;have L:=Ag i;subst L;obtain⟨g,rfl⟩:=Ap i (by omega);have lg:=(i.lt g rfl).2;obtain⟨tv,S,vv,u,_,_,s⟩:=K.fn.get H;have C:=u 6 (by omega);simp only[ER,gR,gP,gQ]at C;obtain⟨P,R,Q,rfl⟩:=Ad s;have X:(b:Int)<(d.length:Int):=by omega
 have k:=J K;have z:=J s;clear u i K s;generalize M:d[b].t8=a at*;clear M;unfold JW;have x:∀n:Nat,Au B (((w.alloc (.cells #[.string t.d9,G A t.pos,G A t.sort] 49))).drewN n) (Y P R Q) a:=fun n=>Ac z.o (((O.refl kJ w).alloc _).drewN n) (fun _ _ q=>q)
 by_cases h:0<=BC a t.d9 0
 .have f:DS a t c=c:=by simp[DS,h]
  rw[f];have E:decide (BC a t.d9 0<0)=false:=by simp;exact h
  clear f h;go_enter func56,ntmps56;go_wp2;go_quiet((go_at_call 55;refine Calls.quiet_of_same (Gj B _ a t.d9 _ (x _) y)));go_wp2;go_end0;exact⟨rfl,k.o.s9 (((O.refl _ w).alloc _).drewN _),DW.cW (((O.refl _ w).alloc _).drewN _)⟩
 .have f:DS a t c=Bi 6 t.pos c:=by simp[DS,h]
  rw[f];have E:decide (BC a t.d9 0<0)=true:=by simp;omega
  clear f h;go_enter func56,ntmps56;go_wp2;go_quiet((go_at_call 55;refine Calls.quiet_of_same (Gj B _ a t.d9 _ (x _) y)));go_wp2_with(go_at_call 19;refine(Cr wb 6 t.pos c _ (k.o.s9 (((O.refl _ w).alloc _).drewN _)).wr).mono ?_);rintro e w2 ⟨rfl,I,v⟩;go_wp2;go_end0;exact⟨rfl,(k.o.s9 (((O.refl _ w).alloc _).drewN _)).add I v,(DW.cW (((O.refl _ w).alloc _).drewN _)).trans (DW.dG v)⟩
theorem Ix(j wb B p o:Nat)(U:Nat->Prop)(fv m:Value)(d:List RF)(r:List FS)(c:CS)(t:Tk)(z:Int)(w:World)(K:RK j wb B p o U fv m d r c w)(E:d.length<=4001)(F:z= -1\/∃a:Nat,z=a/\a<=4001):
 Calls prog 100 #[.pointer (T ⟨j,0,Z⟩),.pointer (T ⟨wb,0,Z⟩),JW t,G A z] w fun e l=>e=.returned (.tuple #[])/\RK j wb B p o U fv m d r (Ev d t z c) l/\DW wb B fv w l:=by
 have p0:=K.pr.cI.cell 0;simp at p0;have lp:=Ae K.pr;have lw:=Ae K.wr;have S:=K.fn;obtain⟨cs,s,_⟩:=S;obtain⟨va,vl,vc,rfl⟩:=Ad s;have V:=Ag s;subst V;have k:=J K;have C:=C0 (d.map fun f=>f.name.d9) t.d9 0;have b:=J ((O.refl kJ w).alloc (.cells #[.string t.d9,G A t.pos,G A t.sort] 49));unfold JW;by_cases x:0<=BC (d.map fun f=>f.name.d9) t.d9 0
 .obtain⟨i,q⟩:∃i:Nat,BC (d.map fun f=>f.name.d9) t.d9 0=i:=⟨(BC (d.map fun f=>f.name.d9) t.d9 0).toNat,by omega⟩;have P:i<d.length:=by have:=C.2.2;simp only[iT]at this;omega
  obtain⟨g,rfl⟩:=Ap s (by omega);have lg:=(s.lt g rfl).2;obtain⟨tv,bv,vv,M,I,_,_⟩:=K.fn.get P;have Q:=M 3 (by omega);simp only[ER,gR,gP,gQ]at Q;obtain⟨xa,u,xc,rfl⟩:=Ad I;have a1:=Ag I;have a3:(i:Int)<(d.length:Int):=by omega
  have a2:decide ((i:Int)<0)=false:=by simp
  have N:(((d.map fun f=>f.cQ.length)[i]?).getD 0:Nat)=u:=by rw[iV,gV P,a1];rfl
  clear M s K I C;rcases F with F|⟨a,rfl,ha⟩
  .subst F;have n:Ev d t (-1) c=c:=by simp[Ev,x]
   rw[n];clear n x;go_enter func100,ntmps100;go_wp2_with(go_at_call 20;refine(DP B j p o _ m d t.d9 _ (k.o.s9 b.o).pr (k.o.s9 b.o).fn E).mono ?_;rw[q];rintro e l ⟨rfl,h⟩;have h:=h.symm;subst h);go_end0;exact⟨rfl,k.o.s9 b.o,DW.cW b.o⟩
  .by_cases L:u=a
   .have n:Ev d t a c=c:=by simp only[Ev,q,Int.toNat_natCast,N,L];simp
    rw[n];have X:((u:Int) !=(a:Int))=false:=by simp[L]
    have a0:((u:Int)==(a:Int))=true:=by simp[L]
    have R:decide ((0:Int)<=(a:Int))=true:=by simp
    clear n x;go_enter func100,ntmps100;go_wp2_with(go_at_call 20;refine(DP B j p o _ m d t.d9 _ (k.o.s9 b.o).pr (k.o.s9 b.o).fn E).mono ?_;rw[q];rintro e l ⟨rfl,h⟩;have h:=h.symm;subst h);go_end0;exact⟨rfl,k.o.s9 b.o,DW.cW b.o⟩
   .have n:Ev d t a c=Bi 7 t.pos c:=by simp only[Ev,q,Int.toNat_natCast,N];rw[jR (by omega),jR ⟨by omega,by omega⟩]
    rw[n];have X:((u:Int) !=(a:Int))=true:=by simp;omega
    have a0:((u:Int)==(a:Int))=false:=by simp;omega
    have R:decide ((0:Int)<=(a:Int))=true:=by simp
    clear n x;go_enter func100,ntmps100;go_wp2_with(first|(go_at_call 20;refine(DP B j p o _ m d t.d9 _ (k.o.s9 b.o).pr (k.o.s9 b.o).fn E).mono ?_;rw[q];rintro e l ⟨rfl,h⟩;have h:=h.symm;subst h)|(go_at_call 19;refine(Cr wb 7 t.pos c _ (k.o.s9 b.o).wr).mono ?_;rintro e w2 ⟨rfl,H,y⟩));go_end0;exact⟨rfl,(k.o.s9 b.o).add H y,(DW.cW b.o).trans (DW.dG y)⟩
 .have q:BC (d.map fun f=>f.name.d9) t.d9 0= -1:=by have:=C.2.1;omega
  have n:Ev d t z c=Bi 6 t.pos c:=by simp[Ev,q]
  rw[n];clear n x s K C;go_enter func100,ntmps100;go_wp2_with(first|(go_at_call 20;refine(DP B j p o _ m d t.d9 _ (k.o.s9 b.o).pr (k.o.s9 b.o).fn E).mono ?_;rw[q];rintro e l ⟨rfl,h⟩;have h:=h.symm;subst h)|(go_at_call 19;refine(Cr wb 6 t.pos c _ (k.o.s9 b.o).wr).mono ?_;rintro e w2 ⟨rfl,H,y⟩));refine gZ (v:=.tuple #[]) (by simp[results,results100,go_sem]) rfl ⟨rfl,(k.o.s9 b.o).add H y,(DW.cW b.o).trans (DW.dG y)⟩
theorem Tryz.infoStr:(Tryz.prog.info? 9).map (fun i=>(i.zero,i.size,i.bytes))=T (T (.string ByteArray.empty),1,16):=by kernel_rfl
theorem Jo{s:Nat}:∀{a:List (List Value)},(∀c,c∈a->c.length=s)->∀{i j:Nat} (d:i<a.length),j<s->∀u,a.flatten.set (i*s+j) u=(a.set i (a[i].set j u)).flatten
 |[],_,_,_,d,_,_=>by simp at d
 |c::a,f,i,j,d,g,u=>by
  have b:=f c (jP ..);cases i with
  |zero=> simp only[Nat.zero_mul,iY,List.flatten_cons,kG,iN];rw[List.set_append_left _ _ (by omega)]
  |succ i=>
   simp only[List.flatten_cons,kH,jH];rw[List.set_append_right _ _ (by rw[b,Nat.succ_mul];omega),b];have e:(i+1)*s+j-s=i*s+j:=by rw[Nat.succ_mul];omega
   rw[e,Jo (fun c b=>f c (iK _ b)) (by simpa using d) g u]
def Qf(f:RF)(s:ByteArray):RF:={f with t8:=f.t8++[s]}
theorem Cw.decl{B w a3 u g l c b r C p s}(h:Cw B w (Y (T ⟨g,0,Z⟩) l c) r)(hi:b<r.length)(a4:w.cell? ⟨g,b*7+6,Z⟩=T C)
 (hW:O kJ w a3)(hg:a3.grownBy u C.ownBlock)(b3:u.ownsRow B 9 1 p (r[b].t8.length+1) (r[b].t8.map Value.string++[.string s]))(a1:∀k,p.ownBlock=T k->C.ownBlock=T k\/w.heap.size<=k):
 Cw B (u.setCell ⟨g,b*7+6,Z⟩ p) (Y (T ⟨g,0,Z⟩) l c) (r.set b (Qf r[b] s))/\O (fun k=>k=g\/C.ownBlock=T k) w (u.setCell ⟨g,b*7+6,Z⟩ p)/\∀k,C.ownBlock=T k->B<=k/\∃o f,w.heap[k]? =T (.cells o 9 f):=by
 obtain⟨o,H,hl,P,L⟩:=h;have b7:=Ag H;subst b7;have z:b<o.length:=by omega
 have h7:∀x,x∈o->x.length=7:=by intro x hx;obtain⟨j,F,rfl⟩:=iP.1 hx;obtain⟨_,_,_,e,_⟩:=P j F (by omega);rw[e];rfl
 obtain⟨tv,bv,K,e,h1,h2,S⟩:=P b z hi;have b4:K=C:=by have U:=H.cellAt (b*7+6) (by omega);rw[U,CD h7 z (by omega),e]at a4;simpa[ER]using a4
 subst b4;have a2:QX o[b]=K:=by rw[e];rfl
 have I:∀k,K.ownBlock=T k->B<=k/\∃o f,w.heap[k]? =T (.cells o 9 f):=by
  intro k a;refine⟨(S.lt k a).1,?_⟩;rcases S.2 with⟨q,_⟩|⟨g',b8,b9,hv,_,hh,_⟩
  .rw[q]at a;simp[Value.ownBlock]at a
  .rw[hv]at a;simp[Value.ownBlock]at a;subst a;exact⟨_,_,hh⟩
 obtain⟨gc,b2⟩:=DU H;have a8:∀k,K.ownBlock=T k->k≠g:=Am S b2 (by decide);have v:O (fun k=>K.ownBlock=T k) w u:=O.grown (hW.mono (fun _ _ q=>q.elim)) hg (fun k a=>.inl a);have y:=(O.refl (fun k=>k=g) u).t9 (b*7+6) p;have a9:u.ownsRow B 53 7 (Y (T ⟨g,0,Z⟩) r.length c) r.length o.flatten:=Ac H v (fun k a q=>by simp[Value.ownBlock]at a;exact a8 k q a.symm)
 have c2:=(H.lt g rfl).2;have b5:∀k,p.ownBlock=T k->k≠g:=fun k a=>by
  rcases a1 k a with q|q
  .exact a8 k q
  .omega
 have E:∀(k:Nat) (n:Array Value) (t:TypeId) (f:Nat×Nat),k=g->u.heap[k]? =T (.cells n t f)->t≠3/\t≠49/\t≠9:=by intro k n t f a U;subst a;obtain⟨c0,V⟩:=DU a9;rw[U]at V;simp only[gX,iE]at V;rw[V.2.1];decide
 refine⟨⟨o.set b (o[b].set 6 p),?_,by simp[hl],?_,?_⟩,?_,I⟩
 .have:=(a9.stored (b*7+6) p).1;rw[Jo h7 z (by omega)]at this;simpa using this
 .intro j b1 c1;by_cases F:b=j
  .subst F;simp only[List.getElem_set_self];refine⟨tv,bv,p,by rw[e];rfl,?_,?_,?_⟩
   .refine Ai (Ai h1 v (fun k n f a q=>?_)) y (fun k n f a q=>(E k n _ f a q).2.1 rfl);obtain⟨_,Q,R,d⟩:=I k a;rw[q]at d;simp only[gX,iE]at d;exact jY d.2.1 (by decide)
   .refine Ai (Ai h2 v (fun k n f a q=>?_)) y (fun k n f a q=>(E k n _ f a q).1 rfl);obtain⟨_,Q,R,d⟩:=I k a;rw[q]at d;simp only[gX,iE]at d;exact jY d.2.1 (by decide)
   .have:=Ac b3 y b5;unfold Au Qf;simpa using this
  .simp only[List.getElem_set_ne F];have a6:j<o.length:=by simpa using b1
   obtain⟨tj,bj,vj,ej,j1,j2,j3⟩:=P j a6 (by omega);have b6:QX o[j]=vj:=by rw[ej];rfl
   refine⟨tj,bj,vj,ej,?_,?_,?_⟩
   .refine Ai (Ai j1 v (fun k n f a q=>?_)) y (fun k n f a q=>(E k n _ f a q).2.1 rfl);obtain⟨_,Q,R,d⟩:=I k a;rw[q]at d;simp only[gX,iE]at d;exact jY d.2.1 (by decide)
   .refine Ai (Ai j2 v (fun k n f a q=>?_)) y (fun k n f a q=>(E k n _ f a q).1 rfl);obtain⟨_,Q,R,d⟩:=I k a;rw[q]at d;simp only[gX,iE]at d;exact jY d.2.1 (by decide)
   .refine Ai (Ac j3 v (fun k a q=>?_)) y (fun k n f a q=>(E k n _ f a q).2.2 rfl);exact L b j z a6 F k (by rw[a2];exact q) (by rw[b6];exact a)
 .intro i j M N a0 k a;simp only[jV]at M N;have a7:∀m (hm:m<o.length) k,(QX o[m]).ownBlock=T k->k<w.heap.size:=by intro m hm k a;obtain⟨_,_,vm,em,_,_,m3⟩:=P m hm (by omega);rw[em]at a;exact(m3.lt k a).2
  have b0:QX (o[b].set 6 p)=p:=by rw[e];rfl
  by_cases X:b=i
  .subst X;rw[List.getElem_set_self,b0]at a;rw[List.getElem_set_ne a0];intro q;rcases a1 k a with d|d
   .exact L b j z N a0 k (by rw[a2];exact d) q
   .have:=a7 j N k q;omega
  .rw[List.getElem_set_ne X]at a;by_cases a5:b=j
   .subst a5;rw[List.getElem_set_self,b0];intro q;rcases a1 k q with d|d
    .exact L b i z M X k (by rw[a2];exact d) a
    .have:=a7 i M k a;omega
   .rw[List.getElem_set_ne a5];exact L i j M N a0 k a
 .exact(v.mono (fun k _ q=>.inr q)).trans (y.mono (fun k _ q=>.inl q))
theorem RK.decl{C r B E s g l h:Nat}{U:Nat->Prop}{F:Value}{H v:List RF}{x:List FS}{c:CS}{m:Value}{w n:World}(K:RK C r B E s U (Y (T ⟨g,0,Z⟩) l h) F H x c w)(hF:Cw B n (Y (T ⟨g,0,Z⟩) l h) v)(j:O (fun k=>k=g\/m.ownBlock=T k) w n)(y:∀k,m.ownBlock=T k->B<=k/\∃u f,w.heap[k]? =T (.cells u 9 f)):
 RK C r B E s U (Y (T ⟨g,0,Z⟩) l h) F v x c n/\DW r B (Y (T ⟨g,0,Z⟩) l h) w n:=by
 have N:=K.fn;obtain⟨u,Q,_⟩:=N;obtain⟨gc,o⟩:=DU Q;have p:∀(k:Nat) (d:Array Value) (t:TypeId) (f:Nat×Nat),(k=g\/m.ownBlock=T k)->w.heap[k]? =T (.cells d t f)->t=53\/t=9:=by
  rintro k d t f (a|a) i
  .subst a;rw[i]at o;simp only[gX,iE]at o;exact .inl o.2.1
  .obtain⟨_,a2,a3,q⟩:=y k a;rw[i]at q;simp only[gX,iE]at q;exact .inr q.2.1
 have hK:=K.dU g rfl;have z:∀(b:Nat) (d:Array Value) (t:TypeId),W b d t w->t≠53->t≠9->¬(b=g\/m.ownBlock=T b):=fun b d t M I L q=>(p b d t (0,0) q M).elim I L
 refine⟨⟨K.pr.cI.d8 j (z _ _ _ K.pr.cI (by decide) (by decide)),hF,K.st.d8 j (fun k a q=>?_) (fun k d t f a i=>?_),W.d8 K.wr j (z _ _ _ K.wr (by decide) (by decide))⟩,j.mono (fun k _ q=>?_)⟩
 .obtain⟨a0,R,_⟩:=K.st;rcases R.2 with⟨V,_⟩|⟨g',X,a1,S,_,P,_⟩
  .rw[V]at a;simp[Value.ownBlock]at a
  .rw[S]at a;simp[Value.ownBlock]at a;subst a;exact(p _ _ _ _ q P).elim (by decide) (by decide)
 .rcases p k d t f a i with e|e<;>(rw[e];decide)
 .rcases q with q|q
  .exact .inr (.inl (by rw[q];rfl))
  .exact .inr (.inr (y k q))
theorem O.cell{X:Nat->Prop}{w a b}(d:O X w a)(i)(c:b<w.heap.size)(e:¬X b):a.cell? ⟨b,i,Z⟩=w.cell? ⟨b,i,Z⟩:=gT (d.block b c e)
theorem JH(pb o B pl ca d:Nat)(U:Nat->Prop)(fv sv:Value)(H:List RF)(fs:List FS)(c:CS)(t:Tk)(w:World)(K:RK pb o B pl ca U fv sv H fs c w)(hi:d<H.length)(hn:H.length<=4001)(hv:H[d].t8.length<=4001):
 Calls prog 21 #[.pointer (T ⟨pb,0,Z⟩),.pointer (T ⟨o,0,Z⟩),G A d,JW t] w fun e w'=>e=.returned (.tuple #[])/\RK pb o B pl ca U fv sv (H.set d (Qf H[d] t.d9)) fs (Dt H[d].t8 t c) w'/\DW o B fv w w':=by
 obtain⟨i0,b5,b7,b8,b9⟩:=info_parts Tryz.infoStr;have p0:=K.pr.cI.cell 0;simp at p0;have lp:=Ae K.pr;have lw:=Ae K.wr;have a0:=K.fn;obtain⟨cs,p1,_⟩:=a0;obtain⟨va,vl,vc,rfl⟩:=Ad p1;have d4:=Ag p1;subst d4;obtain⟨g,rfl⟩:=Ap p1 (by omega);have lg:=(p1.lt g rfl).2;obtain⟨tv,bv,vv,hc,_,_,b6⟩:=K.fn.get hi;have c6:=hc 6 (by omega);simp only[ER,gR,gP,gQ]at c6;obtain⟨xa,xl,xc,rfl⟩:=Ad b6;have d5:=Ag b6;have e2:(d:Int)<(H.length:Int):=by omega
 obtain⟨m,HT,HK,b3⟩:=Ba ((O.refl kJ w).alloc (.cells #[.string t.d9,G A t.pos,G A t.sort] 49)) (W.new w #[.string t.d9,G A t.pos,G A t.sort] 49) K b6;have d1:=(K.dU g rfl).1;clear hc p1 K b6;generalize d2:H[d].t8=a at*;have a2:=J d2;clear d2;subst d5;unfold JW;by_cases b4:12<=a.length
 .have d7:decide ((12:Int)<=(a.length:Int))=true:=by simp;omega
  by_cases h0:0<=BC a t.d9 0
  .have v:=h0;have N:Dt a t c=Bi 5 t.pos (Bi 4 t.pos c):=by simp only[Dt,jR b4,jR h0]
   have c3:decide ((0:Int)<=BC a t.d9 0)=true:=by simp;omega
   rw[N];clear N;go_enter func21,ntmps21;go_wp2_with(go_at_call 19;refine(Cr o 4 t.pos c _ (HK.o.s9 m.o).wr).mono ?_;rintro e E ⟨rfl,b1,r⟩);obtain⟨K2,I,F2⟩:=Ax ((HK.o.s9 m.o).add b1 r) (W.d8 HT.o r (by omega)) ((DW.cW (wb:=o) (B:=B) (fv:=(Y (T ⟨g,0,Z⟩) H.length vc)) m.o).trans (DW.dG r));have d3:=(r.cell (d*7+6) (by simp;omega) d1).trans ((m.o.cell (d*7+6) lg id).trans c6);obtain⟨c7,c8⟩:=I.o.e2 0 1;simp only[gR,gP,gQ]at c7 c8;have hq:∀n:Nat,Au B (E.drewN n) (Y xa a.length xc) a:=fun n=>Ac (X:=kJ) (Ai (Ac b3.o m.o (fun _ _ q=>q)) r (fun k ds fz Q=>C6 (HK.o.s9 m.o).wr (by decide) k ds fz Q)) ((O.refl _ E).drewN n) (fun _ _ q=>q)
   have d8:g<E.heap.size:=by have:=r.size;simp at this;omega
   have e1:o<E.heap.size:=by have:=r.size;simp at this;omega
   have d9:=Ae I.o;clear b1 r;go_quiet((go_at_call 55;refine Calls.quiet_of_same (Gj B _ _ t.d9 _ (hq _) hv)));have p:D (O kJ E (E.drewN nq)):=(O.refl _ _).drewN nq;go_wp2_with(go_at_call 19;refine(Cr o 5 t.pos (Bi 4 t.pos c) _ (K2.o.s9 p.o).wr).mono ?_;rintro e f ⟨rfl,b2,a1⟩);obtain⟨j,F,FT⟩:=Ax ((K2.o.s9 p.o).add b2 a1) (W.d8 (W.d8 I.o p.o id) a1 (by omega)) ((F2.o.trans (DW.cW p.o)).trans (DW.dG a1));clear b2 a1;have a0:=j.o.fn;obtain⟨c1,i,_⟩:=a0;have V:=(i.lt g rfl).2;obtain⟨c9,c0,d0,P,_,_,b⟩:=j.o.fn.get hi;have u:=P 6 (by omega);simp only[ER,gR,gP,gQ]at u;have df:=i.frozenAt (d*7+6);rw[a2.o]at b;obtain⟨z,yl,C,rfl⟩:=Ad b;have a7:=Ag b;subst a7;obtain⟨c2,a4⟩:=DU i;have M:=J (Am b a4 (by decide));have a3:=J b;have u0:=F.o.cell 0;simp only[gR,gP]at u0;have c5:=Ae F.o;have c4:B<=f.heap.size:=by have:=(i.lt g rfl).1;omega
   clear P i b;go_region_law(refine AC rfl _ _ 51 rfl B 9 i0 (.string ByteArray.empty) 1 16 underlying51 b5 b7 b8 b9 rfl (by decide) _ _ _ rfl (a3.o.alloc _) ⟨f.heap.size,0,Z⟩ 1 1 [.string t.d9] rfl rfl (AD rfl _ _) (fun x v=>by simp at v;subst v;rfl) (by decide) (by unfold maxLen;omega) (by omega) (by simp;omega) ?_;intro v' y S l R;have q1:y.cell? ⟨g,d*7+6,Z⟩=T (Y z a.length C):=(gT (l.block g (by simp;omega) (fun h=>M.o g h.symm rfl))).trans (by rw[<-u];exact gT (iC _ _ _ V));have q2:y.frozen? ⟨g,d*7+6,Z⟩=false:=(gY (l.block g (by simp;omega) (fun h=>M.o g h.symm rfl))).trans (by rw[<-df];exact gY (iC _ _ _ V));obtain⟨a8,b0,a9,rfl⟩:=Ad S);all_goals
    have a5:(f.alloc (.cells #[.string t.d9] 9)).drew.grownBy y (Value.ownBlock (Y z a.length C)):=l;have a6:∀k,Value.ownBlock (Y a8 b0 a9)=T k->Value.ownBlock (Y z a.length C)=T k\/f.heap.size<=k:=fun k Q=>(R k Q).imp id (fun q=>by simp at q;omega)
    have s:=Cw.decl j.o.fn hi u (((O.refl _ f).alloc _).drew) a5 (by rw[a2.o];exact S) a6;have L:=j.o.decl s.1 s.2.1 s.2.2;clear l R;go_wp2_with fail;go_end0;exact⟨rfl,L.1,FT.o.trans L.2⟩
  .have v:=h0;have N:Dt a t c=Bi 4 t.pos c:=by simp only[Dt,jR b4,jQ h0]
   have c3:decide ((0:Int)<=BC a t.d9 0)=false:=by simp;omega
   rw[N];clear N;go_enter func21,ntmps21;go_wp2_with(go_at_call 19;refine(Cr o 4 t.pos c _ (HK.o.s9 m.o).wr).mono ?_;rintro e E ⟨rfl,b1,r⟩);obtain⟨K2,I,F2⟩:=Ax ((HK.o.s9 m.o).add b1 r) (W.d8 HT.o r (by omega)) ((DW.cW (wb:=o) (B:=B) (fv:=(Y (T ⟨g,0,Z⟩) H.length vc)) m.o).trans (DW.dG r));have d3:=(r.cell (d*7+6) (by simp;omega) d1).trans ((m.o.cell (d*7+6) lg id).trans c6);obtain⟨c7,c8⟩:=I.o.e2 0 1;simp only[gR,gP,gQ]at c7 c8;have hq:∀n:Nat,Au B (E.drewN n) (Y xa a.length xc) a:=fun n=>Ac (X:=kJ) (Ai (Ac b3.o m.o (fun _ _ q=>q)) r (fun k ds fz Q=>C6 (HK.o.s9 m.o).wr (by decide) k ds fz Q)) ((O.refl _ E).drewN n) (fun _ _ q=>q)
   have d8:g<E.heap.size:=by have:=r.size;simp at this;omega
   have e1:o<E.heap.size:=by have:=r.size;simp at this;omega
   have d9:=Ae I.o;clear b1 r;go_quiet((go_at_call 55;refine Calls.quiet_of_same (Gj B _ _ t.d9 _ (hq _) hv)));have p:D (O kJ E (E.drewN nq)):=(O.refl _ _).drewN nq;go_wp2;obtain⟨j,F,FT⟩:=Ax (K2.o.s9 p.o) (W.d8 I.o p.o id) (F2.o.trans (DW.cW p.o));generalize E.drewN nq=f at j F FT⊢;have a0:=j.o.fn;obtain⟨c1,i,_⟩:=a0;have V:=(i.lt g rfl).2;obtain⟨c9,c0,d0,P,_,_,b⟩:=j.o.fn.get hi;have u:=P 6 (by omega);simp only[ER,gR,gP,gQ]at u;have df:=i.frozenAt (d*7+6);rw[a2.o]at b;obtain⟨z,yl,C,rfl⟩:=Ad b;have a7:=Ag b;subst a7;obtain⟨c2,a4⟩:=DU i;have M:=J (Am b a4 (by decide));have a3:=J b;have u0:=F.o.cell 0;simp only[gR,gP]at u0;have c5:=Ae F.o;have c4:B<=f.heap.size:=by have:=(i.lt g rfl).1;omega
   clear P i b;go_region_law(refine AC rfl _ _ 51 rfl B 9 i0 (.string ByteArray.empty) 1 16 underlying51 b5 b7 b8 b9 rfl (by decide) _ _ _ rfl (a3.o.alloc _) ⟨f.heap.size,0,Z⟩ 1 1 [.string t.d9] rfl rfl (AD rfl _ _) (fun x v=>by simp at v;subst v;rfl) (by decide) (by unfold maxLen;omega) (by omega) (by simp;omega) ?_;intro v' y S l R;have q1:y.cell? ⟨g,d*7+6,Z⟩=T (Y z a.length C):=(gT (l.block g (by simp;omega) (fun h=>M.o g h.symm rfl))).trans (by rw[<-u];exact gT (iC _ _ _ V));have q2:y.frozen? ⟨g,d*7+6,Z⟩=false:=(gY (l.block g (by simp;omega) (fun h=>M.o g h.symm rfl))).trans (by rw[<-df];exact gY (iC _ _ _ V));obtain⟨a8,b0,a9,rfl⟩:=Ad S);all_goals
    have a5:(f.alloc (.cells #[.string t.d9] 9)).drew.grownBy y (Value.ownBlock (Y z a.length C)):=l;have a6:∀k,Value.ownBlock (Y a8 b0 a9)=T k->Value.ownBlock (Y z a.length C)=T k\/f.heap.size<=k:=fun k Q=>(R k Q).imp id (fun q=>by simp at q;omega)
    have s:=Cw.decl j.o.fn hi u (((O.refl _ f).alloc _).drew) a5 (by rw[a2.o];exact S) a6;have L:=j.o.decl s.1 s.2.1 s.2.2;clear l R;go_wp2_with fail;go_end0;exact⟨rfl,L.1,FT.o.trans L.2⟩
 .have d7:decide ((12:Int)<=(a.length:Int))=false:=by simp;omega
  by_cases h0:0<=BC a t.d9 0
  .have v:=h0;have N:Dt a t c=Bi 5 t.pos (c):=by simp only[Dt,jQ b4,jR h0]
   have c3:decide ((0:Int)<=BC a t.d9 0)=true:=by simp;omega
   rw[N];clear N;go_enter func21,ntmps21;go_wp2;have K2:=J (HK.o.s9 m.o);have I:=HT;have F2:=J (DW.cW (wb:=o) (B:=B) (fv:=(Y (T ⟨g,0,Z⟩) H.length vc)) m.o);have hq:∀n:Nat,Au B ((w.alloc (.cells #[.string t.d9,G A t.pos,G A t.sort] 49)).drewN n) (Y xa a.length xc) a:=fun n=>Ac b3.o (m.o.drewN n) (fun _ _ q=>q)
   go_quiet((go_at_call 55;refine Calls.quiet_of_same (Gj B _ _ t.d9 _ (hq _) hv)));have p:D (O kJ (w.alloc (.cells #[.string t.d9,G A t.pos,G A t.sort] 49)) ((w.alloc (.cells #[.string t.d9,G A t.pos,G A t.sort] 49)).drewN nq)):=(O.refl _ _).drewN nq;go_wp2_with(go_at_call 19;refine(Cr o 5 t.pos (c) _ (K2.o.s9 p.o).wr).mono ?_;rintro e f ⟨rfl,b2,a1⟩);obtain⟨j,F,FT⟩:=Ax ((K2.o.s9 p.o).add b2 a1) (W.d8 (W.d8 I.o p.o id) a1 (by omega)) ((F2.o.trans (DW.cW p.o)).trans (DW.dG a1));clear b2 a1;have a0:=j.o.fn;obtain⟨c1,i,_⟩:=a0;have V:=(i.lt g rfl).2;obtain⟨c9,c0,d0,P,_,_,b⟩:=j.o.fn.get hi;have u:=P 6 (by omega);simp only[ER,gR,gP,gQ]at u;have df:=i.frozenAt (d*7+6);rw[a2.o]at b;obtain⟨z,yl,C,rfl⟩:=Ad b;have a7:=Ag b;subst a7;obtain⟨c2,a4⟩:=DU i;have M:=J (Am b a4 (by decide));have a3:=J b;have u0:=F.o.cell 0;simp only[gR,gP]at u0;have c5:=Ae F.o;have c4:B<=f.heap.size:=by have:=(i.lt g rfl).1;omega
   clear P i b;go_region_law(refine AC rfl _ _ 51 rfl B 9 i0 (.string ByteArray.empty) 1 16 underlying51 b5 b7 b8 b9 rfl (by decide) _ _ _ rfl (a3.o.alloc _) ⟨f.heap.size,0,Z⟩ 1 1 [.string t.d9] rfl rfl (AD rfl _ _) (fun x v=>by simp at v;subst v;rfl) (by decide) (by unfold maxLen;omega) (by omega) (by simp;omega) ?_;intro v' y S l R;have q1:y.cell? ⟨g,d*7+6,Z⟩=T (Y z a.length C):=(gT (l.block g (by simp;omega) (fun h=>M.o g h.symm rfl))).trans (by rw[<-u];exact gT (iC _ _ _ V));have q2:y.frozen? ⟨g,d*7+6,Z⟩=false:=(gY (l.block g (by simp;omega) (fun h=>M.o g h.symm rfl))).trans (by rw[<-df];exact gY (iC _ _ _ V));obtain⟨a8,b0,a9,rfl⟩:=Ad S);all_goals
    have a5:(f.alloc (.cells #[.string t.d9] 9)).drew.grownBy y (Value.ownBlock (Y z a.length C)):=l;have a6:∀k,Value.ownBlock (Y a8 b0 a9)=T k->Value.ownBlock (Y z a.length C)=T k\/f.heap.size<=k:=fun k Q=>(R k Q).imp id (fun q=>by simp at q;omega)
    have s:=Cw.decl j.o.fn hi u (((O.refl _ f).alloc _).drew) a5 (by rw[a2.o];exact S) a6;have L:=j.o.decl s.1 s.2.1 s.2.2;clear l R;go_wp2_with fail;go_end0;exact⟨rfl,L.1,FT.o.trans L.2⟩
  .have v:=h0;have N:Dt a t c=c:=by simp only[Dt,jQ b4,jQ h0]
   have c3:decide ((0:Int)<=BC a t.d9 0)=false:=by simp;omega
   rw[N];clear N;go_enter func21,ntmps21;go_wp2;have K2:=J (HK.o.s9 m.o);have I:=HT;have F2:=J (DW.cW (wb:=o) (B:=B) (fv:=(Y (T ⟨g,0,Z⟩) H.length vc)) m.o);have hq:∀n:Nat,Au B ((w.alloc (.cells #[.string t.d9,G A t.pos,G A t.sort] 49)).drewN n) (Y xa a.length xc) a:=fun n=>Ac b3.o (m.o.drewN n) (fun _ _ q=>q)
   go_quiet((go_at_call 55;refine Calls.quiet_of_same (Gj B _ _ t.d9 _ (hq _) hv)));have p:D (O kJ (w.alloc (.cells #[.string t.d9,G A t.pos,G A t.sort] 49)) ((w.alloc (.cells #[.string t.d9,G A t.pos,G A t.sort] 49)).drewN nq)):=(O.refl _ _).drewN nq;go_wp2;obtain⟨j,F,FT⟩:=Ax (K2.o.s9 p.o) (W.d8 I.o p.o id) (F2.o.trans (DW.cW p.o));generalize (w.alloc (.cells #[.string t.d9,G A t.pos,G A t.sort] 49)).drewN nq=f at j F FT⊢;have a0:=j.o.fn;obtain⟨c1,i,_⟩:=a0;have V:=(i.lt g rfl).2;obtain⟨c9,c0,d0,P,_,_,b⟩:=j.o.fn.get hi;have u:=P 6 (by omega);simp only[ER,gR,gP,gQ]at u;have df:=i.frozenAt (d*7+6);rw[a2.o]at b;obtain⟨z,yl,C,rfl⟩:=Ad b;have a7:=Ag b;subst a7;obtain⟨c2,a4⟩:=DU i;have M:=J (Am b a4 (by decide));have a3:=J b;have u0:=F.o.cell 0;simp only[gR,gP]at u0;have c5:=Ae F.o;have c4:B<=f.heap.size:=by have:=(i.lt g rfl).1;omega
   clear P i b;go_region_law(refine AC rfl _ _ 51 rfl B 9 i0 (.string ByteArray.empty) 1 16 underlying51 b5 b7 b8 b9 rfl (by decide) _ _ _ rfl (a3.o.alloc _) ⟨f.heap.size,0,Z⟩ 1 1 [.string t.d9] rfl rfl (AD rfl _ _) (fun x v=>by simp at v;subst v;rfl) (by decide) (by unfold maxLen;omega) (by omega) (by simp;omega) ?_;intro v' y S l R;have q1:y.cell? ⟨g,d*7+6,Z⟩=T (Y z a.length C):=(gT (l.block g (by simp;omega) (fun h=>M.o g h.symm rfl))).trans (by rw[<-u];exact gT (iC _ _ _ V));have q2:y.frozen? ⟨g,d*7+6,Z⟩=false:=(gY (l.block g (by simp;omega) (fun h=>M.o g h.symm rfl))).trans (by rw[<-df];exact gY (iC _ _ _ V));obtain⟨a8,b0,a9,rfl⟩:=Ad S);all_goals
    have a5:(f.alloc (.cells #[.string t.d9] 9)).drew.grownBy y (Value.ownBlock (Y z a.length C)):=l;have a6:∀k,Value.ownBlock (Y a8 b0 a9)=T k->Value.ownBlock (Y z a.length C)=T k\/f.heap.size<=k:=fun k Q=>(R k Q).imp id (fun q=>by simp at q;omega)
    have s:=Cw.decl j.o.fn hi u (((O.refl _ f).alloc _).drew) a5 (by rw[a2.o];exact S) a6;have L:=j.o.decl s.1 s.2.1 s.2.2;clear l R;go_wp2_with fail;go_end0;exact⟨rfl,L.1,FT.o.trans L.2⟩
def Mz(a:List RF)(b:List ByteArray)(u:FS)(c:CS):CS:=
 if u.kind=2 then c else
 u.args.foldl (fun c t=>DS b t c) (if u.kind=6 then Ev a u.q (-1) c else if u.kind=8 then Ev a u.q u.args.length c else DS b u.q c)
structure TU(pb wb B pl ca:Nat)(U:Nat->Prop)(fv sv:Value)(fns:List RF)(fs:List FS)(sb:Nat)(sc:Array Value)(av:Value)(args:List Tk)(c:CS)(w w':World):Prop where
 k:RK pb wb B pl ca U fv sv fns fs c w'
 cI:W sb sc 92 w'
 row:CM B w' av args
 fr:DW wb B fv w w'
theorem TU.call{j b B k e}{U:Nat->Prop}{a l f g d q o n c p w r m}(h:TU j b B k e U a l f g d q o n c w r)(u:RK j b B k e U a l f g p m)(i:DW b B a r m)(s:d≠b)(t:a.ownBlock≠T d):TU j b B k e U a l f g d q o n p w m:=
 ⟨u,i.cI h.cI s t (by decide),i.row h.row h.k.wr h.k.fn (by decide) (by decide) (by decide),h.fr.trans i⟩
theorem TU.s9{j p B k e}{U:Nat->Prop}{i n f g l m d b c w o w2}(h:TU j p B k e U i n f g l m d b c w o)(a:O kJ o w2):TU j p B k e U i n f g l m d b c w w2:=
 ⟨h.k.s9 a,h.cI.d8 a id,Ac h.row a (fun _ _ q=>q),h.fr.trans (DW.cW a)⟩
theorem EB{B w g l c a}(h:CM B w (Y (T ⟨g,0,Z⟩) l c) a){i}(d:i<a.length):w.cell? ⟨g,i*3,Z⟩=T (.string (tokAt a i).d9)/\w.cell? ⟨g,i*3+1,Z⟩=T (G A (tokAt a i).pos)/\w.cell? ⟨g,i*3+2,Z⟩=T (G A (tokAt a i).sort):=by have e:=Ag h;subst e;have b:=KQ d;unfold CM at h;exact⟨by rw[h.cellAt _ (by omega)];exact b.1,by rw[h.cellAt _ (by omega)];exact b.2.1,by rw[h.cellAt _ (by omega)];exact b.2.2⟩
theorem IM{B:Type}(f:B->Tk->B)(l:List Tk)(k:Nat)(h:k<l.length)(x:B):(l.drop k).foldl f x=(l.drop (k+1)).foldl f (f x (tokAt l k)):=by
 rw[iD h];have:tokAt l k=l[k]:=by unfold tokAt;rw[gV h];rfl
 rw[this];rfl
theorem Sg(o m B x p:Nat)(U:Nat->Prop)(fv y:Value)(f:List RF)(r:List FS)(c:CS)(u:FS)(av bv ov:Value)(j:List ByteArray)(w:World)(K:RK o m B x p U fv y f r c w)(a6:CM B w av u.args)(b0:∃a l c,bv=Y a l c)(b1:∃a l c,ov=Y a l c)(a7:u.dD<f.length)(hn:f.length<=4001)(a8:f[u.dD].t8=j)(hv:j.length<=4001)(ha:u.args.length<=4001):
 Calls prog 57 #[.pointer (T ⟨o,0,Z⟩),.pointer (T ⟨m,0,Z⟩),.agg (Br u av bv ov)] w fun e w'=>e=.returned (.tuple #[])/\RK o m B x p U fv y f r (Mz f j u c) w'/\DW m B fv w w':=by
 obtain⟨E,al,F,rfl⟩:=Ad a6;have a9:=Ag a6;subst a9;obtain⟨X,bl,bc,rfl⟩:=b0;obtain⟨oa,ol,oc,rfl⟩:=b1;obtain⟨fa,fl,fc,rfl⟩:∃a l c,fv=Y a l c:=by obtain⟨_,h,_⟩:=K.fn;exact Ad h
 have lw:=Ae K.wr;have a1:w.heap.size≠m:=by omega
 have a0:Value.ownBlock (Y fa fl fc)≠T w.heap.size:=fun q=>by obtain⟨_,h,_⟩:=K.fn;have:=(h.lt _ q).2;omega
 have b2:=Ae K.pr;have z:D (TU o m B x p U (Y fa fl fc) y f r w.heap.size (Br u (Y E u.args.length F) (Y X bl bc) (Y oa ol oc)) (Y E u.args.length F) u.args c w (w.alloc (.cells (Br u (Y E u.args.length F) (Y X bl bc) (Y oa ol oc)) 92))):=by have ho:=(O.refl kJ w).alloc (.cells (Br u (Y E u.args.length F) (Y X bl bc) (Y oa ol oc)) 92);exact⟨K.s9 ho,W.new _ _ _,Ac a6 ho (fun _ _ q=>q),DW.cW ho⟩
 have I:=J a8;clear K a6 a8;unfold Br;by_cases S:u.kind=2
 .have e0:Mz f j u c=c:=by simp[Mz,S]
  rw[e0];have k2:((u.kind:Int)==2)=true:=by simp[S]
  clear e0 S;go_enter func57,ntmps57;go_wp2;refine gZ (v:=.tuple #[]) (by simp[results,results57,go_sem]) rfl ⟨rfl,z.o.k,z.o.fr⟩
 have k2:((u.kind:Int)==2)=false:=by simp;omega
 generalize s:Mz f j u c=V;unfold Mz at s;rw[jQ S]at s;by_cases h6:u.kind=6
 .rw[jR h6]at s;have H:D ((u.args.drop 0).foldl (fun c t=>DS j t c) (Ev f u.q (-1) c)=V):=s;have k6:((u.kind:Int)==6)=true:=by simp[h6]
  clear s S h6;go_enter func57,ntmps57;go_wp2_with(go_at_call 100;refine(Ix o m B x p U _ y f r c u.q (-1) _ z.o.k hn (.inl rfl)).mono ?_;rintro e w1 ⟨rfl,P,M⟩);have L:=J (z.o.call P M a1 a0);clear P M z;go_loopw[6] (fun i wr=>∃(k:Nat) (d:CS),k<=u.args.length/\i=G A k/\D (TU o m B x p U (Y fa fl fc) y f r w.heap.size (Br u (Y E u.args.length F) (Y X bl bc) (Y oa ol oc)) (Y E u.args.length F) u.args d w wr)/\D ((u.args.drop k).foldl (fun c t=>DS j t c) d=V)) (fun i _=>u.args.length-(intOf i).toNat)
  case atStart=>exact⟨0,_,by omega,rfl,L,H⟩
  case round=>
   clear L H;obtain⟨k,d,hk,rfl,b,n⟩:=hrel;obtain⟨b8,a3⟩:=b.o.cI.e2 8 14;simp only[Br,gR,gP,gQ]at b8 a3;have lb:=Ae b.o.cI;by_cases R:k<u.args.length
   .obtain⟨g,rfl⟩:=Ap b.o.row (by omega);obtain⟨t0,t1,t2⟩:=EB b.o.row R;have lg:=(b.o.row.lt g rfl).2;have C:=IM (fun c t=>DS j t c) u.args k R d;rw[n.o]at C;generalize tokAt u.args k=t at*;have a2:=J C;have a4:(k:Int)<(u.args.length:Int):=by omega
    clear n C;go_wp2_with fail;go_region_with(go_at_call 56;refine(Df o m B x p u.dD U _ y f r d t _ (b.o.s9 (by repeat first|exact BI _ _|apply BG|apply BH|apply BE)).k a7 hn (by rw[I.o];exact hv)).mono ?_;rw[I.o];rintro e w2 ⟨rfl,Q,N⟩);all_goals
     have S2:=J (TU.call (b.o.s9 (w2:=wr.drew) ((O.refl _ wr).drew)) Q N a1 a0);clear Q N;go_wp2_with fail;exact⟨⟨k+1,_,by omega,by go_num,S2,a2.o.symm⟩,by simp[intOf];omega⟩
   .have e:k=u.args.length:=by omega
    have a5:V=d:=by have:=n.o;rw[e,jW]at this;exact this.symm
    subst a5;have a4:decide ((k:Int)<(u.args.length:Int))=false:=by simp;omega
    clear n;go_wp2;go_end0;exact⟨rfl,b.o.k,b.o.fr⟩
 have k6:((u.kind:Int)==6)=false:=by simp;omega
 rw[jQ h6]at s;by_cases h8:u.kind=8
 .rw[jR h8]at s;have H:D ((u.args.drop 0).foldl (fun c t=>DS j t c) (Ev f u.q u.args.length c)=V):=s;have k8:((u.kind:Int)==8)=true:=by simp[h8]
  clear s S h6 h8;go_enter func57,ntmps57;go_wp2_with(go_at_call 100;refine(Ix o m B x p U _ y f r c u.q u.args.length _ z.o.k hn (.inr ⟨_,rfl,ha⟩)).mono ?_;rintro e w1 ⟨rfl,P,M⟩);have L:=J (z.o.call P M a1 a0);clear P M z;go_loopw[6] (fun i wr=>∃(k:Nat) (d:CS),k<=u.args.length/\i=G A k/\D (TU o m B x p U (Y fa fl fc) y f r w.heap.size (Br u (Y E u.args.length F) (Y X bl bc) (Y oa ol oc)) (Y E u.args.length F) u.args d w wr)/\D ((u.args.drop k).foldl (fun c t=>DS j t c) d=V)) (fun i _=>u.args.length-(intOf i).toNat)
  case atStart=>exact⟨0,_,by omega,rfl,L,H⟩
  case round=>
   clear L H;obtain⟨k,d,hk,rfl,b,n⟩:=hrel;obtain⟨b8,a3⟩:=b.o.cI.e2 8 14;simp only[Br,gR,gP,gQ]at b8 a3;have lb:=Ae b.o.cI;by_cases R:k<u.args.length
   .obtain⟨g,rfl⟩:=Ap b.o.row (by omega);obtain⟨t0,t1,t2⟩:=EB b.o.row R;have lg:=(b.o.row.lt g rfl).2;have C:=IM (fun c t=>DS j t c) u.args k R d;rw[n.o]at C;generalize tokAt u.args k=t at*;have a2:=J C;have a4:(k:Int)<(u.args.length:Int):=by omega
    clear n C;go_wp2_with fail;go_region_with(go_at_call 56;refine(Df o m B x p u.dD U _ y f r d t _ (b.o.s9 (by repeat first|exact BI _ _|apply BG|apply BH|apply BE)).k a7 hn (by rw[I.o];exact hv)).mono ?_;rw[I.o];rintro e w2 ⟨rfl,Q,N⟩);all_goals
     have S2:=J (TU.call (b.o.s9 (w2:=wr.drew) ((O.refl _ wr).drew)) Q N a1 a0);clear Q N;go_wp2_with fail;exact⟨⟨k+1,_,by omega,by go_num,S2,a2.o.symm⟩,by simp[intOf];omega⟩
   .have e:k=u.args.length:=by omega
    have a5:V=d:=by have:=n.o;rw[e,jW]at this;exact this.symm
    subst a5;have a4:decide ((k:Int)<(u.args.length:Int))=false:=by simp;omega
    clear n;go_wp2;go_end0;exact⟨rfl,b.o.k,b.o.fr⟩
 have k8:((u.kind:Int)==8)=false:=by simp;omega
 rw[jQ h8]at s;have H:D ((u.args.drop 0).foldl (fun c t=>DS j t c) (DS j u.q c)=V):=s;clear s S h6 h8;go_enter func57,ntmps57;go_wp2_with(go_at_call 56;refine(Df o m B x p u.dD U _ y f r c u.q _ z.o.k a7 hn (by rw[I.o];exact hv)).mono ?_;rw[I.o];rintro e w1 ⟨rfl,P,M⟩);have L:=J (z.o.call P M a1 a0);clear P M z;go_loopw[6] (fun i wr=>∃(k:Nat) (d:CS),k<=u.args.length/\i=G A k/\D (TU o m B x p U (Y fa fl fc) y f r w.heap.size (Br u (Y E u.args.length F) (Y X bl bc) (Y oa ol oc)) (Y E u.args.length F) u.args d w wr)/\D ((u.args.drop k).foldl (fun c t=>DS j t c) d=V)) (fun i _=>u.args.length-(intOf i).toNat)
 case atStart=>exact⟨0,_,by omega,rfl,L,H⟩
 case round=>
  clear L H;obtain⟨k,d,hk,rfl,b,n⟩:=hrel;obtain⟨b8,a3⟩:=b.o.cI.e2 8 14;simp only[Br,gR,gP,gQ]at b8 a3;have lb:=Ae b.o.cI;by_cases R:k<u.args.length
  .obtain⟨g,rfl⟩:=Ap b.o.row (by omega);obtain⟨t0,t1,t2⟩:=EB b.o.row R;have lg:=(b.o.row.lt g rfl).2;have C:=IM (fun c t=>DS j t c) u.args k R d;rw[n.o]at C;generalize tokAt u.args k=t at*;have a2:=J C;have a4:(k:Int)<(u.args.length:Int):=by omega
   clear n C;go_wp2_with fail;go_region_with(go_at_call 56;refine(Df o m B x p u.dD U _ y f r d t _ (b.o.s9 (by repeat first|exact BI _ _|apply BG|apply BH|apply BE)).k a7 hn (by rw[I.o];exact hv)).mono ?_;rw[I.o];rintro e w2 ⟨rfl,Q,N⟩);all_goals
    have S2:=J (TU.call (b.o.s9 (w2:=wr.drew) ((O.refl _ wr).drew)) Q N a1 a0);clear Q N;go_wp2_with fail;exact⟨⟨k+1,_,by omega,by go_num,S2,a2.o.symm⟩,by simp[intOf];omega⟩
  .have e:k=u.args.length:=by omega
   have a5:V=d:=by have:=n.o;rw[e,jW]at this;exact this.symm
   subst a5;have a4:decide ((k:Int)<(u.args.length:Int))=false:=by simp;omega
   clear n;go_wp2;go_end0;exact⟨rfl,b.o.k,b.o.fr⟩
def Ok(d:Nat)(q:Nat×List TS):Nat:=(q.2.map (Cz d)).sum
theorem NR(f:Nat×List TS->Nat)(l:List (Nat×List TS))(k:Nat)(h:k<l.length):((l.drop k).map f).sum=f l[k]+((l.drop (k+1)).map f).sum:=by rw[iD h,iU,jC]
theorem Om(d:Nat)(hS:Vu d)(b M f:Nat)(U:Nat->Prop)(N:Value)(h:List TF)(R:Int)(P Q m n:Nat)(F E:DataW Unit)(c:CS)(s:VS)(a:List (Nat×List TS))(cs:Array Value)(w:World)
 (K:Ck b M U N h R P Q m n F E c w)(hT:Ce (d+1) U w (.mk s a) cs.toList)(hO:OZ (d+1) (.mk s a))(hn:n+Cz (d+1) (.mk s a)<=4000)(hd:f+(d+1)<=4001)(hk:s.kind=11\/s.kind=12):
 Calls prog 144 #[.pointer (T ⟨b,0,Z⟩),.agg cs,G A f] w fun e w'=>e=.returned (.tuple #[])/\(∃n',n'<=n+Cz (d+1) (.mk s a)/\Ck b M U N h R P Q m n' F (a.foldl (fun x q=>Pa F h d (f+1) q x) (E,c)).1 (a.foldl (fun x q=>Pa F h d (f+1) q x) (E,c)).2 w')/\O (fun k=>k=b\/k=m) w w':=by
 obtain⟨av,bv,b3,b6,ha,b9,a9,c9,b4,b7⟩:=hT;obtain⟨ho,_,d1,b8⟩:=hO;obtain⟨a1,l1,c1,rfl⟩:=Ad ha;obtain⟨a2,l2,c2,rfl⟩:=Ad a9;have c8:=Ag a9;subst c8;have c0:cs=Fc s (Y a1 l1 c1) (Y a2 a.length c2):=Array.ext' b6;subst c0;have b5:Cz (d+1) (.mk s a)=1+(a.map (Ok d)).sum:=rfl;rw[b5]at hn⊢;have lb:=Ae K.dK;have c4:∃kd:Nat,s.kind=kd:=⟨_,rfl⟩;generalize hV:a.foldl (fun x q=>Pa F h d (f+1) q x) (E,c)=V;have HV:D ((a.drop 0).foldl (fun x q=>Pa F h d (f+1) q x) (E,c)=V):=hV;obtain⟨HS,HI,HB⟩:=Ax hS b7 a9;clear hV hS b7 b6 ha b9 b5 c4;rcases hk with hk|hk
 .have C:=J ((O.refl kJ w).alloc (.cells #[G A 11,.string s.tg.d9,G A s.tg.l7,.string s.sr.d9,G A s.sr.l7,G A s.field,Y a1 l1 c1,Y a2 a.length c2] 230));unfold Fc;rw[hk,show((11:Nat):Int)=11 from rfl];go_enter func144,ntmps144;go_wp2;go_loopw[89] (fun i wr=>∃(k v:Nat) (l:DataW Unit) (o:CS),k<=a.length/\i=G A k/\v+((a.drop k).map (Ok d)).sum<=n+(1+(a.map (Ok d)).sum)/\D (Ck b M U N h R P Q m v F l o wr)/\D (O (fun k=>k=b\/k=m) w wr)/\D ((a.drop k).foldl (fun x q=>Pa F h d (f+1) q x) (l,o)=V)) (fun i _=>a.length-(intOf i).toNat)
  case atStart=>exact⟨0,n,E,c,by omega,rfl,by simp,J (K.quiet C.o),J (C.o.mono (fun _ _ q=>q.elim)),HV⟩
  case round=>
   obtain⟨k,v,l,o,c5,rfl,b0,k1,y,a5⟩:=hrel;clear HV C;by_cases I:k<a.length
   .have a0:∀j,U j->¬(j=b\/j=m):=fun _ z q=>q.elim (fun e=>K.ub (e▸z)) (fun e=>K.um (e▸z))
    have p:=Ac HB.o y.o (fun j z=>a0 j (b4 j z));obtain⟨sv,a8,e,r,a6,u,a7⟩:=HI.o k I (by omega);have hR:=J (C7.d8 (d:=d) (U:=U) (w:=w) (sv:=sv) (sts:=a[k].2) ⟨a8,r,a6,u,a7⟩ y.o a0);obtain⟨sa,sl,sc,rfl⟩:=Ad r;obtain⟨g,rfl⟩:=Ap p (by omega);have lg:=(p.lt g rfl).2;have L:∀x,x∈b3->x.length=2:=by intro x hx;obtain⟨i,hi,rfl⟩:=iP.1 hx;obtain⟨_,_,e',_⟩:=HI.o i (by omega) hi;rw[e'];rfl
    have X:=p.cellAt (k*2) (by omega);have f1:=p.cellAt (k*2+1) (by omega);have H:=CD L (j:=k) (i:=0) (by omega) (by omega);have S:=CD L (j:=k) (i:=1) (by omega) (by omega);rw[iH]at H;rw[H,e]at X;rw[S,e]at f1;simp only[gP,gQ]at X f1;have b1:=J (Fj (fun x q=>Pa F h d (f+1) q x) a k I (l,o));have c7:=NR (Ok d) a k I;have a4:=J (b8 a[k] (iA _));clear p r a7 u e H S L a6;generalize a[k]=t at*;have l0:=y.o.size;have B:=J ((O.refl kJ wr).alloc (.cells #[G A t.1,Y sa sl sc] 130));have a3:((f:Int)+1)=((f+1:Nat):Int):=by omega
    have c3:Ok d t=(t.2.map (Cz d)).sum:=rfl;have HD:=J a3;clear a3;go_wp2_with(go_at_call 116;rw[HD.o];refine(IG d HS.o b M (f+1) t.1 U N h R P Q m v F l o t.2 (Y sa sl sc) _ (k1.o.quiet B.o) (C7.d8 hR.o B.o (fun _ _ q=>q)) a4.o.2 (by omega) (by omega) a4.o.1).mono ?_;rintro e w2 ⟨rfl,⟨n2,c6,k2⟩,o2⟩);go_round
    case rel=>exact⟨k+1,n2,_,_,by omega,by go_num,by omega,J k2,J (y.o.trans ((B.o.mono (fun _ _ q=>q.elim)).trans o2)),J (b1.o.symm.trans a5.o)⟩
    case measure=>simp[intOf];omega
   .have e:k=a.length:=by omega
    subst e;have b2:(l,o)=V:=by have:=a5.o;simpa using this
    subst b2;go_wp2;go_end0;simp at b0;exact⟨rfl,⟨v,by omega,k1.o⟩,y.o⟩
 .have C:=J ((O.refl kJ w).alloc (.cells #[G A 12,.string s.tg.d9,G A s.tg.l7,.string s.sr.d9,G A s.sr.l7,G A s.field,Y a1 l1 c1,Y a2 a.length c2] 230));unfold Fc;rw[hk,show((12:Nat):Int)=12 from rfl];go_enter func144,ntmps144;go_wp2;go_loopw[89] (fun i wr=>∃(k v:Nat) (l:DataW Unit) (o:CS),k<=a.length/\i=G A k/\v+((a.drop k).map (Ok d)).sum<=n+(1+(a.map (Ok d)).sum)/\D (Ck b M U N h R P Q m v F l o wr)/\D (O (fun k=>k=b\/k=m) w wr)/\D ((a.drop k).foldl (fun x q=>Pa F h d (f+1) q x) (l,o)=V)) (fun i _=>a.length-(intOf i).toNat)
  case atStart=>exact⟨0,n,E,c,by omega,rfl,by simp,J (K.quiet C.o),J (C.o.mono (fun _ _ q=>q.elim)),HV⟩
  case round=>
   obtain⟨k,v,l,o,c5,rfl,b0,k1,y,a5⟩:=hrel;clear HV C;by_cases I:k<a.length
   .have a0:∀j,U j->¬(j=b\/j=m):=fun _ z q=>q.elim (fun e=>K.ub (e▸z)) (fun e=>K.um (e▸z))
    have p:=Ac HB.o y.o (fun j z=>a0 j (b4 j z));obtain⟨sv,a8,e,r,a6,u,a7⟩:=HI.o k I (by omega);have hR:=J (C7.d8 (d:=d) (U:=U) (w:=w) (sv:=sv) (sts:=a[k].2) ⟨a8,r,a6,u,a7⟩ y.o a0);obtain⟨sa,sl,sc,rfl⟩:=Ad r;obtain⟨g,rfl⟩:=Ap p (by omega);have lg:=(p.lt g rfl).2;have L:∀x,x∈b3->x.length=2:=by intro x hx;obtain⟨i,hi,rfl⟩:=iP.1 hx;obtain⟨_,_,e',_⟩:=HI.o i (by omega) hi;rw[e'];rfl
    have X:=p.cellAt (k*2) (by omega);have f1:=p.cellAt (k*2+1) (by omega);have H:=CD L (j:=k) (i:=0) (by omega) (by omega);have S:=CD L (j:=k) (i:=1) (by omega) (by omega);rw[iH]at H;rw[H,e]at X;rw[S,e]at f1;simp only[gP,gQ]at X f1;have b1:=J (Fj (fun x q=>Pa F h d (f+1) q x) a k I (l,o));have c7:=NR (Ok d) a k I;have a4:=J (b8 a[k] (iA _));clear p r a7 u e H S L a6;generalize a[k]=t at*;have l0:=y.o.size;have B:=J ((O.refl kJ wr).alloc (.cells #[G A t.1,Y sa sl sc] 130));have a3:((f:Int)+1)=((f+1:Nat):Int):=by omega
    have c3:Ok d t=(t.2.map (Cz d)).sum:=rfl;have HD:=J a3;clear a3;go_wp2_with(go_at_call 116;rw[HD.o];refine(IG d HS.o b M (f+1) t.1 U N h R P Q m v F l o t.2 (Y sa sl sc) _ (k1.o.quiet B.o) (C7.d8 hR.o B.o (fun _ _ q=>q)) a4.o.2 (by omega) (by omega) a4.o.1).mono ?_;rintro e w2 ⟨rfl,⟨n2,c6,k2⟩,o2⟩);go_round
    case rel=>exact⟨k+1,n2,_,_,by omega,by go_num,by omega,J k2,J (y.o.trans ((B.o.mono (fun _ _ q=>q.elim)).trans o2)),J (b1.o.symm.trans a5.o)⟩
    case measure=>simp[intOf];omega
   .have e:k=a.length:=by omega
    subst e;have b2:(l,o)=V:=by have:=a5.o;simpa using this
    subst b2;go_wp2;go_end0;simp at b0;exact⟨rfl,⟨v,by omega,k1.o⟩,y.o⟩
theorem No:∀d,Vu d
 |0=>fun _ _ _ _ _ _ _ _ _ _ _ _ _ _ _ _ _ _ i _ _ _=>i.elim
 |d+1=>by
  intro b v h U y g E B C m n F a c t u w K i j S R
  obtain⟨s,f⟩:=t;by_cases k:s.kind=11\/s.kind=12
  .have l:LH F g (d+1) h (.mk s f) (a,c)=f.foldl (fun x q=>Pa F g d (h+1) q x) (a,c):=by simp only[LH,jR k];rfl
   rw[l]
   exact Om d (No d) b v h U y g E B C m n F a c s f u w K i j S R k
  .have l:LH F g (d+1) h (.mk s f) (a,c)=Fp F g s (a,c):=by simp only[LH,jQ k]
   rw[l];have a0:Cz (d+1) (.mk s f)=1+(f.map (fun q=>(q.2.map (Cz d)).sum)).sum:=rfl;obtain⟨p,bv,X,P,L,M,N,_⟩:=i;obtain⟨o,z,r,rfl⟩:=Ad N;have Q:u=Fc s p (Y o z r):=Array.ext' P;subst Q;refine(Sr b v h U y g E B C m n F a c s p _ w K j.1 (by omega) L M ⟨o,z,r,rfl⟩ (by have:=j.2.1;omega)).mono ?_;rintro e w' ⟨rfl,⟨V,h1,H⟩,I⟩;exact⟨rfl,⟨V,by omega,H⟩,I⟩
def Ts(l:List PT)(x:DataW Unit×CS):DataW Unit×CS:=l.foldl (fun x t=>(Iq x.1 t,Fg x.1 t x.2)) x
def wv(a:List RF)(b:Nat)(c:List ByteArray):List RF:=a.modify b (fun f=>{f with t8:=c})
theorem D9(a b c):(wv a b c).length=a.length:=by simp[wv]
theorem TH{a b c}(h:b<(wv a b c).length):((wv a b c)[b]).t8=c:=by simp[wv]
theorem TE{a b c}(h:b<(wv a b c).length)(s):(wv a b c).set b (Qf (wv a b c)[b] s)=wv a b (c++[s]):=by
 apply jL
 .simp[wv]
 .intro i e f;by_cases d:b=i
  .subst d;simp[wv,Qf]
  .simp[wv,d,List.getElem_set_ne d]
theorem XK(a b c):(wv a b c).map (fun f=>f.name.d9)=a.map (fun f=>f.name.d9):=by
 apply jL
 .simp[wv]
 .intro i d e;simp only[wv,jE,List.getElem_modify];split<;>rfl
theorem XL(a b c):(wv a b c).map (fun f=>f.cQ.length)=a.map (fun f=>f.cQ.length):=by
 apply jL
 .simp[wv]
 .intro i d e;simp only[wv,jE,List.getElem_modify];split<;>rfl
theorem Z0(a b d t m c):Ev (wv a b d) t m c=Ev a t m c:=by unfold Ev;rw[XK,XL]
theorem Z3(a d e b u c):Mz (wv a d e) b u c=Mz a b u c:=by unfold Mz;simp only[Z0]
def MA(a:List RF)(b:List ByteArray)(s:VS)(c:CS):CS:=
 if s.kind=1 then c else
 (s.args.map Ao).foldl (fun c t=>DS b t c) (if s.kind=4 then Ev a (Ao s.sr) (-1) c else if s.kind=7 then Ev a (Ao s.sr) s.args.length c else DS b (Ao s.sr) c)
theorem Xi{a d s u i}(h:SC s u i)(c):Mz a d u c=MA a d s c:=by
 have b:=h.kind;have j:=h.dC
 have e:u.kind=2↔s.kind=1:=by rw[b];unfold DB;repeat' split
                              all_goals omega
 have f:u.kind=6↔s.kind=4:=by rw[b];unfold DB;repeat' split
                              all_goals omega
 have g:u.kind=8↔s.kind=7:=by rw[b];unfold DB;repeat' split
                              all_goals omega
 unfold Mz MA;simp only[e,f,g,h.q,h.args,iT]
def Dp(a:List RF)(s:VS)(x:List ByteArray×CS):List ByteArray×CS:=
 if s.kind=0 then(x.1++[s.tg.d9],Dt x.1 (Ao s.tg) x.2)
 else if s.kind=10 then(x.1,DS x.1 (Ao s.sr) x.2)
 else(x.1,MA a x.1 s (DS x.1 (Ao s.tg) x.2))
def FM(a:List RF):Nat->Nat->TS->List ByteArray×CS->List ByteArray×CS
 |0,_,_,x=>x
 |d+1,b,.mk s c,x=>
  if s.kind=11\/s.kind=12 then c.foldl (fun x q=>q.2.foldl (fun x t=>FM a d (b+1) t x) (x.1,if 6<b+1 then Bi 4 q.1 x.2 else x.2)) x
  else Dp a s x
def Gs(a:List RF)(d b:Nat)(c:List TS)(x:List ByteArray×CS):List ByteArray×CS:=c.foldl (fun x t=>FM a d b t x) x
theorem Mw(a:List RF):∀(d b:Nat) (t:TS) (x:List ByteArray×CS),(FM a d b t x).1.length<=x.1.length+Cz d t
 |0,_,_,x=>by simp[FM]
 |d+1,b,.mk s i,x=>by
  rw[FM];split
  .have h:∀(b:Nat) (c:List TS) (x:List ByteArray×CS),(c.foldl (fun x t=>FM a d b t x) x).1.length<=x.1.length+(c.map (Cz d)).sum:=by
    intro b c;induction c with
    |nil=>intro x;simp
    |cons t c e=> intro x;have f:=Mw a d b t x;have g:=e (FM a d b t x);simp only[jB,iU,jC];omega
   have:∀(l:List (Nat×List TS)) (x:List ByteArray×CS),(l.foldl (fun x q=>q.2.foldl (fun x t=>FM a d (b+1) t x) (x.1,if 6<b+1 then Bi 4 q.1 x.2 else x.2)) x).1.length<=x.1.length+(l.map (fun q=>(q.2.map (Cz d)).sum)).sum:=by
    intro l;induction l with
    |nil=>intro x;simp
    |cons q l e=> intro x;have f:=h (b+1) q.2 (x.1,if 6<b+1 then Bi 4 q.1 x.2 else x.2);have g:=e (q.2.foldl (fun x t=>FM a d (b+1) t x) (x.1,if 6<b+1 then Bi 4 q.1 x.2 else x.2));simp only[jB,iU,jC]at f g⊢;omega
   have:=this i x
   simp only[Cz]
   omega
  .unfold Dp;split
   .simp[Cz]
   .split<;>simp
theorem Fs(a:List RF)(d b:Nat):∀(c:List TS) (x:List ByteArray×CS),(Gs a d b c x).1.length<=x.1.length+(c.map (Cz d)).sum
 |[],x=>by simp[Gs]
 |t::c,x=>by have f:=Mw a d b t x;have e:=Fs a d b c (FM a d b t x);simp only[Gs,jB,iU,jC]at e⊢;omega
theorem Xa(a:List RF)(d c:Nat)(b:List TS)(k:Nat)(h:k<b.length)(x:List ByteArray×CS):Gs a d c (b.drop k) x=Gs a d c (b.drop (k+1)) (FM a d c b[k] x):=by unfold Gs;rw[iD h];rfl
theorem W.c15{b t w}{c d k l m q s u x B e f g i j:Value}(h:W b #[c,d,k,l,m,q,s,u,x,B,e,f,g,i,j] t w):w.cell? ⟨b,0,Z⟩=T c/\w.cell? ⟨b,1,Z⟩=T d/\w.cell? ⟨b,2,Z⟩=T k/\w.cell? ⟨b,3,Z⟩=T l/\w.cell? ⟨b,4,Z⟩=T m/\w.cell? ⟨b,5,Z⟩=T q/\w.cell? ⟨b,6,Z⟩=T s/\w.cell? ⟨b,7,Z⟩=T u/\w.cell? ⟨b,8,Z⟩=T x/\w.cell? ⟨b,9,Z⟩=T B/\w.cell? ⟨b,10,Z⟩=T e/\w.cell? ⟨b,11,Z⟩=T f/\w.cell? ⟨b,12,Z⟩=T g/\w.cell? ⟨b,13,Z⟩=T i/\w.cell? ⟨b,14,Z⟩=T j/\b<w.heap.size:=⟨h.cell 0,h.cell 1,h.cell 2,h.cell 3,h.cell 4,h.cell 5,h.cell 6,h.cell 7,h.cell 8,h.cell 9,h.cell 10,h.cell 11,h.cell 12,h.cell 13,h.cell 14,Ae h⟩
theorem BA.get{B}{U:Nat->Prop}{w g l c n}(h:BA B U w (Y (T ⟨g,0,Z⟩) l c) n){i}(V:i<n.length):
 ∃r v y,(∀j,j<15->w.cell? ⟨g,i*15+j,Z⟩=(Br n[i] r v y)[j]?)/\CM B w r n[i].args/\Ay B w v n[i].cT/\Ay B w y n[i].other:=by
 obtain⟨d,m,hl,k⟩:=h;have X:=Ag m;subst X;have f:i<d.length:=by omega
 have s:∀x,x∈d->x.length=15:=by intro x hx;obtain⟨j,b,rfl⟩:=iP.1 hx;exact(k j b (by omega)).length
 obtain⟨r,v,y,e,q,t,u,_⟩:=k i f V;refine⟨r,v,y,fun j b=>?_,q,t,u⟩;have S:=m.cellAt (i*15+j) (by omega);rw[S,CD s f b,e];simp
structure Y7(z o B E C:Nat)(U:Nat->Prop)(p F:Value)(a:List RF)(n:List FS)(I:Nat)(N:Array Value)(H:Value)(l:List Nat)(r:Value)(K:List Tk)(v:Value)(L:List Nat)(y:Value)(M:List Nat)(c:CS)(w w':World):Prop where
 k:RK z o B E C U p F a n c w'
 cI:W I N 92 w'
 eB:Ay B w' H l
 fP:CM B w' r K
 eE:Ay B w' v L
 eM:Ay B w' y M
 fr:DW o B p w w'
section
variable{z o B E C:Nat}{U:Nat->Prop}{p F:Value}{a R:List RF}{n:List FS}{I:Nat}{N:Array Value}{H:Value}{l:List Nat}{r:Value}{K:List Tk}{v:Value}{L:List Nat}{y:Value}{M:List Nat}{c Q:CS}{w P w2:World}
theorem Y7.call(h:Y7 z o B E C U p F a n I N H l r K v L y M c w P)(f:RK z o B E C U p F R n Q w2)(b:DW o B p P w2)(d:I≠o)(e:p.ownBlock≠T I):Y7 z o B E C U p F R n I N H l r K v L y M Q w w2:=
 ⟨f,b.cI h.cI d e (by decide),b.row h.eB h.k.wr h.k.fn (by decide) (by decide) (by decide),b.row h.fP h.k.wr h.k.fn (by decide) (by decide) (by decide),b.row h.eE h.k.wr h.k.fn (by decide) (by decide) (by decide),b.row h.eM h.k.wr h.k.fn (by decide) (by decide) (by decide),h.fr.trans b⟩
theorem Y7.s9(h:Y7 z o B E C U p F a n I N H l r K v L y M c w P)(b:O kJ P w2):Y7 z o B E C U p F a n I N H l r K v L y M c w w2:=
 ⟨h.k.s9 b,h.cI.d8 b id,Ac h.eB b (fun _ _ q=>q),Ac h.fP b (fun _ _ q=>q),Ac h.eE b (fun _ _ q=>q),Ac h.eM b (fun _ _ q=>q),h.fr.trans (DW.cW b)⟩
end
def Q9(d:Nat):Prop:=∀(z o B E C f b:Nat) (U:Nat->Prop) (p F H:Value) (a:List RF) (n:List FS) (l:List Nat) (g:List TS) (h:List ByteArray) (c:CS) (w:World),
 RK z o B E C U p F (wv a f h) n c w->Ay B w H l->CQ (Dw f d n) l g->f<a.length->a.length<=4001->n.length<=4001->h.length+(g.map (Cz d)).sum<=4001->l.length<=4001->(∀u,u∈n->u.args.length<=4001/\u.cT.length<=4001/\u.other.length<=4001)->b+d<=9000->
 Calls prog 22 #[.pointer (T ⟨z,0,Z⟩),.pointer (T ⟨o,0,Z⟩),H,G A b] w fun e i=>e=.returned (.tuple #[])/\RK z o B E C U p F (wv a f (Gs a d b g (h,c)).1) n (Gs a d b g (h,c)).2 i/\DW o B p w i
