/- Part of the proof: LsM LsZ. -/
import Derived.Test.YtaningfhibkemaaGreatDoorG40
set_option maxRecDepth 100000
set_option maxHeartbeats 2000000
namespace Go.Proofs.YtaningfhibkemaaGreatDoor
open Go.RowKit Go.Proofs.Tryz
def K5(n:Nat):ByteArray:=⟨(Lib.decDigits n).toArray⟩
theorem E0(n:Nat)(h:n<=4001):(K5 n).size<=5:=by
 have:=Lib.decDigits_length n;have c:Lib.nDigits n<=5:=by
  rcases iW n 10 with q|q
  .rw[Lib.nDigits_small q];omega
  .rcases iW n 100 with a|a
   .rw[Lib.nDigits_unique 1 n Z Z];omega
   .rcases iW n 1000 with b|b
    .rw[Lib.nDigits_unique 2 n Z Z];omega
    .rw[Lib.nDigits_unique 3 n Z Z];omega
 have e:(K5 n).size=(Lib.decDigits n).length:=by unfold K5;simp[ByteArray.size]
 omega
theorem OD(P:List PFn){n k:Nat}(b:1<=n)(a:k<4):K5 n++⟨#[46]⟩++K5 k=BU P (pN n k):=by
 have e:QT (pN n k)=⟨1,n,k⟩:=by unfold QT Ds pN;rw[jG Z,jG Z];simp only;rw[show(156+(n-1)*4+k-156) / 4+1=n by omega,show(156+(n-1)*4+k-156) % 4=k by omega]
 unfold BU IN K5;rw[e];apply ByteArray.ext;apply Array.ext';simp
theorem Xn(P:List PFn){n:Nat}(a:1<=n):K5 n++⟨#[46,48]⟩=BU P (pN n 0):=by rw[<-OD P a T];unfold K5;rw[Lib.decDigits_one (i:=0) T];apply ByteArray.ext;apply Array.ext';simp
theorem Rj{P:List PFn}{mn d A:Nat}{rf:List RF}{fs:List FS}(K:LsK P mn d A rf fs){B y R Bp ca:Nat}{Y F H:Value}{U:Nat->Prop}{fv sv:Value}{w0:World}(G:XB R Bp B U fv sv rf fs d ca w0){s:Ls}{w:World}(h:KQ P d A B y R Y F H w0 s w){u:FS}{r:Rl}(M:MxR P u r)(N:r.s.kind=3){t:Nat}(ht:(least P).I r.at t)(av bv ov:Value)(d2:∃a l c,av=.slice a l c)(d3:∃a l c,bv=.slice a l c)(d7:∃a l c,ov=.slice a l c)(X a8 Q:ByteArray)(hX:X=BU P t)(hZ:a8=BU P r.tg):
 Calls prog 62 #[.pointer (some ⟨y,0,none⟩),.agg (Bo u av bv ov),.string X,.string a8,.string Q] w fun e C=>e=.returned (.tuple #[])/\GG P d A B y R Y F H s w C (Dd P r t):=by
 obtain⟨a1,l1,c1,rfl⟩:=d2;obtain⟨a2,l2,c2,rfl⟩:=d3;obtain⟨a3,l3,V,rfl⟩:=d7;have b2:=(Dl K.hy.ok ht).2;have b7:=(K.tgx M Z Z).2;have b8:=JZ M.rl (by unfold AR;omega) ht;have d4:=(K.st M).field;have e5:=K.hy.pn;have b3:u.field=r.s.field:=M.field N;have k5:((u.kind:Int)==5)=false:=by rw[AD M N];rfl
 have e6:((u.kind:Int)==10)=false:=by rw[AD M N];rfl
 have k4:((u.kind:Int)==4)=true:=by rw[AD M N];rfl
 have AL:=J ((O.refl kD w).alloc (.cells (Bo u (.slice a1 l1 c1) (.slice a2 l2 c2) (.slice a3 l3 V)) 92));have j:=J (W.new w (Bo u (.slice a1 l1 c1) (.slice a2 l2 c2) (.slice a3 l3 V)) 92);have a4:=J (h.s9 AL.o);have HK:=J K;have HG:=J G;have c0:=J b7;have d0:=J b2;have b5:D (∀m,1<=m->t=pN m 0->(least P).I r.tg (pN m r.s.field)):=fun m hm e=>by
  have:=b8.1 N (by rw[e];unfold pN;omega) (by rw[e];unfold pN;omega);rw[e]at this;have e2:pN m 0+r.s.field=pN m r.s.field:=by unfold pN;omega
  rw[e2]at this;exact this
 have c8:D (∀n,1<=n->n<=d->((X.toList==(K5 n++⟨#[46,48]⟩).toList)=true↔t=pN n 0)):=fun n f o=>by
  rw[Xn P f,hX];constructor
  .intro q;exact Fi K.nm K.hy b2 (.inl (.inr ⟨n,0,f,o,T,rfl⟩)) (Ct (beq_iff_eq.1 q))
  .rintro rfl;simp
 have HZ:=J hZ;have a6:=J N;obtain⟨g,a9⟩:∃n,r.s.field=n:=⟨_,rfl⟩;rw[a9]at b5 d4 b3;have c9:=J a9;clear h K G M b2 b7 b8 hX hZ ht N a9;go_enter func62,ntmps62;go_upto_region 1 with fail;generalize w.alloc (.cells (Bo u (.slice a1 l1 c1) (.slice a2 l2 c2) (.slice a3 l3 V)) 92)=e0 at AL j a4⊢;generalize w.heap.size=b6 at j⊢;have k0:=j.o.cell 0;have lb:=Ae j.o;simp only[Bo,gH,gF]at k0;go_wp2_with fail;clear k0 lb;go_loopw[10] (fun i wr=>∃(n:Nat) (I:Ls),1<=n/\n<=d+1/\i=.int .i64 n/\D (KQ P d A B y R Y F H w0 I wr)/\D (W b6 (Bo u (.slice a1 l1 c1) (.slice a2 l2 c2) (.slice a3 l3 V)) 92 wr)/\D (DY y F H w wr)/\D (Fq P d A s I (fun S=>∀m,1<=m->m<n->t=pN m 0->S.I r.tg (pN m g)))) (fun i _=>d+1-(intOf i).toNat)
 case atStart=>exact⟨1,s,Z,Z,rfl,a4,j,DY.of AL.o,(Fq.rf a4.o.p.i).to fun _ _ m f o=>Z⟩
 case round=>
  clear a4 j AL;obtain⟨n,I,b0,e4,rfl,p,j,HO,NX⟩:=hrel;have b1:=HG.o.at p.o.low;have s0:=p.o.p.m.bx.cell 0;have e7:=Ae p.o.p.m.bx;have f2:=Ak b1.pr 2;have lp:=Ae b1.pr;simp only[gH,gF,gG]at s0 f2;clear b1;by_cases d6:n<=d
  .have tn:decide ((n:Int)<=(d:Int))=true:=jX;have hz:=E0 n Z;have a0:=c8.o n b0 d6;have HD:D (∀b,Calls prog 23 #[.int .i64 n] b fun e C=>e=.returned (.string (K5 n))/\O kD b C):=fun b=>(GW n Z b).mono fun _ _ ⟨f,m,o⟩=>⟨f,by rw[o];exact(O.refl _ _).drewN m⟩
   have b9:∀b,O kD wr b->t=pN n 0->Calls prog 59 #[.pointer (some ⟨y,0,none⟩),.string a8,.string (K5 n++{data:=#[46]}++K5 g)] b fun e C=>e=.returned (.tuple #[])/\GG P d A B y R Y F H I b C (fun S=>S.I r.tg (pN n g)):=fun b v e=>K9 HK.o.nm HK.o.hy B y R Y F H I b (p.o.p.s9 v) _ _ HZ.o (OD P b0 Z) c0.o (b5.o n b0 e)
   have a7:=J b9;have d8:=E0 g Z;have b4:D (∀b,Calls prog 23 #[.int .i64 g] b fun e C=>e=.returned (.string (K5 g))/\O kD b C):=fun b=>(GW g Z b).mono fun _ _ ⟨f,m,o⟩=>⟨f,by rw[o];exact(O.refl _ _).drewN m⟩
   obtain⟨a5,hD⟩:∃x,K5 n=x:=⟨_,rfl⟩;obtain⟨E,hE⟩:∃x,K5 g=x:=⟨_,rfl⟩;rw[hD]at hz HD a7 a0;rw[hE]at d8 b4 a7;clear b9 hD hE;cases hb:(X.toList==(a5++({data:=#[46,48]}:ByteArray)).toList)with
   |true=>
    have HT:=J (a0.1 hb);clear a0;have c7:=j.o.cell 7;have lb:=Ae j.o;simp only[Bo,gH,gF,gG]at c7;rw[b3]at c7;have e1:¬(9223372036854775807<a5.size+1):=Z;have e3:¬(9223372036854775807<a5.size+1+E.size):=Z;have HC:D (∀b,DY y F H wr b->b.cell? ⟨b6,7,none⟩=some (.int .i64 g)):=fun b v=>by have:=(p.o.p.m.bY v j.o T T).cell 7;simp only[Bo,gH,gF,gG]at this;rw[b3]at this;exact this
    go_upto_region 11 with(go_at_call 23;refine(HD.o _).mono ?_;rintro e w3 ⟨rfl,o3⟩;have L:=J o3;clear o3);have V:=HC.o w3 (DY.of L.o);clear c7 s0 f2;go_region_held3(fun C=>C.cell? ⟨b6,7,none⟩=some (.int .i64 g)) (go_keep)
     (first
       |(go_at_call 59;refine(a7.o _ (O.trans (X:=kD) (a:=wr) O5.o jV) HT.o).mono ?_;rintro e w6 ⟨rfl,s6,p6,x6,o6⟩;have O6:=J (DY.trans (DY.of (O.trans (X:=kD) (a:=wr) O5.o jV)) o6);have P6:=J p6;have X6:=J x6;clear o6 p6 x6;have c6:=HC.o w6 O6.o)
       |(go_at_call 23;have q9:=O4;refine(b4.o _).mono ?_;rintro e w5 ⟨rfl,o5⟩;have O5:=J (O.trans (X:=kD) (a:=wr) (O.trans (X:=kD) (a:=wr) O4.o jV) o5);clear o5;have c5:=HC.o w5 (DY.of O5.o))
       |(go_at_call 23;refine(HD.o _).mono ?_;rintro e w4 ⟨rfl,o4⟩;have O4:=J (O.trans (X:=kD) (a:=wr) (O.trans (X:=kD) (a:=wr) L.o jV) o4);clear o4;have c4:=HC.o w4 (DY.of O4.o)))
    all_goals
     have N6:D (Fq P d A s s6 (fun S=>∀m,1<=m->m<n+1->t=pN m 0->S.I r.tg (pN m g))):=by
      refine(NX.o.then X6.o (fun S d9 d1 q m f o v=>d1.i _ _ (q m f o v))).to fun _ q m f o v=>?_
      rcases iW m n with z|z
      .exact q.1 m f z v
      .obtain rfl:m=n:=Z;exact q.2
     have B7:=J (p.o.p.m.bY O6.o j.o T T);have X7:=J (p.o.next P6.o O6.o);have O7:=J (HO.o.trans O6.o);clear O6 P6 X6 O5 O4 L c6 c5 c4 V;go_wp2_with fail;go_roundw
     case rel=>exact⟨n+1,s6,Z,Z,by go_num,X7,B7,O7,N6⟩
     case measure=>simp[intOf];omega
   |false=>
    have HT:D (t≠pN n 0):=fun q=>by have:=a0.2 q;rw[hb]at this;cases this
    have N6:D (Fq P d A s I (fun S=>∀m,1<=m->m<n+1->t=pN m 0->S.I r.tg (pN m g))):=NX.o.to fun _ q m f o v=>by
     rcases iW m n with z|z
     .exact q m f z v
     .obtain rfl:m=n:=Z;exact jO v HT.o
    clear a0;go_wp2_with(go_at_call 23;refine(HD.o _).mono ?_;rintro e w3 ⟨rfl,o3⟩;have L:=J o3;clear o3);have X7:=J (p.o.s9 L.o);have B7:=J (j.o.d8 L.o id);have O7:=J (HO.o.trans (DY.of L.o));go_roundw
    case rel=>exact⟨n+1,I,Z,Z,by go_num,X7,B7,O7,N6⟩
    case measure=>simp[intOf];omega
  .have tn:decide ((n:Int)<=(d:Int))=false:=jX;have R1:D (GG P d A B y R Y F H s w wr (Dd P r t)):=by
    refine⟨I,p.o.p,NX.o.to fun _ q=>⟨fun _ f o=>?_,fun q=>by have:=a6.o;omega,fun q=>by have:=a6.o;omega,fun q=>by have:=a6.o;omega⟩,HO.o⟩;obtain⟨m,k,m1,m2,m3,rfl⟩:=d0.o.field HK.o.hy.ok.cR HK.o.hy.ok.ok.t8 f;have d5:k=0:=by unfold pN at o;omega
    subst d5;have:=q m m1 Z rfl;rw[c9.o,show pN m 0+g=pN m g by unfold pN;omega];exact this
   clear p j HO NX;go_wp2_with fail;go_end0;exact⟨rfl,R1.o⟩
theorem YN{a:List TF}(G:GoodP a){b:List RF}{d:List FS}(S:RuS (fnN a) (paN a) (xfR a 0 0) b d)(f:Nat)(h:f<b.length):b[f].t8=(As (Bi (fnN a) a 0 0) f).t8:=by
 have c:f<a.length:=by have:=S.h.eD;simp only[fnN,iJ]at this;omega
 rw[S.h.t8 f h,Fm a f c,(G.one f c).2.1]
def QP(f:RF):List ByteArray:=f.t8.map fun v=>f.name.d9++⟨#[46]⟩++v
def KN(a:List RF)(k:Nat):List ByteArray:=(a.take k).flatMap QP
def Qe(n:Nat):List ByteArray:=(List.range 4).map fun k=>K5 n++⟨#[46]⟩++K5 k
def QS(n:Nat):List ByteArray:=(List.range n).flatMap fun i=>Qe (i+1)
theorem PZ(a:List RF)(k:Nat)(h:k<a.length):KN a (k+1)=KN a k++QP a[k]:=by unfold KN;rw[iN h,List.flatMap_append,List.flatMap_singleton]
theorem Wp(n:Nat):QS (n+1)=QS n++Qe (n+1):=by unfold QS;rw[List.range_succ,List.flatMap_append,List.flatMap_singleton]
theorem aN{P:List PFn}{q d l:Nat}{a:List RF}{m:List FS}(K:LsK P q d l a m)(o:∀f (h:f<a.length),a[f].t8=(As P f).t8):Ik P d=KN a a.length++QS d:=by
 unfold Ik Yk;rw[jP,List.map_flatMap,List.map_flatMap,<-K.len];congr 1
 .have:∀k,k<=a.length->(List.range k).flatMap (fun f=>((List.range (As P f).t8.length).map (vN f)).map (BU P))=KN a k:=by
   intro k;induction k with
   |zero=>intro _;rfl
   |succ k p=>
    intro c;rw[PZ a k c,List.range_succ,List.flatMap_append,List.flatMap_singleton,p Z];congr 1;have e:QP a[k]=(As P k).t8.map fun v=>CK P k++⟨#[46]⟩++v:=by unfold QP;rw[o k c,K.name k c]
    rw[e];refine jB jY fun i g j=>?_
    have b:i<(As P k).t8.length:=by simpa using g
    simp only[iU,List.getElem_range];rw[<-Lc K.hy (by rw[<-K.len];exact c) b];unfold Hx;rw[gL b];rfl
  exact this _ (gI _)
 .unfold QS;congr 1;funext n;unfold Qe;refine jB jY fun i g j=>?_
  have b:i<4:=by simpa using j
  simp only[iU,List.getElem_range];exact(OD P Z b).symm
