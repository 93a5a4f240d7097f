/- Part of the proof: PaA PaB PaC TrA TrB TrC. -/
import Derived.Test.YtaningfhibkemaaGreatDoorG02
import Derived.Deep.RegionWith
set_option maxRecDepth 100000
set_option maxHeartbeats 1000000
namespace Go.Proofs.YtaningfhibkemaaGreatDoor
open Go.RowKit Go.Proofs.Tryz
structure PS where
 next:Nat
 cH:Bool
 cW:Nat
def BG:PT:=⟨0,ByteArray.empty,0⟩
def Aj(l:List PT)(i:Nat):PT:=l[i]?.getD BG
def Ii(a:List PT)(n:Nat)(x:PS):PS:=⟨n-1,true,if x.cH then x.cW else(Aj a x.next).l7⟩
def Af(a:List PT)(n k:Nat)(x:PS):PS:=if (Aj a x.next).kind=k then(if k=0 then x else⟨x.next+1,x.cH,x.cW⟩)else Ii a n x
def AG(a:List PT)(k:Nat)(x:PS):PT:=if (Aj a x.next).kind=k then Aj a x.next else BG
def AX(b g n a:Nat)(x:PS)(w:World):Prop:=W b #[.slice (some ⟨g,0,none⟩) n a,.int .i64 x.next,.bool x.cH,.int .i64 x.cW] 172 w
def AY(g n b:Nat)(a:List PT)(w:World):Prop:=w.ownsRow 0 112 3 (.slice (some ⟨g,0,none⟩) n b) n (CY a)/\n=a.length/\n<=4001/\DigOk a
theorem Qn{l i}(h:i<l.length):(CY l)[i*3]? =some (.int .i64 (Aj l i).kind)/\(CY l)[i*3+1]? =some (.string (Aj l i).d9)/\(CY l)[i*3+2]? =some (.int .i64 (Aj l i).l7):=by
 induction l generalizing i with
 |nil=>simp at h
 |cons t l a=>
  cases i with
  |zero=>simp[CY,EG,Aj]
  |succ i=>
   have:=a (i:=i) (by simpa using h);simp only[CY,List.flatMap_cons,Aj,gG]at this⊢;have e:∀j,(EG t++List.flatMap EG l)[(i+1)*3+j]? =(List.flatMap EG l)[i*3+j]? :=by intro j;rw[jI (by simp[EG];omega)];congr 1;simp[EG];omega
   exact⟨by rw[show(i+1)*3=(i+1)*3+0 from rfl,e];exact this.1,by rw[e];exact this.2.1,by rw[e];exact this.2.2⟩
theorem AY.cells{g n c a w}(h:AY g n c a w){i}(d:i<n):
 w.cell? ⟨g,i*3,none⟩=some (.int .i64 (Aj a i).kind)/\w.cell? ⟨g,i*3+1,none⟩=some (.string (Aj a i).d9)/\w.cell? ⟨g,i*3+2,none⟩=some (.int .i64 (Aj a i).l7):=by
 have e:=h.2.1;have b:=Qn (l:=a) (i:=i) Z;exact⟨by rw[h.1.cellAt _ Z];exact b.1,by rw[h.1.cellAt _ Z];exact b.2.1,by rw[h.1.cellAt _ Z];exact b.2.2⟩
theorem AY.d8{g n a c}{X:Nat->Prop}{w d}(h:AY g n a c w)(e:O X w d)(f:¬X g):AY g n a c d:=
 ⟨Ac h.1 e (fun k b=>by simp[Value.ownBlock]at b;subst b;exact f),h.2⟩
theorem AY.ne{g n a b j w}(h:AY g n a j w){c t d}(f:w.heap[b]? =some (.cells c t d))(i:t≠112):g≠b:=fun e=>Am h.1 f i g rfl e
theorem AY.lt{g n a b w}(h:AY g n a b w):g<w.heap.size:=(h.1.lt g rfl).2
theorem AZ(b g n f x d w)(a:AX b g n f x w)(c:AY g n f d w)(h:x.next<n):
 Calls prog 113 #[.pointer (some ⟨b,0,none⟩)] w fun e k=>e=.returned (.int .i64 (Aj d x.next).kind)/\O kD w k:=by
 obtain⟨p,q,r⟩:=c.cells h;have l:=c.2.2.1;have i:=Ak a 0;have j:=Ak a 1;simp only[gH,gF,gG]at i j;have o:=Ae a;have m:=c.lt;clear a c;generalize Aj d x.next=t at*;go_enter func113,ntmps113;go_wp2;go_region;go_wp2;go_ret;exact⟨rfl,jV⟩
theorem Uu(b g n f x j w)(a:AX b g n f x w)(d:AY g n f j w)(r:x.next<n):
 Calls prog 143 #[.pointer (some ⟨b,0,none⟩)] w fun e q=>e=.returned (.tuple #[])/\AX b g n f (Ii j n x) q/\O (fun k=>k=b) w q:=by
 obtain⟨E,F,G⟩:=d.cells r;have z:=d.2.2.1;have s:=Ak a 0;have u:=Ak a 1;have h:=Ak a 2;have v:=Ak a 3;have y:=fun i=>Ay a i
 simp only[gH,gF,gG]at s u h v;have C:=Ae a;have B:=d.lt;have A:=d.ne a T;have o:=J a;clear a d;have p:((n:Int)-1)=((n-1:Nat):Int):=Z;have m:=J p;clear p;unfold Ii;generalize Aj j x.next=t at*;cases c:x.cH with
 |true=> rw[c]at h;have l:=J c;clear c;go_enter func143,ntmps143;go_wp2;go_end0;refine⟨rfl,?_,(O.refl _ _).t9 1 _⟩;have:=W.set o.o 1 (.int .i64 ((n:Int)-1));rw[m.o]at this⊢;simpa[AX,l.o]using this
 |false=>
  rw[c]at h;have l:=J c;clear c;go_enter func143,ntmps143;go_wp2;go_region;go_wp2;go_end0;refine⟨rfl,?_,?_⟩
  .have:=W.d8 (((W.set (w:=w) o.o 2 (.bool true)).set 3 (.int .i64 t.l7)).set 1 (.int .i64 ((n:Int)-1))) ((O.refl kD _).drew) id;rw[m.o]at this⊢;simpa[AX]using this
  .exact(((((O.refl (fun k=>k=b) w).drew).t9 2 _).t9 3 _).t9 1 _)
def WC(t:PT):Value:=.agg #[.int .i64 t.kind,.string t.d9,.int .i64 t.l7]
theorem AH(b g n o k:Nat)(x:PS)(a:List PT)(w:World)(f:AX b g n o x w)(l:AY g n o a w)(y:x.next<n):
 Calls prog 114 #[.pointer (some ⟨b,0,none⟩),.int .i64 k] w fun e A=>e=.returned (WC (AG a k x))/\AX b g n o (Af a n k x) A/\O (fun k=>k=b) w A:=by
 obtain⟨U,V,Y⟩:=l.cells y;have N:=l.2.2.1;have H:=Ak f 0;have I:=Ak f 1;have L:=fun i=>Ay f i
 simp only[gH,gF,gG]at H I;have S:=Ae f;have R:=l.lt;have P:=l.ne f T;have p:=J f;have E:=J l;clear f l;by_cases c:(Aj a x.next).kind=k
 .have m:AG a k x=Aj a x.next:=by simp[AG,c]
  rw[m];have G:(((Aj a x.next).kind:Int) !=(k:Int))=false:=by simp[c]
  by_cases h:k=0
  .have d:Af a n k x=x:=by simp[Af,c,h]
   rw[d];have F:((k:Int) !=0)=false:=by simp[h]
   clear m d c h;generalize Aj a x.next=t at*;go_enter func114,ntmps114;go_wp2;go_region;go_wp2;refine gP (v:=WC t) (by simp[results,results114,go_sem,WC]) rfl ⟨rfl,?_,?_⟩
   .exact W.d8 (X:=kD) p.o jV id
   .exact jV
  .have d:Af a n k x=⟨x.next+1,x.cH,x.cW⟩:=by simp[Af,c,h]
   rw[d];have F:((k:Int) !=0)=true:=by simp[h]
   clear m d c h;generalize Aj a x.next=t at*;go_enter func114,ntmps114;go_wp2;go_region;go_wp2;refine gP (v:=WC t) (by simp[results,results114,go_sem,WC]) rfl ⟨rfl,?_,?_⟩
   .have:=W.d8 (X:=kD) (W.set p.o 1 (.int .i64 ((x.next:Int)+1))) ((((O.refl _ _).alloc (.cells #[.int .i64 t.kind,.string t.d9,.int .i64 t.l7] 112)).alloc (.cells #[.int .i64 t.kind,.string t.d9,.int .i64 t.l7] 112)).drew) id;simpa[AX]using this
   .exact(((((O.refl (fun k=>k=b) w).t9 1 _).alloc _).alloc _).drew)
 .have m:AG a k x=BG:=by simp[AG,c]
  have d:Af a n k x=Ii a n x:=by simp[Af,c]
  rw[m,d];have G:(((Aj a x.next).kind:Int) !=(k:Int))=true:=jX;clear m d c;generalize Aj a x.next=t at*;go_enter func114,ntmps114;go_wp2;go_region;go_wp2_with fail;refine(Uu b g n o x a _ ?_ ?_ y).mono ?_
  .exact W.d8 (X:=kD) p.o jV id
  .exact E.o.d8 (X:=kD) jV id
  rintro e K ⟨rfl,z,q⟩;have j:K.heap[w.heap.size]? =some (.cells #[.int .i64 0,.string {data:=#[]},.int .i64 0] 112 (0,0)):=by rw[q.block w.heap.size jX Z];exact(gS _ _ _ jY).trans (heap_alloc_new w _)
  have r:=Ak j 0;have s:=Ak j 1;have u:=Ak j 2;have M:=fun i=>Ay j i
  simp only[gH,gF,gG]at r s u;have Q:=Ae j;have C:=J z;have B:=(((O.refl (fun k=>k=b) w).alloc _).alloc _).drew.trans q;clear z q j;go_wp2;refine gP (v:=WC BG) (by simp[results,results114,go_sem,WC,BG,r,s,u];rfl) rfl ⟨rfl,?_,?_⟩
  .exact W.d8 (X:=fun k=>k=w.heap.size) C.o (by repeat(first|exact O.refl _ _|refine O.drew ?_|refine O.alloc ?_ _|refine O.t9 ?_ _ _)) Z
  .repeat(first|exact B|refine O.drew ?_|refine O.alloc ?_ _|refine O.cE ?_ _ _ (gI _))
def J9(t:PT):Value:=.agg #[.string t.d9,.int .i64 t.l7]
def Fw(t:PT):List Value:=[.string t.d9,.int .i64 t.l7]
def BI(l:List PT):List Value:=l.flatMap Fw
theorem MQ(l t):BI (l++[t])=BI l++Fw t:=by simp[BI]
theorem Cy(b g n d x a w)(h:AX b g n d x w)(q:AY g n d a w)(B:x.next<n):
 Calls prog 140 #[.pointer (some ⟨b,0,none⟩)] w fun e r=>e=.returned (J9 (AG a 1 x))/\AX b g n d (Af a n 1 x) r/\O (fun k=>k=b) w r:=by
 have G:=Ae h;obtain⟨t,j⟩:∃t,AG a 1 x=t:=⟨_,rfl⟩;obtain⟨y,l⟩:∃y,Af a n 1 x=y:=⟨_,rfl⟩;rw[j,l];have z:=J j;have A:=J l;clear j l;go_enter func140,ntmps140;go_wp2_with fail;refine(AH b g n d 1 x a _ (W.alloc h _) (q.d8 ((O.refl kD _).alloc _) id) B).mono ?_;rw[z.o,A.o];rintro e E ⟨rfl,p,f⟩;have c:E.heap[w.heap.size]? =some (.cells #[.string {data:=#[]},.int .i64 0] 126 (0,0)):=by rw[f.block w.heap.size jY Z];exact heap_alloc_new w _
 have m:=Ak c 0;have o:=Ak c 1;have F:=fun i=>Ay c i
 simp only[gH,gF,gG]at m o;have C:=Ae c;have u:=J p;have s:=((O.refl (fun k=>k=b) w).alloc _).trans f;clear p f c h q;unfold WC;go_wp2;refine gP (v:=J9 t) (by simp[results,results140,go_sem,J9,m,o,C]) rfl ⟨rfl,?_,?_⟩
 .exact W.d8 (X:=fun k=>k=w.heap.size) u.o (by repeat(first|exact O.refl _ _|refine O.drew ?_|refine O.alloc ?_ _|refine O.t9 ?_ _ _)) Z
 .repeat(first|exact s|refine O.drew ?_|refine O.alloc ?_ _|refine O.cE ?_ _ _ (gI _))
def DH(b:List PT):Nat->PS->List PT->List PT×PS
 |0,x,a=>(a,x)
 |f+1,x,a=>if (Aj b x.next).kind=1 then DH b f ⟨x.next+1,x.cH,x.cW⟩ (a++[Aj b x.next])else(a,x)
theorem Ho{b f x a}(h:¬(Aj b x.next).kind=1):DH b f x a=(a,x):=by
 cases f with
 |zero=>rfl
 |succ f=>simp only[DH,jG h]
theorem Tb{a f n x acc}(g:n-1-x.next<=f)(d:x.next<n)(c:(Aj a (n-1)).kind=0)(h:(Aj a x.next).kind=1):
 x.next+1<n/\∃b,n-1-(x.next+1)<=b/\DH a f x acc=DH a b ⟨x.next+1,x.cH,x.cW⟩ (acc++[Aj a x.next]):=by
 have i:x.next≠n-1:=by intro e;rw[e,c]at h;omega
 refine⟨Z,?_⟩;cases f with
 |zero=>omega
 |succ f=>exact⟨f,Z,by simp only[DH];rw[jH h]⟩
theorem AU{a n k x}(c:(Aj a (n-1)).kind=0)(b:x.next<n):(Af a n k x).next<n:=by
 unfold Af;split
 .rename_i h;split
  .exact b
  .rename_i d;have f:x.next≠n-1:=by intro e;rw[e,c]at h;omega
   show x.next+1<n;omega
 .show n-1<n;omega
theorem Tc{c:List PT}{n:Nat}(b:(Aj c (n-1)).kind=0):∀(f:Nat) (x:PS) (a:List PT),x.next<n->(DH c f x a).2.next<n
 |0,x,a,h=>h
 |f+1,x,a,h=>by
  simp only[DH];split
  .rename_i d;have g:x.next≠n-1:=by intro e;rw[e,b]at d;omega
   exact Tc b f _ _ (by show x.next+1<n;omega)
  .exact h
def Br(a:List PT)(n:Nat)(x:PS):List PT×PS:=
 ((DH a a.length (Af a n 10 x) []).1,Af a n 11 (DH a a.length (Af a n 10 x) []).2)
theorem Uq{b n x}(a:(Aj b (n-1)).kind=0)(c:x.next<n):(Br b n x).2.next<n:=
 AU a (Tc a _ _ _ (AU a c))
def Mb(b:Nat)(w:World):Nat:=match w.cell? ⟨b,1,none⟩with|some v=>(intOf v).toNat|none=>0
theorem ER{b g n a x w}(h:AX b g n a x w):Mb b w=x.next:=by have:=Ak h 1;simp only[gH,gF,gG]at this;simp[Mb,this,intOf]
theorem Tryz.infoNm:(Tryz.prog.info? 126).map (fun i=>(i.zero,i.size,i.bytes))=some (some (.agg #[.string ByteArray.empty,.int .i64 0]),2,24):=jW
theorem J8(b g n d x a w)(i:AX b g n d x w)(c:AY g n d a w)(hc:x.next<n)(Q:(Aj a (n-1)).kind=0):
 Calls prog 141 #[.pointer (some ⟨b,0,none⟩)] w fun e R=>∃v,e=.returned v/\R.ownsRow w.heap.size 126 2 v (Br a n x).1.length (BI (Br a n x).1)/\AX b g n d (Br a n x).2 R/\O (fun k=>k=b) w R:=by
 obtain⟨i0,hi,b6,b7,b8⟩:=info_parts Tryz.infoNm;have hn:=c.2.2.1;have a3:=c.2.1;have a2:=c.ne i T;have lr:=Ae i;have lg:=c.lt;have P:=AU (k:=10) Q hc;unfold Br;generalize hV:DH a a.length (Af a n 10 x) []=V;have N:D (DH a a.length (Af a n 10 x) []=V):=hV;have HZ:=J Q;have M:=J c;have a7:=J a3;have U:=J i;clear hV Q c a3 i;go_enter func141,ntmps141;go_wp2_with fail;refine(AH b g n d 10 x a _ U.o M.o hc).mono ?_;rintro e u ⟨rfl,p,l⟩;generalize Af a n 10 x=x1 at p N P;have E:=J p;have F:=J (M.o.d8 l a2);clear p U M;go_wp2_with fail;go_loopw[3] (fun v wr=>∃(y:PS) (f:Nat) (o:List PT),y.next<n/\o.length<=y.next/\D (AX b g n d y wr)/\D (AY g n d a wr)/\wr.ownsRow w.heap.size 126 2 v o.length (BI o)/\O (fun k=>k=b) w wr/\n-1-y.next<=f/\D (DH a f y o=V)) (fun _ wr=>n-Mb b wr)
 case atStart=>exact⟨x1,a.length,[],P,jY,E,F,gR _ _ _ _,l,by have:=a7.o;omega,N⟩
 case round=>
  obtain⟨y,f,o,z,b9,i,c,I,G,hf,C⟩:=hrel;clear N E F l P;have a6:=J (ER i.o);by_cases r:(Aj a y.next).kind=1
  .have a8:(((Aj a y.next).kind:Int)==1)=true:=by simp[r]
   obtain⟨b2,X,b0,a0⟩:=Tb (acc:=o) hf z HZ.o r;have HF:D (DH a X ⟨y.next+1,y.cH,y.cW⟩ (o++[Aj a y.next])=V):=by rw[<-a0];exact C.o
   have S:D (AG a 1 y=Aj a y.next/\Af a n 1 y=⟨y.next+1,y.cH,y.cW⟩):=⟨by simp[AG,r],by simp[Af,r]⟩;clear C a0 r;go_wp2_with fail;refine(AZ b g n d y a _ i.o c.o z).mono ?_;rintro e wk ⟨rfl,m⟩;have L:=i.o.d8 m id;have A:=c.o.d8 m id;have t:=Ac I m (fun _ _ q=>q);have H:=G.dA m;clear i c I G m;go_wp2_with fail;refine(Cy b g n d y a _ L A z).mono ?_;rw[S.o.1,S.o.2];rintro e u ⟨rfl,p,l⟩;have K:=Ac t l (fun j s=>by have:=(t.lt j s).1;omega);have a4:=H.trans l;have E:=J p;have F:=J (A.d8 l a2);have c1:=a4.size;have c2:b<u.heap.size:=Ae p;clear p l L A t H;unfold J9;go_wp2_with(at_builtin;refine iQ _ rfl _ _ 127 rfl w.heap.size 126 i0 (.agg #[.string ByteArray.empty,.int .i64 0]) 2 24 underlying127 hi b6 b7 b8 rfl T _ _ _ rfl (K.alloc _) ⟨u.heap.size,0,none⟩ 1 1 [.string (Aj a y.next).d9,.int .i64 ((Aj a y.next).l7:Int)] rfl rfl (AC rfl _ _) (fun x hx=>by simp at hx;rcases hx with rfl|rfl<;>rfl) jZ Z jX ?_;intro v' B b5 b1 c0);have a1:(u.alloc (.cells #[.string (Aj a y.next).d9,.int .i64 ((Aj a y.next).l7:Int)] 126)).grownBy B u3.ownBlock:=b1;have a5:O (fun k=>u3.ownBlock=some k) u B:=O.grown ((O.refl _ _).alloc _) a1 (fun j s=>.inl s);have b4:O (fun k=>k=b) w B:=O.grown (a4.alloc _) a1 (fun j s=>.inr (K.lt j s).1);have Y:AX b g n d ⟨y.next+1,y.cH,y.cW⟩ B:=W.d8 E.o a5 (fun h=>by have:=(K.lt _ h).1;omega);have a9:AY g n d a B:=F.o.d8 a5 (fun h=>by have:=(K.lt _ h).1;omega);have b3:=ER Y;refine⟨⟨⟨y.next+1,y.cH,y.cW⟩,X,o++[Aj a y.next],b2,jX,Y,a9,?_,b4,b0,HF⟩,?_⟩
   .rw[MQ,gM];exact b5
   .rw[b3,a6.o];simp only;omega
  .have a8:(((Aj a y.next).kind:Int)==1)=false:=jX;have hv:V=(o,y):=by rw[<-C.o,Ho r]
   subst hv;clear C r;go_wp2_with fail;refine(AZ b g n d y a _ i.o c.o z).mono ?_;rintro e wk ⟨rfl,m⟩;have L:=i.o.d8 m id;have A:=c.o.d8 m id;have t:=Ac I m (fun _ _ q=>q);have H:=G.dA m;clear i c I G m;go_wp2_with fail;refine(AH b g n d 11 y a _ L A z).mono ?_;rintro e u ⟨rfl,p,l⟩;go_wp2_with fail;go_ret;refine⟨_,rfl,?_,p,H.trans l⟩;exact Ac t l (fun j s=>by have:=(t.lt j s).1;omega)
structure VS where
 kind:Nat
 tg:PT
 sr:PT
 field:Nat
 args:List PT
def GD(s:VS)(a:Value):Array Value:=#[.int .i64 s.kind,.string s.tg.d9,.int .i64 s.tg.l7,.string s.sr.d9,.int .i64 s.sr.l7,.int .i64 s.field,a,.slice none 0 0]
abbrev bA:Array Value:=#[.int .i64 0,.string {data:=#[]},.int .i64 0,.string {data:=#[]},.int .i64 0,.int .i64 0,.slice none 0 0,.slice none 0 0]
structure KU(b g n cap:Nat)(toks:List PT)(x:PS)(w0 w:World):Prop where
 pa:AX b g n cap x w
 pt:AY g n cap toks w
 cN:W w0.heap.size bA 230 w
 d8:O (fun k=>k=b) w0 w
 bl:b<w0.heap.size
theorem KU.start{b g n a d x w}(c:AX b g n a x w)(e:AY g n a d w):KU b g n a d x w (w.alloc (.cells bA 230)):=
 ⟨W.alloc c _,e.d8 ((O.refl kD _).alloc _) id,W.new _ _ _,(O.refl _ _).alloc _,Ae c⟩
theorem KU.call{b g n a e x i f w d}(h:KU b g n a e x f w)(j:AX b g n a i d)(c:O (fun k=>k=b) w d):KU b g n a e i f d:=
 ⟨j,h.pt.d8 c (h.pt.ne h.pa T),h.cN.d8 c (by have:=h.bl;omega),h.d8.trans c,h.bl⟩
theorem KU.quiet{b g n c d x f w e}(h:KU b g n c d x f w)(a:O kD w e):KU b g n c d x f e:=
 ⟨W.d8 h.pa a id,h.pt.d8 a id,h.cN.d8 a id,h.d8.dA a,h.bl⟩
def Hc(b g n d:Nat)(w:World)(r:VS×PS)(e:Ending)(a:World):Prop:=
 ∃c,e=.returned (.agg (GD r.1 c))/\a.ownsRow w.heap.size 126 2 c r.1.args.length (BI r.1.args)/\AX b g n d r.2 a/\O (fun k=>k=b) w a
def IY(a:List PT)(n:Nat)(x:PS):VS×PS:=
 let b:=Af a n 17 (Af a n 10 x)
 let c:=Af a n 11 (Af a n 1 b)
 (⟨8,BG,AG a 1 b,0,(Br a n c).1⟩,(Br a n c).2)
theorem KM(b g n f o d w)(a:AX b g n f o w)(ht:AY g n f d w)(a0:o.next<n)(j:(Aj d (n-1)).kind=0):
 Calls prog 188 #[.pointer (some ⟨b,0,none⟩)] w fun e w'=>Hc b g n f w (IY d n o) e w':=by
 obtain⟨R,F⟩:∃y,Af d n 10 o=y:=⟨_,rfl⟩;obtain⟨K,G⟩:∃y,Af d n 17 R=y:=⟨_,rfl⟩;obtain⟨S,H⟩:∃y,Af d n 1 K=y:=⟨_,rfl⟩;obtain⟨m,Q⟩:∃y,AG d 1 K=y:=⟨_,rfl⟩;obtain⟨U,I⟩:∃y,Af d n 11 S=y:=⟨_,rfl⟩;obtain⟨l5,x5,N⟩:∃l y,Br d n U=(l,y):=⟨_,_,rfl⟩;have a1:R.next<n:=by rw[<-F];exact AU j a0
 have a2:K.next<n:=by rw[<-G];exact AU j a1
 have a3:S.next<n:=by rw[<-H];exact AU j a2
 have a4:U.next<n:=by rw[<-I];exact AU j a3
 have hv:IY d n o=(⟨8,BG,m,0,l5⟩,x5):=by simp only[IY,F,G,H,Q,I,N]
 rw[hv];have A:=J (KU.start a ht);have X1:=J F;have X2:=J G;have X3:=J H;have K3:=J Q;have X4:=J I;have X5:=J N;have HZ:=J j;clear F G H Q I N hv j a ht;go_enter func188,ntmps188;go_wp2_with fail;refine(AH b g n f 10 o d _ A.o.pa A.o.pt a0).mono ?_;rw[X1.o];rintro e w1 ⟨rfl,a,c⟩;have B:=J (A.o.call a c);clear a c A;go_wp2_with fail;refine(AH b g n f 17 R d _ B.o.pa B.o.pt a1).mono ?_;rw[X2.o];rintro e w2 ⟨rfl,a,c⟩;have C:=J (B.o.call a c);clear a c B;go_wp2_with fail;refine(Cy b g n f K d _ C.o.pa C.o.pt a2).mono ?_;rw[X3.o,K3.o];rintro e w3 ⟨rfl,a,c⟩;have M:=J (C.o.call a c);clear a c C;unfold J9;have a7:=Ae M.o.pa;have V:=J (W.new w3 #[.string m.d9,.int .i64 m.l7] 126);have E:=J (M.o.quiet ((O.refl _ _).alloc (.cells #[.string m.d9,.int .i64 m.l7] 126)));clear M;go_wp2_with fail;refine(AH b g n f 11 S d _ E.o.pa E.o.pt a3).mono ?_;rw[X4.o];rintro e w4 ⟨rfl,a,c⟩;have h:=J (E.o.call a c);have L:=J (V.o.d8 c Z);clear a c E V;obtain⟨n0,n1⟩:=L.o.e2 0 1;simp only[gH,gF,gG]at n0 n1;have l4:=Ae L.o;obtain⟨p,q,r,s,t,u,x,z⟩:=h.o.cN.e8 0 1 2 3 4 5 6 7;have qf:=h.o.cN.frozen;have ql:=Ae h.o.cN;simp only[gH,gF,gG]at p q r s t u x z;go_wp2_with fail;go_region_with(go_at_call 141;refine(J8 b g n f U d _ (h.o.quiet jV).pa (h.o.quiet jV).pt a4 HZ.o).mono ?_;rw[X5.o];rintro e w5 ⟨v5,rfl,P,a,c⟩;obtain⟨va,vl,vc,rfl⟩:=Ad P;have i:=J ((h.o.quiet jV).call a c);have B5:=J ((W.d8 (X:=kD) L.o jV id).d8 c Z);have Y:=J (Aq P (B':=w.heap.size) (by have:=h.o.d8.size;simp;omega));obtain⟨a5,a6⟩:=B5.o.e2 0 1;simp only[gH,gF,gG]at a5 a6;clear a c P p q r s t u x z qf ql;obtain⟨p,q,r,s,t,u,x,z⟩:=i.o.cN.e8 0 1 2 3 4 5 6 7;have qf:=i.o.cN.frozen;have ql:=Ae i.o.cN;simp only[gH,gF,gG]at p q r s t u x z);all_goals
  go_wp2;refine gP (v:=.agg (GD ⟨8,BG,m,0,l5⟩ (.slice va vl vc))) (by simp[results,results188,go_sem,GD,BG,p,q,r,s,t,u,x,z];try rfl) rfl ⟨(.slice va vl vc),rfl,?_,?_,?_⟩
  .refine Ac (X:=fun k=>k=w.heap.size) Y.o ?_ (Am Y.o i.o.cN T);iterate 8 refine O.t9 ?_ _ _
   exact O.refl _ _
  .refine W.d8 (X:=fun k=>k=w.heap.size) i.o.pa ?_ (by have:=i.o.bl;omega);iterate 8 refine O.t9 ?_ _ _
   exact O.refl _ _
  .iterate 8 refine O.cE ?_ _ _ (gI _)
   exact i.o.d8
def JX(t:PT):Nat:=if t.d9.toList=[49]then 1 else if t.d9.toList=[50]then 2 else if t.d9.toList=[51]then 3 else 0
def Cc(d:Nat)(h:World):Prop:=∀(b g n a:Nat) (x:PS) (c:List PT) (w:World),d<=b->Below d h w->AX b g n a x w->AY g n a c w->x.next<n->
 Calls prog 193 #[.pointer (some ⟨b,0,none⟩)] w fun e f=>e=.returned (.int .i64 (JX (AG c 2 x)))/\AX b g n a (Af c n 2 x) f/\O (fun k=>k=b) w f
theorem O.keeps{a b d w c}(h:Below a d w)(f:O (fun k=>k=b) w c)(e:a<=w.heap.size)(g:a<=b):Below a d c:=h.trans (f.cX e (fun k i=>Z))
def EX(a:List PT)(n:Nat)(x:PS):VS×PS:=
 let b:=Af a n 16 x
 let c:=Af a n 1 b
 if (Aj a c.next).kind=19 then
  let d:=Af a n 19 c
  (⟨3,BG,AG a 1 b,JX (AG a 2 d),[]⟩,Af a n 2 d)
 else(⟨2,BG,AG a 1 b,0,[]⟩,c)
theorem OY(P a2)(hF:Cc P a2)(b g n i B c w)(hb:P<=b)(hG:Below P a2 w)(hB:P<=w.heap.size)(d:AX b g n i B w)(ht:AY g n i c w)(a0:B.next<n)(L:(Aj c (n-1)).kind=0):
 Calls prog 187 #[.pointer (some ⟨b,0,none⟩)] w fun e w'=>Hc b g n i w (EX c n B) e w':=by
 obtain⟨N,E⟩:∃y,Af c n 16 B=y:=⟨_,rfl⟩;obtain⟨m,F⟩:∃y,Af c n 1 N=y:=⟨_,rfl⟩;obtain⟨h,M⟩:∃y,AG c 1 N=y:=⟨_,rfl⟩;obtain⟨Y,H⟩:∃y,Af c n 19 m=y:=⟨_,rfl⟩;obtain⟨x4,S⟩:∃y,Af c n 2 Y=y:=⟨_,rfl⟩;obtain⟨d4,V⟩:∃y,JX (AG c 2 Y)=y:=⟨_,rfl⟩;have a1:N.next<n:=by rw[<-E];exact AU L a0
 have U:m.next<n:=by rw[<-F];exact AU L a1
 have a3:Y.next<n:=by rw[<-H];exact AU L U
 have o:=J (KU.start d ht);have HG:=J hG;have HF:=J hF;have X1:=J E;have X2:=J F;have K2:=J M;have X3:=J H;have X4:=J S;have K4:=J V;by_cases I:(Aj c m.next).kind=19
 .have K:EX c n B=(⟨3,BG,h,d4,[]⟩,x4):=by simp only[EX,E,F,M,H,V,S,jH I]
  rw[K];have a4:(((Aj c m.next).kind:Int) !=19)=false:=by simp[I]
  clear E F M H S V K L d ht I hG hF;go_enter func187,ntmps187;go_wp2_with fail;refine(AH b g n i 16 B c _ o.o.pa o.o.pt a0).mono ?_;rw[X1.o];rintro e w1 ⟨rfl,d,a⟩;have j:=J (o.o.call d a);clear d a o;go_wp2_with fail;refine(Cy b g n i N c _ j.o.pa j.o.pt a1).mono ?_;rw[X2.o,K2.o];rintro e w2 ⟨rfl,d,a⟩;have f:=J (j.o.call d a);clear d a j;unfold J9;have a5:=Ae f.o.pa;have G:=J (W.new w2 #[.string h.d9,.int .i64 h.l7] 126);have l:=J (f.o.quiet ((O.refl _ _).alloc (.cells #[.string h.d9,.int .i64 h.l7] 126)));clear f;go_wp2_with fail;refine(AZ b g n i m c _ l.o.pa l.o.pt U).mono ?_;rintro e wk ⟨rfl,a⟩;have f:=J (l.o.quiet a);have Q:=J (G.o.d8 a id);clear a l G;go_wp2_with fail;refine(AH b g n i 19 m c _ f.o.pa f.o.pt U).mono ?_;rw[X3.o];rintro e w3 ⟨rfl,d,a⟩;have p:=J (f.o.call d a);have B3:=J (Q.o.d8 a Z);clear d a f Q;obtain⟨n0,n1⟩:=B3.o.e2 0 1;simp only[gH,gF,gG]at n0 n1;have l3:=Ae B3.o;have a8:=p.o.d8.size;obtain⟨q,r,s,t,u,x,z,A⟩:=p.o.cN.e8 0 1 2 3 4 5 6 7;have qf:=p.o.cN.frozen;have ql:=Ae p.o.cN;simp only[gH,gF,gG]at q r s t u x z A;go_wp2_with fail;go_region_with(go_at_call 193;refine(HF.o b g n i Y c _ hb (O.keeps HG.o (p.o.quiet jV).d8 hB hb) (p.o.quiet jV).pa (p.o.quiet jV).pt a3).mono ?_;rw[X4.o,K4.o];rintro e w5 ⟨rfl,d,a⟩;have C:=J ((p.o.quiet jV).call d a);have B5:=J ((W.d8 (X:=kD) B3.o jV id).d8 a Z);obtain⟨a6,a7⟩:=B5.o.e2 0 1;simp only[gH,gF,gG]at a6 a7;clear d a q r s t u x z A qf ql;obtain⟨q,r,s,t,u,x,z,A⟩:=C.o.cN.e8 0 1 2 3 4 5 6 7;have qf:=C.o.cN.frozen;have ql:=Ae C.o.cN;simp only[gH,gF,gG]at q r s t u x z A);all_goals
   go_wp2;have R:w5.ownsRow w.heap.size 126 2 (.slice none 0 0) 0 []:=gR _ _ _ _;refine gP (v:=.agg (GD ⟨3,BG,h,d4,[]⟩ (.slice none 0 0))) (by simp[results,results187,go_sem,GD,BG,q,r,s,t,u,x,z,A];try rfl) rfl ⟨(.slice none 0 0),rfl,?_,?_,?_⟩
   .refine Ac (X:=fun k=>k=w.heap.size) R ?_ (Am R C.o.cN T);iterate 8 refine O.t9 ?_ _ _
    exact O.refl _ _
   .refine W.d8 (X:=fun k=>k=w.heap.size) C.o.pa ?_ (by have:=C.o.bl;omega);iterate 8 refine O.t9 ?_ _ _
    exact O.refl _ _
   .iterate 8 refine O.cE ?_ _ _ (gI _)
    exact C.o.d8
 .have K:EX c n B=(⟨2,BG,h,0,[]⟩,m):=by simp only[EX,E,F,M,jG I]
  rw[K];have a4:(((Aj c m.next).kind:Int) !=19)=true:=jX;clear E F M H S V K L d ht I hG hF;go_enter func187,ntmps187;go_wp2_with fail;refine(AH b g n i 16 B c _ o.o.pa o.o.pt a0).mono ?_;rw[X1.o];rintro e w1 ⟨rfl,d,a⟩;have j:=J (o.o.call d a);clear d a o;go_wp2_with fail;refine(Cy b g n i N c _ j.o.pa j.o.pt a1).mono ?_;rw[X2.o,K2.o];rintro e w2 ⟨rfl,d,a⟩;have f:=J (j.o.call d a);clear d a j;unfold J9;have a5:=Ae f.o.pa;have G:=J (W.new w2 #[.string h.d9,.int .i64 h.l7] 126);have l:=J (f.o.quiet ((O.refl _ _).alloc (.cells #[.string h.d9,.int .i64 h.l7] 126)));clear f;go_wp2_with fail;refine(AZ b g n i m c _ l.o.pa l.o.pt U).mono ?_;rintro e wk ⟨rfl,a⟩;have f:=J (l.o.quiet a);have Q:=J (G.o.d8 a id);clear a l G;obtain⟨n0,n1⟩:=Q.o.e2 0 1;simp only[gH,gF,gG]at n0 n1;obtain⟨q,r,s,t,u,x,z,A⟩:=f.o.cN.e8 0 1 2 3 4 5 6 7;have qf:=f.o.cN.frozen;have ql:=Ae f.o.cN;simp only[gH,gF,gG]at q r s t u x z A;go_wp2;have R:wk.ownsRow w.heap.size 126 2 (.slice none 0 0) 0 []:=gR _ _ _ _;refine gP (v:=.agg (GD ⟨2,BG,h,0,[]⟩ (.slice none 0 0))) (by simp[results,results187,go_sem,GD,BG,q,r,s,t,u,x,z,A];try rfl) rfl ⟨(.slice none 0 0),rfl,?_,?_,?_⟩
  .refine Ac (X:=fun k=>k=w.heap.size) R ?_ (Am R f.o.cN T);iterate 8 refine O.t9 ?_ _ _
   exact O.refl _ _
  .refine W.d8 (X:=fun k=>k=w.heap.size) f.o.pa ?_ (by have:=f.o.bl;omega);iterate 8 refine O.t9 ?_ _ _
   exact O.refl _ _
  .iterate 8 refine O.cE ?_ _ _ (gI _)
   exact f.o.d8
def Cm(a:List PT)(n:Nat)(x:PS):VS×PS:=
 if (Aj a x.next).kind=5 then(⟨1,BG,BG,0,[]⟩,Af a n 5 x)
 else if (Aj a x.next).kind=16 then EX a n x
 else if (Aj a x.next).kind=17 then(⟨5,BG,AG a 1 (Af a n 17 x),0,[]⟩,Af a n 1 (Af a n 17 x))
 else if (Aj a x.next).kind=18 then(⟨4,BG,AG a 1 (Af a n 18 x),0,[]⟩,Af a n 1 (Af a n 18 x))
 else if (Aj a x.next).kind=10 then IY a n x
 else if (Aj a (Af a n 1 x).next).kind=10 then(⟨7,BG,AG a 1 x,0,(Br a n (Af a n 1 x)).1⟩,(Br a n (Af a n 1 x)).2)
 else(⟨6,BG,AG a 1 x,0,[]⟩,Af a n 1 x)
theorem Vb(b g n h c f w)(j:AX b g n h c w)(q:AY g n h f w)(p:c.next<n)(m:(Aj f c.next).kind=5):
 Calls prog 181 #[.pointer (some ⟨b,0,none⟩)] w fun e G=>Hc b g n h w (Cm f n c) e G:=by
 obtain⟨I,l⟩:∃y,Af f n 5 c=y:=⟨_,rfl⟩;have r:Cm f n c=(⟨1,BG,BG,0,[]⟩,I):=by simp only[Cm,jH m,l]
 rw[r];have a:=J (KU.start j q);have E:=J m;have F:=J l;clear l r j q m;go_enter func181,ntmps181;go_wp2_with fail;refine(AZ b g n h c f _ a.o.pa a.o.pt p).mono ?_;rw[E.o];rintro e M ⟨rfl,i⟩;have o:=J (a.o.quiet i);clear i a;have a:=o;clear o;go_wp2_with fail;refine(AH b g n h 5 c f _ a.o.pa a.o.pt p).mono ?_;rw[F.o];rintro e H ⟨rfl,j,i⟩;have d:=J (a.o.call j i);clear j i a;obtain⟨s,t,u,x,z,A,B,C⟩:=d.o.cN.e8 0 1 2 3 4 5 6 7;have K:=d.o.cN.frozen;have L:=Ae d.o.cN;simp only[gH,gF,gG]at s t u x z A B C;go_wp2;have R:H.ownsRow w.heap.size 126 2 (.slice none 0 0) 0 []:=gR _ _ _ _;refine gP (v:=.agg (GD ⟨1,BG,BG,0,[]⟩ (.slice none 0 0))) (by simp[results,results181,go_sem,GD,BG,s,t,u,x,z,A,B,C];try rfl) rfl ⟨(.slice none 0 0),rfl,?_,?_,?_⟩
 .refine Ac (X:=fun k=>k=w.heap.size) R ?_ (Am R d.o.cN T);iterate 8 refine O.t9 ?_ _ _
  exact O.refl _ _
 .refine W.d8 (X:=fun k=>k=w.heap.size) d.o.pa ?_ (by have:=d.o.bl;omega);iterate 8 refine O.t9 ?_ _ _
  exact O.refl _ _
 .iterate 8 refine O.cE ?_ _ _ (gI _)
  exact d.o.d8
theorem NM(b g n l i c w)(f:AX b g n l i w)(I:AY g n l c w)(s:i.next<n)(K:(Aj c (n-1)).kind=0)(o:(Aj c i.next).kind=17\/(Aj c i.next).kind=18):
 Calls prog 181 #[.pointer (some ⟨b,0,none⟩)] w fun e w'=>Hc b g n l w (Cm c n i) e w':=by
 rcases o with o|o
 .obtain⟨p,m⟩:∃y,Af c n 17 i=y:=⟨_,rfl⟩;obtain⟨U,q⟩:∃y,Af c n 1 p=y:=⟨_,rfl⟩;obtain⟨H,r⟩:∃y,AG c 1 p=y:=⟨_,rfl⟩;have u:Cm c n i=(⟨5,BG,H,0,[]⟩,U):=by simp[Cm,o,m,q,r]
  rw[u];have Q:p.next<n:=by rw[<-m];exact AU K s
  have a:=J (KU.start f I);have L:=J o;have N:=J m;have P:=J q;have M:=J r;clear m q r u f I o K;go_enter func181,ntmps181;go_wp2_with fail;refine(AZ b g n l i c _ a.o.pa a.o.pt s).mono ?_;rw[L.o];rintro e w0 ⟨rfl,d⟩;have t:=J (a.o.quiet d);clear d a;have a:=t;clear t;go_wp2_with fail;refine(AH b g n l 17 i c _ a.o.pa a.o.pt s).mono ?_;rw[N.o];rintro e w1 ⟨rfl,f,d⟩;have j:=J (a.o.call f d);clear f d a;go_wp2_with fail;refine(Cy b g n l p c _ j.o.pa j.o.pt Q).mono ?_;rw[P.o,M.o];rintro e S ⟨rfl,f,d⟩;have h:=J (j.o.call f d);clear f d j;obtain⟨x,z,A,B,C,E,F,G⟩:=h.o.cN.e8 0 1 2 3 4 5 6 7;have V:=h.o.cN.frozen;have Y:=Ae h.o.cN;simp only[gH,gF,gG]at x z A B C E F G;unfold J9;go_wp2;have R:S.ownsRow w.heap.size 126 2 (.slice none 0 0) 0 []:=gR _ _ _ _;refine gP (v:=.agg (GD ⟨5,BG,H,0,[]⟩ (.slice none 0 0))) (by simp[results,results181,go_sem,GD,BG,x,z,A,B,C,E,F,G];try rfl) rfl ⟨(.slice none 0 0),rfl,?_,?_,?_⟩
  .refine Ac (X:=fun k=>k=w.heap.size) R ?_ (Am R h.o.cN T);iterate 8 refine O.t9 ?_ _ _
   exact O.refl _ _
  .refine W.d8 (X:=fun k=>k=w.heap.size) h.o.pa ?_ (by have:=h.o.bl;omega);iterate 8 refine O.t9 ?_ _ _
   exact O.refl _ _
  .iterate 8 refine O.cE ?_ _ _ (gI _)
   exact h.o.d8
 .obtain⟨p,m⟩:∃y,Af c n 18 i=y:=⟨_,rfl⟩;obtain⟨U,q⟩:∃y,Af c n 1 p=y:=⟨_,rfl⟩;obtain⟨H,r⟩:∃y,AG c 1 p=y:=⟨_,rfl⟩;have u:Cm c n i=(⟨4,BG,H,0,[]⟩,U):=by simp[Cm,o,m,q,r]
  rw[u];have Q:p.next<n:=by rw[<-m];exact AU K s
  have a:=J (KU.start f I);have L:=J o;have N:=J m;have P:=J q;have M:=J r;clear m q r u f I o K;go_enter func181,ntmps181;go_wp2_with fail;refine(AZ b g n l i c _ a.o.pa a.o.pt s).mono ?_;rw[L.o];rintro e w0 ⟨rfl,d⟩;have t:=J (a.o.quiet d);clear d a;have a:=t;clear t;go_wp2_with fail;refine(AH b g n l 18 i c _ a.o.pa a.o.pt s).mono ?_;rw[N.o];rintro e w1 ⟨rfl,f,d⟩;have j:=J (a.o.call f d);clear f d a;go_wp2_with fail;refine(Cy b g n l p c _ j.o.pa j.o.pt Q).mono ?_;rw[P.o,M.o];rintro e S ⟨rfl,f,d⟩;have h:=J (j.o.call f d);clear f d j;obtain⟨x,z,A,B,C,E,F,G⟩:=h.o.cN.e8 0 1 2 3 4 5 6 7;have V:=h.o.cN.frozen;have Y:=Ae h.o.cN;simp only[gH,gF,gG]at x z A B C E F G;unfold J9;go_wp2;have R:S.ownsRow w.heap.size 126 2 (.slice none 0 0) 0 []:=gR _ _ _ _;refine gP (v:=.agg (GD ⟨4,BG,H,0,[]⟩ (.slice none 0 0))) (by simp[results,results181,go_sem,GD,BG,x,z,A,B,C,E,F,G];try rfl) rfl ⟨(.slice none 0 0),rfl,?_,?_,?_⟩
  .refine Ac (X:=fun k=>k=w.heap.size) R ?_ (Am R h.o.cN T);iterate 8 refine O.t9 ?_ _ _
   exact O.refl _ _
  .refine W.d8 (X:=fun k=>k=w.heap.size) h.o.pa ?_ (by have:=h.o.bl;omega);iterate 8 refine O.t9 ?_ _ _
   exact O.refl _ _
  .iterate 8 refine O.cE ?_ _ _ (gI _)
   exact h.o.d8
theorem NK(p S)(hF:Cc p S)(b g n l f d w)(Y:p<=b)(Q:Below p S w)(hB:p<=w.heap.size)(i:AX b g n l f w)(M:AY g n l d w)(L:f.next<n)(R:(Aj d (n-1)).kind=0)(j:(Aj d f.next).kind=16\/(Aj d f.next).kind=10):
 Calls prog 181 #[.pointer (some ⟨b,0,none⟩)] w fun e w'=>Hc b g n l w (Cm d n f) e w':=by
 have HG:=J Q;have HF:=J hF;have V:=J R;rcases j with j|j
 .obtain⟨G,U,m⟩:∃s y,EX d n f=(s,y):=⟨_,_,rfl⟩;have t:Cm d n f=(G,U):=by simp[Cm,j,m]
  rw[t];have a:=J (KU.start i M);have N:=J j;have P:=J m;clear m t i M j R Q hF;go_enter func181,ntmps181;go_wp2_with fail;refine(AZ b g n l f d _ a.o.pa a.o.pt L).mono ?_;rw[N.o];rintro e w0 ⟨rfl,h⟩;have q:=J (a.o.quiet h);clear h a;have a:=q;clear q;have a0:=a.o.d8.size;go_wp2_with fail;refine(OY p S HF.o b g n l f d _ Y (O.keeps HG.o a.o.d8 hB Y) Z a.o.pa a.o.pt L V.o).mono ?_;rw[P.o];rintro e w1 ⟨av,rfl,o,i,h⟩;obtain⟨H,K,I,rfl⟩:=Ad o;have c:=J (a.o.call i h);have r:=J (Aq o (B':=w.heap.size) Z);clear i h o a;obtain⟨u,x,z,A,B,C,E,F⟩:=c.o.cN.e8 0 1 2 3 4 5 6 7;have qf:=c.o.cN.frozen;have ql:=Ae c.o.cN;simp only[gH,gF,gG]at u x z A B C E F;unfold GD;go_wp2;refine gP (v:=.agg (GD G (.slice H K I))) (by simp[results,results181,go_sem,GD,u,x,z,A,B,C,E,F]) rfl ⟨(.slice H K I),rfl,?_,?_,?_⟩
  .refine Ac (X:=fun k=>k=w.heap.size) r.o ?_ (Am r.o c.o.cN T);iterate 8 refine O.t9 ?_ _ _
   exact O.refl _ _
  .refine W.d8 (X:=fun k=>k=w.heap.size) c.o.pa ?_ (by have:=c.o.bl;omega);iterate 8 refine O.t9 ?_ _ _
   exact O.refl _ _
  .iterate 8 refine O.cE ?_ _ _ (gI _)
   exact c.o.d8
 .obtain⟨G,U,m⟩:∃s y,IY d n f=(s,y):=⟨_,_,rfl⟩;have t:Cm d n f=(G,U):=by simp[Cm,j,m]
  rw[t];have a:=J (KU.start i M);have N:=J j;have P:=J m;clear m t i M j R Q hF;go_enter func181,ntmps181;go_wp2_with fail;refine(AZ b g n l f d _ a.o.pa a.o.pt L).mono ?_;rw[N.o];rintro e w0 ⟨rfl,h⟩;have q:=J (a.o.quiet h);clear h a;have a:=q;clear q;have a0:=a.o.d8.size;go_wp2_with fail;refine(KM b g n l f d _ a.o.pa a.o.pt L V.o).mono ?_;rw[P.o];rintro e w1 ⟨av,rfl,o,i,h⟩;obtain⟨H,K,I,rfl⟩:=Ad o;have c:=J (a.o.call i h);have r:=J (Aq o (B':=w.heap.size) Z);clear i h o a;obtain⟨u,x,z,A,B,C,E,F⟩:=c.o.cN.e8 0 1 2 3 4 5 6 7;have qf:=c.o.cN.frozen;have ql:=Ae c.o.cN;simp only[gH,gF,gG]at u x z A B C E F;unfold GD;go_wp2;refine gP (v:=.agg (GD G (.slice H K I))) (by simp[results,results181,go_sem,GD,u,x,z,A,B,C,E,F]) rfl ⟨(.slice H K I),rfl,?_,?_,?_⟩
  .refine Ac (X:=fun k=>k=w.heap.size) r.o ?_ (Am r.o c.o.cN T);iterate 8 refine O.t9 ?_ _ _
   exact O.refl _ _
  .refine W.d8 (X:=fun k=>k=w.heap.size) c.o.pa ?_ (by have:=c.o.bl;omega);iterate 8 refine O.t9 ?_ _ _
   exact O.refl _ _
  .iterate 8 refine O.cE ?_ _ _ (gI _)
   exact c.o.d8
theorem Sk(b g n m:Nat)(h:PS)(a:List PT)(w:World)(j:AX b g n m h w)(ht:AY g n m a w)(G:h.next<n)(Q:(Aj a (n-1)).kind=0)
 (k5:(Aj a h.next).kind≠5)(V:(Aj a h.next).kind≠16)(Y:(Aj a h.next).kind≠17)(a0:(Aj a h.next).kind≠18)(U:(Aj a h.next).kind≠10):
 Calls prog 181 #[.pointer (some ⟨b,0,none⟩)] w fun e w'=>Hc b g n m w (Cm a n h) e w':=by
 obtain⟨o,K⟩:∃y,Af a n 1 h=y:=⟨_,rfl⟩;obtain⟨i,S⟩:∃y,AG a 1 h=y:=⟨_,rfl⟩;obtain⟨l2,x2,L⟩:∃l y,Br a n o=(l,y):=⟨_,_,rfl⟩;have M:o.next<n:=by rw[<-K];exact AU Q G
 have f:=J (KU.start j ht);have X1:=J K;have X2:=J L;have K1:=J S;have HZ:=J Q;have hv:Cm a n h=if (Aj a o.next).kind=10 then(⟨7,BG,i,0,l2⟩,x2)else(⟨6,BG,i,0,[]⟩,o):=by simp[Cm,k5,V,Y,a0,U,K,L,S]
 rw[hv];obtain⟨I,N⟩:∃k,(Aj a h.next).kind=k:=⟨_,rfl⟩;rw[N]at k5 V Y a0 U;have HK:=J N;have j5:((I:Int)==5)=false:=jX;have a6:((I:Int)==16)=false:=jX;have a7:((I:Int)==17)=false:=jX;have a8:((I:Int)==18)=false:=jX;have a5:((I:Int)==10)=false:=jX;clear K L S hv j ht Q N k5 V Y a0 U;by_cases H:(Aj a o.next).kind=10
 .rw[jH H];have a1:(((Aj a o.next).kind:Int)==10)=true:=by simp[H]
  clear H;go_enter func181,ntmps181;go_wp2_with fail;refine(AZ b g n m h a _ f.o.pa f.o.pt G).mono ?_;rw[HK.o];rintro e w0 ⟨rfl,d⟩;have F:=J (f.o.quiet d);clear d f;have f:=F;clear F;go_wp2_with fail;refine(Cy b g n m h a _ f.o.pa f.o.pt G).mono ?_;rw[X1.o,K1.o];rintro e w1 ⟨rfl,j,d⟩;have c:=J (f.o.call j d);clear j d f;unfold J9;have a2:=Ae c.o.pa;have E:=J (W.new w1 #[.string i.d9,.int .i64 i.l7] 126);have p:=J (c.o.quiet ((O.refl _ _).alloc (.cells #[.string i.d9,.int .i64 i.l7] 126)));clear c;go_wp2_with fail;refine(AZ b g n m o a _ p.o.pa p.o.pt M).mono ?_;rintro e wk ⟨rfl,d⟩;have c:=J (p.o.quiet d);have C:=J (E.o.d8 d id);clear d p E;obtain⟨n0,n1⟩:=C.o.e2 0 1;simp only[gH,gF,gG]at n0 n1;have l1:=Ae C.o;obtain⟨q,r,s,t,u,x,z,A⟩:=c.o.cN.e8 0 1 2 3 4 5 6 7;have qf:=c.o.cN.frozen;have ql:=Ae c.o.cN;simp only[gH,gF,gG]at q r s t u x z A;go_wp2_with fail;go_region_with(go_at_call 141;refine(J8 b g n m o a _ (c.o.quiet jV).pa (c.o.quiet jV).pt M HZ.o).mono ?_;rw[X2.o];rintro e w5 ⟨v5,rfl,P,j,d⟩;obtain⟨va,vl,vc,rfl⟩:=Ad P;have B:=J ((c.o.quiet jV).call j d);have B5:=J ((W.d8 (X:=kD) C.o jV id).d8 d Z);have HW:=J (Aq P (B':=w.heap.size) (by have:=c.o.d8.size;simp;omega));obtain⟨a3,a4⟩:=B5.o.e2 0 1;simp only[gH,gF,gG]at a3 a4;clear j d P q r s t u x z A qf ql;obtain⟨q,r,s,t,u,x,z,A⟩:=B.o.cN.e8 0 1 2 3 4 5 6 7;have qf:=B.o.cN.frozen;have ql:=Ae B.o.cN;simp only[gH,gF,gG]at q r s t u x z A);all_goals
   go_wp2;refine gP (v:=.agg (GD ⟨7,BG,i,0,l2⟩ (.slice va vl vc))) (by simp[results,results181,go_sem,GD,BG,q,r,s,t,u,x,z,A];try rfl) rfl ⟨(.slice va vl vc),rfl,?_,?_,?_⟩
   .refine Ac (X:=fun k=>k=w.heap.size) HW.o ?_ (Am HW.o B.o.cN T);iterate 8 refine O.t9 ?_ _ _
    exact O.refl _ _
   .refine W.d8 (X:=fun k=>k=w.heap.size) B.o.pa ?_ (by have:=B.o.bl;omega);iterate 8 refine O.t9 ?_ _ _
    exact O.refl _ _
   .iterate 8 refine O.cE ?_ _ _ (gI _)
    exact B.o.d8
 .rw[jG H];have a1:(((Aj a o.next).kind:Int)==10)=false:=jX;clear H;go_enter func181,ntmps181;go_wp2_with fail;refine(AZ b g n m h a _ f.o.pa f.o.pt G).mono ?_;rw[HK.o];rintro e w0 ⟨rfl,d⟩;have F:=J (f.o.quiet d);clear d f;have f:=F;clear F;go_wp2_with fail;refine(Cy b g n m h a _ f.o.pa f.o.pt G).mono ?_;rw[X1.o,K1.o];rintro e w1 ⟨rfl,j,d⟩;have c:=J (f.o.call j d);clear j d f;unfold J9;have a2:=Ae c.o.pa;have E:=J (W.new w1 #[.string i.d9,.int .i64 i.l7] 126);have p:=J (c.o.quiet ((O.refl _ _).alloc (.cells #[.string i.d9,.int .i64 i.l7] 126)));clear c;go_wp2_with fail;refine(AZ b g n m o a _ p.o.pa p.o.pt M).mono ?_;rintro e wk ⟨rfl,d⟩;have c:=J (p.o.quiet d);have C:=J (E.o.d8 d id);clear d p E;obtain⟨n0,n1⟩:=C.o.e2 0 1;simp only[gH,gF,gG]at n0 n1;have l1:=Ae C.o;obtain⟨q,r,s,t,u,x,z,A⟩:=c.o.cN.e8 0 1 2 3 4 5 6 7;have qf:=c.o.cN.frozen;have ql:=Ae c.o.cN;simp only[gH,gF,gG]at q r s t u x z A;go_wp2;have R:wk.ownsRow w.heap.size 126 2 (.slice none 0 0) 0 []:=gR _ _ _ _;refine gP (v:=.agg (GD ⟨6,BG,i,0,[]⟩ (.slice none 0 0))) (by simp[results,results181,go_sem,GD,BG,q,r,s,t,u,x,z,A];try rfl) rfl ⟨(.slice none 0 0),rfl,?_,?_,?_⟩
  .refine Ac (X:=fun k=>k=w.heap.size) R ?_ (Am R c.o.cN T);iterate 8 refine O.t9 ?_ _ _
   exact O.refl _ _
  .refine W.d8 (X:=fun k=>k=w.heap.size) c.o.pa ?_ (by have:=c.o.bl;omega);iterate 8 refine O.t9 ?_ _ _
   exact O.refl _ _
  .iterate 8 refine O.cE ?_ _ _ (gI _)
   exact c.o.d8
theorem U8(f l)(hF:Cc f l)(b g n d c a w)(u:f<=b)(t:Below f l w)(s:f<=w.heap.size)(i:AX b g n d c w)(j:AY g n d a w)(h:c.next<n)(k:(Aj a (n-1)).kind=0):
 Calls prog 181 #[.pointer (some ⟨b,0,none⟩)] w fun e v=>Hc b g n d w (Cm a n c) e v:=by
 by_cases r:(Aj a c.next).kind=5
 .exact Vb b g n d c a w i j h r
 .by_cases o:(Aj a c.next).kind=16
  .exact NK f l hF b g n d c a w u t s i j h k (.inl o)
  .by_cases p:(Aj a c.next).kind=17
   .exact NM b g n d c a w i j h k (.inl p)
   .by_cases q:(Aj a c.next).kind=18
    .exact NM b g n d c a w i j h k (.inr q)
    .by_cases m:(Aj a c.next).kind=10
     .exact NK f l hF b g n d c a w u t s i j h k (.inr m)
     .exact Sk b g n d c a w i j h k r o p q m
