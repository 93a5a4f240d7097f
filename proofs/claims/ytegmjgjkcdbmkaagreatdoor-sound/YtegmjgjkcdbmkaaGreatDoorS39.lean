/- One of the texts of the proof: GrF SnB SnC SnD SnE. -/
import Derived.Test.YtegmjgjkcdbmkaaGreatDoorS38
set_option maxRecDepth 100000
set_option maxHeartbeats 4000000
namespace Go.Proofs.YtegmjgjkcdbmkaaGreatDoor
open Go.RowKit
def qL(j:List ByteArray)(a:ByteArray):Prop:=∀g,g<4→(Kz g).size<a.size→((a.extract 0 ((Kz g).size+1)).toList==(Kz g++⟨#[46]⟩).toList)=true→FY j (Kz g)=true
def qO(T:Tb)(j:List ByteArray)(d:Nat)(a b:ByteArray):Prop:=
 (∃n,1≤n∧n≤d∧a=⟨#[33]⟩++JR n∧∃h:n-1<T.E.length,FY T.E[n-1] b=true∧FY j b=true)∨
 ((∃c l,a.data.toList=c::l∧c≠33∧1≤l.length)∧qL j a∧((∃f v,f<4∧v<4∧a=GD f v)∨∃i,∃_:i<T.F.length,a=EX (i / 4+1) (i % 4))∧
   (∀f v,f<4→v<4→a=GD f v→FY (FD T f v) b=true)∧∀i (h:i<T.F.length),a=EX (i / 4+1) (i % 4)→FY T.F[i] b=true)
theorem kD{P:List PFn}{r s:Nat}{t:Tg}(g:P.length≤12)(e:∀f,(Ap P f).l8.length≤12)(h:kK P r s t∨(t.kind=2∧t.aV<P.length∧t.aX=0)):ON (jD t)=t:=by
 rcases t with ⟨k,o,i⟩;rcases h with (⟨a,c,b,_⟩ | ⟨a,c,b,d⟩) | ⟨a,c,b⟩
 ·simp only at a c b;subst a;have:=e o;rw [mB];unfold ON CD vN;rw [if_pos (by omega)];simp only;rw [show (o*12+i) / 12=o by omega,show (o*12+i) % 12=i by omega]
 ·simp only at a c b d;subst a;rw [mA];unfold ON CD pN;rw [if_neg (by omega),if_neg (by omega)];simp only;rw [show (156+(o-1)*4+i-156) / 4+1=o by omega,show (156+(o-1)*4+i-156) % 4=i by omega]
 ·simp only at a c b;subst a b;rw [pD];unfold ON CD fN;rw [if_neg (by omega),if_pos (by omega)];simp only;rw [show 144+o-144=o by omega]
theorem qE:∀f:Fin 4,∀v:Fin 4,∀g:Fin 4,(((GD f.val v.val).extract 0 ((Kz g.val).size+1)).toList==(Kz g.val++⟨#[46]⟩).toList)=true→g=f:=by decide+kernel
theorem nT:∀f:Fin 4,∀v:Fin 4,((GD f.val v.val).data.toList.head? !=some 33 && decide (2≤(GD f.val v.val).data.toList.length) && decide ((GD f.val v.val).size≤6))=true:=by decide+kernel
theorem lD(n:Nat):∃c l,Lib.decDigits n=c::l∧48≤c.toNat∧c.toNat≤57:=by
 rcases h:Lib.decDigits n with _ | ⟨c,l⟩
 ·rw [Lib.decDigits] at h;split at h<;>simp at h
 ·have:=Q8 n c (by rw [h];exact List.mem_cons_self);exact ⟨c,l,rfl,this.1,this.2⟩
theorem jV(n k:Nat):(EX n k).data.toList=Lib.decDigits n++46::Lib.decDigits k:=by unfold EX JR;simp
theorem eA(g:Nat):∃c l,(Kz g).data.toList=c::l∧97≤c.toNat:=by unfold Kz II;split<;>exact ⟨_,_,rfl,by decide⟩
theorem qD(n k g:Nat):(((EX n k).extract 0 ((Kz g).size+1)).toList==(Kz g++⟨#[46]⟩).toList)=true→False:=fun h=>by
 have e:=beq_iff_eq.1 h;rw [ByteArray.toList_eq,ByteArray.toList_eq,ByteArray.data_extract] at e;obtain ⟨c,l,o,q,i⟩:=lD n;obtain ⟨d,m,p,t⟩:=eA g;have a:=jV n k;rw [o] at a;have b:((EX n k).data.extract 0 ((Kz g).size+1)).toList=((EX n k).data.toList).take ((Kz g).size+1):=by simp
 rw [b,a] at e;have f:(Kz g++(⟨#[46]⟩:ByteArray)).data.toList=(Kz g).data.toList++[46]:=by simp
 rw [f,p] at e;simp only [List.cons_append,List.take_succ_cons,List.cons.injEq] at e;rw [e.1] at i;omega
section
variable {C : List Sm} {P : List PFn} (M : MadeP (fsOf C) 0 0 P) {r s u : Nat} (N : NmP P) (Y : AnHy P r s u) {T : Tb} (B : TbP P s u T) (w : T.V.length = 16) {j : List ByteArray} (y : Jo (Ex P) (FG P (least P) r) j) (A : s ≤ 240) (z : u ≤ 240)
include M N Y B w y A z
theorem oS{c:Co}(h:iM P r s c){l:List ByteArray}(hs:iV P l c.cU c.bN){x:ByteArray}(hx:x∈l):∃a b:ByteArray,x.data.toList=a.data.toList++62::b.data.toList∧(62:UInt8)∉a.data.toList∧x.size≤60∧qO T j u a b:=by
 have R:=Ip M;have X:P.length≤12:=by omega
 have I:=Y.ok.ok.l8;have nm:∀f,f<4→Ex P f=Kz f:=fun f H=>(Fu M H).1
 have a1:∀f,f<4→FG P (least P) r f→FY j (Kz f)=true:=fun f H q=>Ih.2 (y.aY.2 ⟨f,q,(nm f H).symm⟩)
 have a2:∀t,kK P r s t∨(t.kind=2∧t.aV<P.length∧t.aX=0)→(GQ P t).length≤20:=fun t ht=>by
  have e:=kD X I ht;have W:(EF P (jD t)).size=(GQ P t).length:=by unfold EF;rw [e];simp [ByteArray.size]
  rw [←W];rcases t with ⟨k,o,i⟩;rcases ht with (⟨D,m,n,_⟩ | ⟨D,m,n,h4⟩) | ⟨D,m,n⟩
  ·simp only at D m n;subst D;rw [R] at m;rw [(Fu M m).2.1] at n;have a0:i<4:=n;rw [mB,Wg M m a0];have:=nT ⟨o,m⟩ ⟨i,a0⟩;simp only [Bool.and_eq_true,decide_eq_true_eq] at this;omega
  ·simp only at D m n h4;subst D;rw [mA,OQ m (by omega)];have z1:=FP o (by omega);have z2:=FP i (by omega);unfold EX;simp only [ByteArray.size_append];have:(⟨#[46]⟩:ByteArray).size=1:=rfl;omega
  ·simp only at D m n;subst D n;rw [R] at m;rw [pD,Yh M m];have:=Ia o;unfold Yu;simp only [ByteArray.size_append];have:(⟨#[64]⟩:ByteArray).size=1:=rfl;omega
 rcases (hs.aY x).1 hx with ⟨p,hp,rfl⟩ | ⟨e,he,rfl⟩
 ·obtain ⟨D,m,n⟩:=h.cU p hp;have t1:=kD X I (.inl D);have t2:=kD X I m;have s1:=a2 _ (.inl D);have s2:=a2 _ m;have L:=(Im Y.ok n).1;have G:∀f v,f<4→v<4→EF P (jD p.1)=GD f v→FY (FD T f v) (EF P (jD p.2))=true:=fun f v H I e=>by rw [←Wg M H I] at e;rw [Gy M N Y (.inl L) (Yg M H I) e] at n;exact RP B w H I n
  have F:∀i (h:i<T.F.length),EF P (jD p.1)=EX (i / 4+1) (i % 4)→FY T.F[i] (EF P (jD p.2))=true:=fun i Z e=>by have hl:=B.fl;rw [←OQ (P:=P) (by omega) (by omega)] at e;rw [Gy M N Y (.inl L) (We (by omega) (by omega) (by omega)) e] at n;exact Ih.2 ((B.f i Z).aY.2 ⟨_,n,rfl⟩)
  refine ⟨EF P (jD p.1),EF P (jD p.2),?_,?_,?_,.inr ?_⟩
  ·unfold jP EF;rw [t1,t2];simp
  ·unfold EF;rw [t1];have:=kE N (c:=62) (by decide) p.1;simpa using this
  ·unfold jP;simp only [ByteArray.size,List.size_toArray,rV,List.length_singleton];omega
  ·rcases a3:p.1 with ⟨k,o,i⟩;rw [a3] at D n G F;rcases D with ⟨O,E,Q,V⟩ | ⟨O,E,Q,V⟩
   ·simp only at O E Q V;subst O;rw [R] at E;rw [(Fu M E).2.1] at Q;have U:i<4:=Q;rw [mB] at n G F⊢;rw [Wg M E U] at G F⊢;have K:=nT ⟨o,E⟩ ⟨i,U⟩;simp only [Bool.and_eq_true,decide_eq_true_eq,bne_iff_ne,ne_eq] at K;refine ⟨?_,fun g hg _ J=>?_,.inl ⟨o,i,E,U,rfl⟩,G,F⟩
    ·rcases hl:(GD o i).data.toList with _ | ⟨c,l⟩
     ·rw [hl] at K;exact absurd K.1.2 (by decide)
     ·rw [hl] at K;refine ⟨c,l,rfl,fun q=>K.1.1 (by rw [q];rfl),?_⟩;have:=K.1.2;simp only [rW] at this;omega
    ·have:=qE ⟨o,E⟩ ⟨i,U⟩ ⟨g,hg⟩ J;have:g=o:=congrArg Fin.val this;rw [this];exact a1 o E V
   ·simp only at O E Q V;subst O;rw [mA] at n G F⊢;rw [OQ E (by omega)] at G F⊢;obtain ⟨c,l,hc,L,c2⟩:=lD o;have Z:(o-1)*4+i<T.F.length:=by rw [B.fl];omega
    have e1:((o-1)*4+i) / 4+1=o:=by omega
    have W:((o-1)*4+i) % 4=i:=by omega
    refine ⟨⟨c,l++46::Lib.decDigits i,by rw [jV,hc];rfl,fun q=>by rw [q] at L;exact absurd L (by decide),by simp;omega⟩,fun g _ _ J=>(qD _ _ _ J).elim,.inr ⟨_,Z,by rw [e1,W]⟩,G,F⟩
 ·obtain ⟨D,m⟩:=h.bN e he;obtain ⟨⟨l1,l2⟩,S⟩:=MN Y.ok D;rw [R] at S;have J:(Ap P e.2).name=Kz e.2:=nm _ S;have hn:e.1-1<T.E.length:=by rw [B.el];omega
  have hE:=B.e _ hn;simp only [show e.1-1+1=e.1 by omega] at hE;have z1:=FP e.1 (by omega);have z2:=Ia e.2;have z3:(Lib.decDigits e.1).length≤4:=by
   have:(JR e.1).size=(Lib.decDigits e.1).length:=by unfold JR;simp [ByteArray.size]
   omega
  refine ⟨⟨#[33]⟩++JR e.1,Kz e.2,?_,?_,?_,.inl ⟨e.1,l1,l2,rfl,hn,Ih.2 (hE.aY.2 ⟨_,D,(nm _ S).symm⟩),a1 _ S m⟩⟩
  ·unfold kQ JR;rw [J];simp
  ·have d:=Ra e.1 (c:=62) (by decide);unfold JR;simp [d]
  ·unfold kQ;rw [J];have:(Kz e.2).data.toList.length=(Kz e.2).size:=Array.length_toList;simp only [ByteArray.size,List.size_toArray,rV,rW,List.length_nil];simp only [ByteArray.size] at this z2;simp only [Array.length_toList] at this⊢;omega
end
theorem PEq.seen{P a:List PFn}(E:PEq P a){l:List ByteArray}{c:List (Tg×Tg)}{b:List (Nat×Nat)}(h:iV a l c b):iV P l c b:=by
 have d:∀p,jP a p=jP P p:=fun p=>by unfold jP;rw [E.tx,E.tx]
 have e:∀p,kQ a p=kQ P p:=fun p=>by unfold kQ;rw [E.name]
 refine ⟨h.sorted,fun x=>?_⟩;rw [h.aY];simp only [d,e]
abbrev lQ:ByteArray:=⟨#[102,110,32,109,97,105,110,40,41,32,123,32,118,97,114,32,112,59,32,118,97,114,32,113,59,32,112,32,61,32,110,101,119,59,32,113,32,61,32,38,112,59,32,42,113,32,61,32,113,59,32,125]⟩
def qA:Sc:=match Aw lQ lQ.size 0 ⟨[],false,0,0⟩ with
 | .inr y=>y
 | .inl _=>⟨[],false,0,0⟩
theorem qF:(match Aw lQ lQ.size 0 ⟨[],false,0,0⟩ with | .inr _=>true | .inl _=>false)=true:=by decide+kernel
theorem oZ:Aw lQ lQ.size 0 x0=.inr qA:=by
 have h:=qF;show Aw lQ lQ.size 0 ⟨[],false,0,0⟩=.inr qA;unfold qA;cases a:Aw lQ lQ.size 0 ⟨[],false,0,0⟩ with
 | inl p=>rw [a] at h;cases h
 | inr y=>rfl
def mC:List TF×Nat×PS:=CM (AH lQ qA) (AH lQ qA).length ⟨0,false,0⟩
theorem qG:mC.2.2.m8=false:=by decide+kernel
theorem pV:(Lt mC.1 4000 mC.2.1).aR=0:=by decide+kernel
def pE:List PFn:=Bu (DU mC.1) mC.1 0 0
def oH:Mc×Nat:=gY pE (vx (DU mC.1) EA) 100 []
theorem pW:(oH.1.bM,oH.2)=(2,95):=by decide+kernel
theorem oY:oH.1.c.cU=[(⟨0,0,0⟩,⟨0,0,0⟩),(⟨0,0,1⟩,⟨0,0,0⟩),(⟨0,0,0⟩,⟨1,1,0⟩)]:=by kernel_rfl
theorem qI:GQ pE ⟨0,0,0⟩=[109,97,105,110,46,112]:=by kernel_rfl
theorem qJ:GQ pE ⟨0,0,1⟩=[109,97,105,110,46,113]:=by kernel_rfl
theorem qH:GQ pE ⟨1,1,0⟩=[49,46,48]:=by unfold GQ;rw [if_pos rfl,Lib.decDigits_one (by decide),Lib.decDigits_one (by decide)];rfl
theorem pY:oH.1.c.cU.map (jP pE)=[⟨#[109,97,105,110,46,112,62,109,97,105,110,46,112]⟩,⟨#[109,97,105,110,46,113,62,109,97,105,110,46,112]⟩,⟨#[109,97,105,110,46,112,62,49,46,48]⟩]:=by rw [oY];simp only [List.map_cons,List.map_nil,jP,qI,qJ,qH];rfl
theorem pX:oH.1.c.bN.length=0:=by decide+kernel
theorem pA{l:List ByteArray}(h:iV pE l oH.1.c.cU oH.1.c.bN):l.length=3:=by
 have b:l=[⟨#[109,97,105,110,46,112,62,49,46,48]⟩,⟨#[109,97,105,110,46,112,62,109,97,105,110,46,112]⟩,⟨#[109,97,105,110,46,113,62,109,97,105,110,46,112]⟩]:=jO h.sorted (by decide+kernel) fun x=>by
  rw [h.aY];have a:oH.1.c.bN=[]:=List.eq_nil_of_length_eq_zero pX;rw [a];have e:(∃p,p∈oH.1.c.cU∧x=jP pE p)↔x∈oH.1.c.cU.map (jP pE):=by rw [List.mem_map];exact ⟨fun ⟨p,h,k⟩=>⟨p,h,k.symm⟩,fun ⟨p,h,k⟩=>⟨p,h,k.symm⟩⟩
  rw [e,pY];constructor
  ·rintro (q | ⟨_,q,_⟩)
   ·simp only [List.mem_cons,List.not_mem_nil,or_false] at q⊢;rcases q with q | q | q
    ·exact .inr (.inl q)
    ·exact .inr (.inr q)
    ·exact .inl q
   ·cases q
  ·intro q;left;simp only [List.mem_cons,List.not_mem_nil,or_false] at q⊢;rcases q with q | q | q
   ·exact .inr (.inr q)
   ·exact .inl q
   ·exact .inr (.inl q)
 rw [b];rfl
theorem pS{a b w}(h:Nf a b w)(q:jT a b):
 Calls Tryz.prog 17 #[.string lQ,.string ⟨#[]⟩,.int .i64 100] w fun e k=>(∃d f,e=.returned (.tuple #[.agg #[.int .i64 2,.int .i64 5,.slice d 3 f],.int .i64 0,.int .i64 0]))∧Ab (fun _=>False) w k:=by
 obtain ⟨n,o,p⟩:=Ml a b h.fo lQ (by decide) qA oZ mC.1 mC.2.1 mC.2.2 rfl qG (fun _ _ _ _=>pV);have r:Ab (fun _=>False) w (w.alloc (.cells pF 53)):=(Ab.refl _ w).alloc _;have i:=h.go r;have R:=jY a b q lQ ⟨#[]⟩ 100 mC.1 mC.2.1 n o w h.bl h.sz (p _ i.bl i.sz);have g:UL 100=100:=by decide
 have m:gY (Bu (DU mC.1) mC.1 0 0) (vx (DU mC.1) EA) (UL 100) (⟨#[]⟩:ByteArray).data.toList=oH:=by rw [g];rfl
 rw [m,g] at R;have c:=pW;simp only [Prod.mk.injEq] at c;rw [c.1,c.2] at R;refine R.mono ?_;rintro e k ⟨d,v,f,l,rfl,s,t,_,u⟩;have j:=Aq s;rw [pA t] at j;subst j;exact ⟨⟨d,f,rfl⟩,GP u⟩
def iR(l m:List ByteArray):Bool:=l.any fun s=>FY m s
theorem mN{l m:List ByteArray}:iR l m=true↔∃s,s∈l∧s∈m:=by unfold iR;rw [List.any_eq_true];exact ⟨fun ⟨s,h,k⟩=>⟨s,h,Ih.1 k⟩,fun ⟨s,h,k⟩=>⟨s,h,Ih.2 k⟩⟩
theorem lH(l m:List ByteArray)(k:Nat)(h:k<l.length):iR (l.drop k) m=(FY m l[k] || iR (l.drop (k+1)) m):=by unfold iR;rw [List.drop_eq_getElem_cons h,List.any_cons]
theorem nW(B:Nat)(v u:Value)(l m:List ByteArray)(w:World)(h:Au B w v l)(n:Au B w u m):
 Calls Tryz.prog 43 #[v,u] w fun e p=>e=.returned (.bool (iR l m))∧p=w:=by
 obtain ⟨G,I,H,rfl⟩:=Ad h;obtain ⟨D,F,E,rfl⟩:=Ad n;have y:=Aq h;subst y;obtain ⟨r,o⟩:∃r,iR l m=r:=⟨_,rfl⟩;rw [o];have j:=Aa o;have C:=Qb h;have q:=Aa n;clear o n;go_enter Tryz.func43,Tryz.ntmps43;go_wp2;go_loop [5] (fun i=>∃(k:Nat),k≤l.length∧i=.int .i64 k∧dN (iR (l.drop k) m=r)) (fun i=>l.length-(intOf i).toNat)
 case atStart=>exact ⟨0,by omega,rfl,by rw [List.drop_zero];exact j⟩
 case round=>
  obtain ⟨k,A,rfl,d⟩:=hrel;by_cases s:k<l.length
  ·obtain ⟨g,rfl⟩:=AA h (by omega);have z:=Gv h k s;have a:=d.o;rw [lH l m k s] at a;cases c:FY m l[k] with
   | false=>
     rw [c,Bool.false_or] at a;have t:=Aa a;have f:=Aa c;clear a d c;go_wp2_with (go_at_call 22;refine (Fs B _ m _ _ q.o).mono ?_;rw [f.o];rintro e p ⟨rfl,b⟩;have b:=b.symm;subst b);go_round
     case rel=>exact ⟨k+1,by omega,by go_num,t⟩
     case measure=>simp [intOf];omega
   | true=> rw [c,Bool.true_or] at a;subst a;have f:=Aa c;clear d c j;go_wp2_with (go_at_call 22;refine (Fs B _ m _ _ q.o).mono ?_;rw [f.o];rintro e p ⟨rfl,b⟩;have b:=b.symm;subst b);go_ret;exact ⟨rfl,rfl⟩
  ·have a:=d.o;rw [List.drop_of_length_le (by omega)] at a;have x:false=r:=a;subst x;clear a d j;go_wp2;go_ret;exact ⟨rfl,rfl⟩
theorem nP{s a b:ByteArray}(h:s.data.toList=a.data.toList++62::b.data.toList):s.extract 0 a.size=a∧s.extract (a.size+1) s.size=b∧a.size<s.size:=by
 have c:a.data.toList.length=a.size:=Array.length_toList;have d:b.data.toList.length=b.size:=Array.length_toList;have e:s.data.toList.length=s.size:=Array.length_toList;have f:s.size=a.size+1+b.size:=by have:=congrArg List.length h;rw [rV,rW,c,d,e] at this;omega
 refine ⟨Dd ?_,Dd ?_,by omega⟩
 ·rw [ByteArray.toList_eq,ByteArray.toList_eq,ByteArray.data_extract];have:(s.data.extract 0 a.size).toList=s.data.toList.take a.size:=by simp
  rw [this,h,List.take_left' c]
 ·rw [ByteArray.toList_eq,ByteArray.toList_eq,ByteArray.data_extract];have:(s.data.extract (a.size+1) s.size).toList=(s.data.toList.drop (a.size+1)).take (s.size-(a.size+1)):=by simp
  rw [this,h,show a.data.toList++62::b.data.toList=(a.data.toList++[62])++b.data.toList by simp,List.drop_left' (by rw [rV,c];rfl),List.take_of_length_le (by rw [d];omega)]
theorem mZ(s a b:ByteArray)(h:s.data.toList=a.data.toList++62::b.data.toList)(x:(62:UInt8)∉a.data.toList)(J:s.size≤4000)(w:World):
 Calls Tryz.prog 23 #[.string s] w fun e E=>e=.returned (.tuple #[.string a,.string b,.bool true])∧Ab (fun _=>False) w E:=by
 obtain ⟨t,u,d⟩:=nP h;have c:a.data.toList.length=a.size:=Array.length_toList;have f:s.data.toList.length=s.size:=Array.length_toList;have l:∀i (q:i<s.size),s[i]'q=s.data.toList[i]'(by rw [f];exact q):=fun i q=>by rw [Array.getElem_toList];rfl
 have A:dN (∀i (q:i<a.size),((s[i]'(Nat.lt_trans q d)).toNat:Int)≠62):=fun i q k=>by
  have m:s.data.toList[i]'(by rw [f];omega)=a.data.toList[i]'(by rw [c];exact q):=by simp only [h];rw [List.getElem_append_left (by rw [c];exact q)]
  rw [l i (by omega),m] at k;refine x ?_;have C:a.data.toList[i]'(by rw [c];exact q)=62:=by apply UInt8.toNat_inj.1;have:(62:UInt8).toNat=62:=rfl;omega
  rw [←C];exact rQ _
 have B:dN (((s[a.size]'d).toNat:Int)=62):=by
  have m:s.data.toList[a.size]'(by rw [f];exact d)=62:=by simp only [h];rw [List.getElem_append_right (by rw [c];exact rN _)];simp only [c,Nat.sub_self,List.getElem_cons_zero]
  rw [l _ d,m];rfl
 clear l c;clear f;have p:=Aa t;have r:=Aa u;obtain ⟨n,y⟩:∃n,a.size=n:=⟨_,rfl⟩;have g:=Aa y;have I:n<s.size:=by omega
 clear t u h x y;go_enter Tryz.func23,Tryz.ntmps23;go_wp2;go_loop [5] (fun i=>∃(k:Nat),k≤n∧i=.int .i64 k) (fun i=>n-(intOf i).toNat)
 case atStart=>exact ⟨0,by omega,rfl⟩
 case round=>
  obtain ⟨k,G,rfl⟩:=hrel;have o:k<s.size:=by omega
  have K:decide ((k:Int)<(s.size:Int))=true:=by simp;omega
  by_cases D:k<n
  ·have H:(((s[k]'o).toNat:Int)==62)=false:=by have:=A.o k (by rw [g.o];exact D);simpa using this
   go_wp2
   go_round
   case rel=>exact ⟨k+1,by omega,by go_num⟩
   case measure=>simp [intOf];omega
  ·obtain rfl:k=n:=by omega
   have F:(((s[k]'o).toNat:Int)==62)=true:=by
    have h:=B.o;have e:∀j (q:j<s.size),j=a.size→((s[j]'q).toNat:Int)=62:=fun j q z=>by subst z;exact h
    have:=e k o g.o.symm;simpa using this
   rw [g.o] at p r;go_wp2;go_region;rw [p.o,r.o];go_wp2_with fail;refine bodyPost_ret (v:=.tuple #[.string a,.string b,.bool true]) (by simp [results,Tryz.results23,go_sem]) rfl ⟨rfl,(Ab.refl _ w).drew⟩
theorem mO{q:List Sm}{P:List PFn}(M:MadeP (fsOf q) 0 0 P){p m h:Nat}(N:NmP P)(Y:AnHy P p m h){T:Tb}(B:TbP P m h T)(a:T.V.length=16){f v b g:Nat}(i:f<4)(k:v<4)(j:b<4)(l:g<4):
 iR (FD T f v) (FD T b g)=true↔∃x,(least P).I (vN f v) x∧(least P).I (vN b g) x:=by
 rw [mN];constructor
 ·rintro ⟨s,c,d⟩;obtain ⟨t,n,rfl⟩:=(QB B a i k).1 c;obtain ⟨u,o,e⟩:=(QB B a j l).1 d;have:=Gy M N Y (Im Y.ok n).2 (Im Y.ok o).2 e;subst this;exact ⟨t,n,o⟩
 ·rintro ⟨x,c,d⟩;exact ⟨EF P x,(QB B a i k).2 ⟨x,c,rfl⟩,(QB B a j l).2 ⟨x,d,rfl⟩⟩
structure mE(w:World)(cs:Array Value)(wr:World):Prop where
 b:Ak w.heap.size cs 33 wr
 o:Ab (fun _=>False) w wr
theorem mE.go{w a wr b}(h:mE w a wr)(k:Ab (fun _=>False) wr b):mE w a b:=⟨h.b.O k (fun q=>q),h.o.trans k⟩
theorem jZ{ss:List Sm}{P:List PFn}(M:MadeP (fsOf ss) 0 0 P){F s l:Nat}(N:NmP P)(Y:AnHy P F s l){T:Tb}(B:TbP P s l T)(J:List Value)(z t:Value)(G:Nat)(w:World)(D:Ek w J z t T)(V:GH P F s l G w):
 Calls Tryz.prog 21 #[.pointer (some ⟨G,0,none⟩),.agg (Fv J z t)] w fun e K=>e=.returned (.bool true)∧Ab (fun _=>False) w K:=by
 have R:=Aa D;have HR:=Aa V;have HY:=Aa Y;have a3:dN (∀f v b d,f<4→v<4→b<4→d<4→∀r:Bool,(r=true↔∃x,(least P).I (vN f v) x∧(least P).I (vN b d) x)→iR (FD T f v) (FD T b d)=r):=fun f v b d h1 h2 h3 h4 r o=>by have:=(mO M N Y B D.t16 h1 h2 h3 h4).trans o.symm;cases r<;>cases hm:iR (FD T f v) (FD T b d)<;>simp_all
 have O:dN (∀f v,f<4→v<4→FE P (Kz f) (GA v) 0=some (vN f v)):=fun f v n p=>Vj M n p
 clear D V Y M N B;obtain ⟨j,E⟩:∃c,Fv J z t=c:=⟨_,rfl⟩;rw [E];have a0:=Aa E;clear E;have a:dN (mE w j (w.alloc (.cells j 33))):=⟨Ak.new w j _,(Ab.refl _ w).alloc _⟩;go_enter Tryz.func21,Tryz.ntmps21;go_wp2_with fail;generalize w.alloc (.cells j 33)=W at a⊢;go_loopw [5] (fun i wr=>∃(m:Nat),m≤16∧i=.int .i64 m∧dN (mE w j wr)) (fun i _=>16-(intOf i).toNat)
 case atStart=>exact ⟨0,by omega,rfl,a⟩
 case round=>
  clear a;obtain ⟨m,hm,rfl,a⟩:=hrel;by_cases a5:m<16
  ·have tm:decide ((m:Int)<16)=true:=by simp;omega
   go_wp2_with fail;go_loopw [6] (fun i wr=>∃(k:Nat),k≤16∧i=.int .i64 k∧dN (mE w j wr)) (fun i _=>16-(intOf i).toNat)
   case atStart=>exact ⟨0,by omega,rfl,a⟩
   case round=>
    clear a;obtain ⟨k,hk,rfl,a⟩:=hrel;by_cases a4:k<16
    ·have tk:decide ((k:Int)<16)=true:=by simp;omega
     obtain ⟨f,n⟩:∃x,m / 4=x:=⟨_,rfl⟩;obtain ⟨v,p⟩:∃x,m % 4=x:=⟨_,rfl⟩;obtain ⟨b,X⟩:∃x,k / 4=x:=⟨_,rfl⟩;obtain ⟨d,Z⟩:∃x,k % 4=x:=⟨_,rfl⟩;have e1:(m:Int).tdiv 4=(f:Int):=by rw [←n];rfl
     have e2:(m:Int).tmod 4=(v:Int):=by rw [←p];rfl
     have e3:(k:Int).tdiv 4=(b:Int):=by rw [←X];rfl
     have e4:(k:Int).tmod 4=(d:Int):=by rw [←Z];rfl
     have u:f<4:=by omega
     have H:v<4:=by omega
     have y:b<4:=by omega
     have I:d<4:=by omega
     clear n p X Z;go_wp2_with (first
      | (go_at_call 26;refine (Gm _ (by assumption) _).mono ?_;rintro e K ⟨rfl,h⟩;have h:=h.symm;subst h)
      | (go_at_call 28;refine (Kc _ (by assumption) _).mono ?_;rintro e K ⟨rfl,h⟩;have h:=h.symm;subst h)
      | fail)
     refine (lL P F s l G _ HY.o (HR.o.i9 a.o.o) (Kz f) (GA v) (Kz b) (GA d)).mono ?_;rintro e w1 ⟨⟨q,_⟩,o1⟩;obtain ⟨r,rfl,o⟩:=q _ _ (O.o f v u H) (O.o b d y I);have Q:=Aa (a3.o f v b d u H y I r o);have g:=Aa (a.o.go o1);clear q o o1 a;obtain ⟨a1,d1,A,s1⟩:=(R.o.i9 g.o.o).var u H;obtain ⟨a2,d2,C,s2⟩:=(R.o.i9 g.o.o).var y I;rw [a0.o] at A C;have q1:=g.o.b.cell (f*4+v);have q2:=g.o.b.cell (b*4+d);rw [A] at q1;rw [C] at q2;have lb:=Ae g.o.b;have S:=Aa s1;have U:=Aa s2;clear A C s1 s2;go_wp2_with fail;go_quiet ((go_at_call 43;exact Calls.quiet_of_same (nW 0 _ _ _ _ _ S.o U.o)));rw [Q.o];have L:=Aa (g.o.go ((Ab.refl _ w1).drewN nq));generalize w1.drewN nq=w2 at L⊢;clear g q1 q2 lb S U Q;have tr:(r !=r)=false:=by simp
     go_wp2_with fail;go_roundw
     case rel=>exact ⟨k+1,by omega,by go_num,L⟩
     case measure=>simp [intOf];omega
    ·have tk:decide ((k:Int)<16)=false:=by simp;omega
     go_wp2_with fail;go_roundw
     case rel=>exact ⟨m+1,by omega,by go_num,a⟩
     case measure=>simp [intOf];omega
  ·have tm:decide ((m:Int)<16)=false:=by simp;omega
   go_wp2_with fail;go_ret;exact ⟨rfl,a.o.o⟩
theorem Wy.quiet{v b}{w d:World}(h:Wy v b w)(k:Ab (fun _=>False) w d):Wy v b d:=by obtain ⟨a,c,e,i,q⟩:=h;refine ⟨a,c,e,i,q.imp id ?_⟩;rintro ⟨g,j,f,r⟩;exact ⟨g,j,f,r.O k⟩
theorem Wy.get{a b c}{w:World}(h:Wy (.slice a b.length c) b w){i:Nat}(f:i<b.length):∃g d,a=some ⟨g,d,none⟩∧Hm g d b w∧g<w.heap.size:=by
 obtain ⟨l,m,e,_,q⟩:=h;have j:b≠[]:=fun z=>by rw [z] at f;simp at f
 rcases q with q | ⟨g,d,k,r⟩
 ·exact absurd q j
 ·simp only [Value.slice.injEq] at e;exact ⟨g,d,e.1.trans k,r,r.lt j⟩
end Go.Proofs.YtegmjgjkcdbmkaaGreatDoor
