/- Part of the proof: AnE AnG AnH AnI AnJ AnK AnL AnM. -/
import Derived.Test.YtaningfhibkemaaGreatDoorG28
import Derived.Test.YtaningfhibkemaaGreatDoorG19
import Derived.OwnWalk
import Derived.Shelf.Spec.TrailingZeros
set_option maxRecDepth 100000
set_option maxHeartbeats 2000000
namespace Go.Proofs.YtaningfhibkemaaGreatDoor
open Go.RowKit Go.Maps Go.Proofs.Tryz
def JQ(w:World):Prop:=TabAt 0 Lib.deBruijn64tab w
theorem UZ(x k a:Nat)(w:World)(h:((x:Int)==0)=false)
 (b:IntKind.u64.wrap (bits BinOp.and IntKind.u64 (x:Int) (IntKind.u64.wrap (-(x:Int)))*285870213051353865) / 288230376151711744=(a:Int))
 (f:a<64)(g:k<64)(d:w.cell? ⟨0,a,none⟩=some (.int .u8 k)):
 Calls prog 128 #[.int .u64 x] w fun e c=>e=.returned (.int .i64 k)/\c=w:=by
 go_enter func128,ntmps128;go_wp2_with(simp only[b]);go_ret;exact⟨rfl,rfl⟩
theorem Xt(x:Nat)(w:World)(f:x≠0)(d:x<18446744073709551616)(g:JQ w):
 Calls prog 128 #[.int .u64 x] w fun e j=>e=.returned (.int .i64 (Lib.ctz 64 x))/\j=w:=by
 obtain⟨h,c⟩:=Lib.lowest_bit 64 x f d;obtain⟨b,i⟩:=Lib.deBruijn64_at _ c;have a:=g _ b;rw[i]at a;exact UZ x _ _ w jX (tz64_key x _ d f h) b c a
theorem JQ.d8{X:Nat->Prop}{w a}(h:JQ w)(d:O X w a)(e:¬X 0)(c:0<w.heap.size):JQ a:=fun j b=>by rw[gJ (d.block _ c e)];exact h j b
theorem Dw{w:World}{B e d v n f}(h:w.ownsRow B e d v n f):∀k,v.ownBlock=some k->∃a,w.heap[k]? =some (.cells a e (0,0)):=by
 intro k b;rcases h.2 with⟨rfl,_⟩|⟨g,i,a,rfl,_,c,_⟩
 .cases b
 .cases b;exact⟨a,c⟩
theorem FG.neRow{t:Type}{R:Value->Option (DataW Unit×List MemPlace)}{l:t->DataW Unit}{b r g m w B e o v n p}(h:FG R l b r g m w)(k:w.ownsRow B e o v n p):v.ownBlock≠some b/\v.ownBlock≠some r:=by
 refine⟨fun q=>?_,fun q=>?_⟩
 .obtain⟨j,i⟩:=Dw k _ q;obtain⟨u,c,f⟩:=h.map.isMap;rw[i]at f;cases f
 .obtain⟨j,i⟩:=Dw k _ q;obtain⟨a,s,c,d,f⟩:=h.iter;rw[i]at f;cases f
structure QZ(m rest:Nat->Prop)(k y:Nat)(l:List Nat):Prop where
 nd:l.Pairwise (·≠ ·)
 cU:∀n,n∈l↔m n/\¬rest (n / 64)/\¬(n / 64=k/\y.testBit (n % 64)=true)
theorem QZ.step{m f:Nat->Prop}{k y l}(h:QZ m f k y l)(w:¬f k)(x:∀i,i<64->y.testBit i=true->m (k*64+i))(s:y≠0)(t:y<18446744073709551616):QZ m f k (y &&& (y-1)) (l++[k*64+Lib.ctz 64 y]):=by
 obtain⟨p,g,r⟩:=LF s t;generalize Lib.ctz 64 y=c at*;have j:(k*64+c) / 64=k:=Z;have o:(k*64+c) % 64=c:=Z;refine⟨List.pairwise_append.2 ⟨h.nd,List.pairwise_singleton _ _,fun a u b v=>?_⟩,fun n=>?_⟩
 .rw[iB.1 v];rintro rfl;exact((h.cU _).1 u).2.2 ⟨j,by rw[o];exact g⟩
 .rw[iM,iB,h.cU,r];by_cases d:n / 64=k
  .by_cases e:n % 64=c
   .have:n=k*64+c:=Z;subst this;simp[e,d,w,x c p g]
   .have:n≠k*64+c:=fun q=>e (by rw[q];exact o)
    simp[d,e,this]
  .have:n≠k*64+c:=fun q=>d (by rw[q];exact j)
   simp[d,this]
theorem QZ.len{m c:Nat->Prop}{k y l}(h:QZ m c k y l)(a:∀n,m n->n<19200):l.length<=19200:=DJ 19200 l h.nd fun x b=>a x ((h.cU x).1 b).1
theorem DS(b:Nat)(m:Nat->Prop)(w:World)(h:Bl b m w)(hT:JQ w)(hg:0<w.heap.size):
 Calls prog 90 #[.map (some b)] w fun e w'=>∃v l,e=.returned v/\Ax w.heap.size w' v l/\l.Pairwise (·≠ ·)/\(∀x,x∈l↔m x)/\O kD w w':=by
 obtain⟨i0,c0,c6,c7,c8⟩:=info_parts Tryz.infoInt;obtain⟨go,ko,a9⟩:=h;have lo:=ko.lt;have HO:=J ko;have K:=J a9;have b7:=J hT;clear ko a9 hT;go_enter func90,ntmps90;go_wp2_with(at_range;refine Eu _ rfl _ 69 rfl 226 underlying69 b rfl HO.o ?_;intro w2 H B hs);try go_frame
 have L:=J H;have O0:=J B;have I0:D (Ax w.heap.size w2 (.slice none 0 0) []):=gR _ _ _ _;have F:D (([]:List Nat).Pairwise (·≠ ·)/\∀n,n∈([]:List Nat)↔m n/\¬∃a,go (n / 64)=some a):=⟨List.Pairwise.nil,fun n=>⟨fun q=>jO q iH,fun q=>by obtain⟨x,C,_⟩:=(K.o.cU n).1 q.1;exact jO ⟨x,C⟩ q.2⟩⟩
 clear H B hs HO;obtain⟨r,P⟩:∃r,r=w.heap.size:=⟨_,rfl⟩;have L:D (FG MB KP b r go (fun k=>∃a,go k=some a) w2):=by rw[P];exact L.o
 rw[<-P];have b5:=J P;clear P;go_loopw[3] (fun v wr=>∃(E:Nat->Prop) (l:List Nat) (d:Option Addr) (f:Nat),v=.slice d l.length f/\D (Ax w.heap.size wr (.slice d l.length f) l)/\D (FG MB KP b r go E wr)/\D (l.Pairwise (·≠ ·)/\∀n,n∈l↔m n/\¬E (n / 64))/\D (O kD w wr)) (fun _ wr=>wr.rangeLeft b r)
 case atStart=>exact⟨_,[],none,0,rfl,I0,L,F,O0⟩
 case round=>
  clear L O0 I0 F;obtain⟨E,l,d,f,rfl,g,p,o,s⟩:=hrel;go_wp2_with(at_next;refine EK _ rfl _ rfl MC b r rfl p.o ?_ ?_);rotate_left
  .intro k x w3 hk c3 a6 c5 H V B hs b9;unfold QK at b9;have C:=K.o.ok k x a6;have d2:=C.2.2;have G:=p.o.neRow g.o;have a0:D (Ax w.heap.size w3 (.slice d l.length f) l):=Ac g.o B (fun j A q=>G.2 (by rw[A,q]));have a5:=J H;have a4:D (O kD w w3):=s.o.thn B (fun j A q=>by have:=b5.o;omega);have X:∀i,i<64->(m (k*64+i)↔x.testBit i=true):=fun i hi=>by rw[K.o.word,show(k*64+i) / 64=k by omega,show(k*64+i) % 64=i by omega];unfold wd;rw[a6];rfl
   have a2:D (QZ m (fun z=>E z/\z≠k) k x l):=⟨o.o.1,fun n=>by
    rw[o.o.2];by_cases N:n / 64=k
    .have:=X (n % 64) Z;rw[show k*64+n % 64=n by omega]at this;simp[N,c3,this]
    .simp[N]⟩
   have HM:=J X;obtain⟨F,S⟩:∃n,wr.rangeLeft b r=n:=⟨_,rfl⟩;rw[S]at V;have u:=J V;have b2:=J S;clear H B X g p o s G V S;go_wp2_with fail;go_loopw[3,5] (fun v z R=>∃(y:Nat) (l:List Nat) (d:Option Addr) (f:Nat),v=.slice d l.length f/\z=.int .u64 y/\y<18446744073709551616/\D (∀i,y.testBit i=true->x.testBit i=true)/\D (QZ m (fun z=>E z/\z≠k) k y l)/\D (Ax w.heap.size R (.slice d l.length f) l)/\D (FG MB KP b r go (fun z=>E z/\z≠k) R)/\D (R.rangeLeft b r<F)/\D (O kD w R)) (fun _ z _=>(intOf z).toNat)
   case atStart=>exact⟨x,l,d,f,rfl,rfl,c5,fun _ q=>q,a2,a0,a5,u,a4⟩
   case round=>
    clear a0 a5 a2 a4 u;obtain⟨y,l,d,f,rfl,rfl,I,HY,o,g,p,u,s⟩:=hrel;by_cases t:y=0
    .subst t;have hz:(((0:Nat):Int) !=0)=false:=rfl;go_wp2_with fail;go_roundw
     case rel=>exact⟨_,l,d,f,rfl,g,p,⟨o.o.nd,fun n=>by rw[o.o.cU];simp⟩,s⟩
     case measure=>rw[b2.o];exact u.o
    .have hz:((y:Int) !=0)=true:=by simpa using t
     have hc:=(LF t I).1;have a3:=J (o.o.step (fun q=>q.2 rfl) (fun i hi q=>(HM.o i hi).2 (HY.o i q)) t I);have c1:=a3.o.len (fun n N=>K.o.lt N);rw[gM,iC]at c1;have b6:=J (b7.o.d8 s.o id hg);have d1:=bits_and_u64_nat y (y-1) I Z;have d4:IntKind.u64.wrap ((y:Int)-1)=((y-1:Nat):Int):=by rw[IntKind.wrap_u64];omega
     have b8:D (∀i,(y &&& (y-1)).testBit i=true->x.testBit i=true):=fun i q=>by rw[(LF t I).2.2]at q;simp only[Bool.and_eq_true]at q;exact HY.o i q.1
     have d3:=Pa t;have d5:=s.o.size;go_wp2_with fail;refine(Xt y _ t I b6.o).mono ?_;rintro e w4 ⟨rfl,Y⟩;have Y:=Y.symm;subst Y;generalize Lib.ctz 64 y=c at*;have G:=p.o.neRow g.o;go_wp2_with(at_builtin;refine iQ _ rfl _ _ 50 rfl w.heap.size 3 i0 (.int .i64 0) 1 8 underlying50 c0 c6 c7 c8 rfl T _ _ _ rfl (g.o.alloc _) ⟨wr.heap.size,0,none⟩ 1 1 [.int .i64 ((k:Int)*64+c)] rfl rfl (AC jY _ _) (fun x C=>by simp at C;subst C;rfl) jZ Z jX ?_;intro v' Q a8 U c2);have b3:D (O kD w Q):=O.grown (s.o.alloc _) U (fun j A=>.inr (g.o.lt j A).1);have a7:O (fun j=>some j=Value.ownBlock (.slice d l.length f)) wr Q:=O.grown ((O.refl _ wr).alloc _) U (fun j A=>.inl A.symm);obtain⟨R5,L5⟩:=p.o.d8 a7 (fun q=>G.1 q.symm) (fun q=>G.2 q.symm);have b4:=J R5;have b1:D (Q.rangeLeft b r<F):=by show _<_;rw[L5];exact u.o
     have M:Ax w.heap.size Q v' (l++[k*64+c]):=by unfold Ax;rw[gM,iC,jP];exact a8
     obtain⟨c9,d6,d0,rfl⟩:=Ad M;have c4:=Ag M;subst c4;have b0:=J M;clear a8 U c2 a7 R5 L5 M p g u;go_wp2_with fail;go_roundw
     case rel=>exact⟨_,_,c9,d0,rfl,rfl,Z,b8,a3,b0,b4,b1,b3⟩
     case measure=>simp[intOf];omega
  .intro hd;have a1:=o.o;clear p o;go_wp2_with fail;go_ret;exact⟨_,l,rfl,g.o,a1.1,fun n=>by rw[a1.2];simp[hd],s.o⟩
def IK:Value->Option (DataW Unit×List MemPlace)
 |.map (some b)=>some (.lit (.int .i64 b),[])
 |_=>none
def IJ(b:Nat):DataW Unit:=.lit (.int .i64 b)
def GY(b:Nat):Value:=.map (some b)
theorem Ea:QV IK GY IJ (fun _=>True):=by
 refine⟨fun a _=>rfl,fun v z c=>?_,fun a b h=>?_⟩
 .unfold IK at c;split at c
  .next b=>cases c;exact⟨b,rfl,rfl,trivial⟩
  .cases c
 .unfold IJ at h;cases h;rfl
theorem Ci(w:World):(zeroValue 69).run prog w=.ok (.map none) w:=by go_simp
def UO:Value->Option (DataW Unit×List MemPlace)
 |.slice (some ⟨g,0,none⟩) l c=>some (.agg [.lit (.int .i64 g),.lit (.int .i64 l),.lit (.int .i64 c)],[])
 |_=>none
def UN(t:Nat×Nat×Nat):DataW Unit:=.agg [.lit (.int .i64 t.1),.lit (.int .i64 t.2.1),.lit (.int .i64 t.2.2)]
def Ic(t:Nat×Nat×Nat):Value:=.slice (some ⟨t.1,0,none⟩) t.2.1 t.2.2
theorem W7:QV UO Ic UN (fun _=>True):=by
 refine⟨fun a _=>rfl,fun v z d=>?_,fun a b h=>?_⟩
 .unfold UO at d;split at d
  .next g l c=>cases d;exact⟨(g,l,c),rfl,rfl,trivial⟩
  .cases d
 .obtain⟨e,f,i⟩:=a;obtain⟨j,k,m⟩:=b;unfold UN at h;simp only[DataW.agg.injEq,List.cons.injEq,DataW.lit.injEq,Lit.int.injEq,true_and,and_true]at h;obtain⟨q,r,s⟩:=h;have n:e=j:=Z;have o:f=k:=Z;have p:i=m:=Z;rw[n,o,p]
theorem QB(w:World):(zeroValue 224).run prog w=.ok (.slice none 0 0) w:=by go_simp
structure So where
 om:Nat->Nat
 bk:Nat->Nat->Option Nat
 fw:Nat->Option (Nat×Nat×Nat)
 rl:Nat->List Rl
def Ca(P:List PFn)(v:Sv)(t i x:Nat):Prop:=
 (t=0->v.s.I i x)/\(t=1->v.s.E i x)/\(t=2->v.N i x)/\(t=3->v.s.F i x)/\(t=4->Fg P i x)
def G7(o:So)(b:Value)(c d a:Nat):Array Value:=#[b,.int .i64 c,.int .i64 d,.int .i64 a,.map (some (o.om 0)),.map (some (o.om 1)),.map (some (o.om 2)),.map (some (o.om 3)),.map (some (o.om 5)),.map (some (o.om 4))]
def AK(P:List PFn)(a c:Nat):Prop:=(∃f i,f<P.length/\i<(As P f).t8.length/\c=vN f i)\/∃n k,1<=n/\n<=a/\k<4/\c=pN n k
def YD(r:Rl)(a:Value):List Value:=.int .i64 r.f::Ki r.s a
def IT(B:Nat)(w:World)(v:Value)(l:List Rl):Prop:=∃a:List (List Value),w.ownsRow B 192 9 v l.length a.flatten/\a.length=l.length/\∀i (h:i<a.length) (c:i<l.length),∃b,a[i]=YD l[i] b/\Ax 0 w b l[i].s.args
structure BE(P:List PFn)(sb:Nat)(fv:Value)(mn pn cn:Nat)(o:So)(v:Sv)(w:World):Prop where
 bY:W sb (G7 o fv mn pn cn) 120 w
 mp:∀t,t<=4->BK IK IJ (o.om t) (o.bk t) w
 st:∀t i k,o.bk t i=some k->Bl k (Ca P v t i) w
 dj:∀t i t' i' k,o.bk t i=some k->o.bk t' i'=some k->t=t'/\i=i'
 oj:∀t t',t<=5->t'<=5->o.om t=o.om t'->t=t'
 ne:∀t i k t',o.bk t i=some k->t'<=5->k≠o.om t'
 t4:∀t i k,o.bk t i=some k->t<=4
 d0:∀c,(t:Nat)->t=0\/t=3->((∃k,o.bk t c=some k)↔AK P pn c)
 d1:∀n,(∃k,o.bk 1 n=some k)↔1<=n/\n<=cn
 d4:∀f,(∃k,o.bk 4 f=some k)↔f<P.length
 d2:∀c k,o.bk 2 c=some k->∃x,v.N c x
 ins:∀t i x,t<=4->Ca P v t i x->∃k,o.bk t i=some k
 fm:BK UO UN (o.om 5) o.fw w
 fr:∀c t,o.fw c=some t->IT 0 w (Ic t) (o.rl c)
 fj:∀c c' t t',o.fw c=some t->o.fw c'=some t'->t.1=t'.1->c=c'
 f0:∀c,o.fw c=none->o.rl c=[]
 fvr:∀c r,v.W c r↔r∈o.rl c
theorem Ly{P:List PFn}{v:Sv}{c x:Nat}:Ca P v 2 c x↔v.N c x:=by simp[Ca]
def So.own(o:So)(a k:Nat):Prop:=k=a\/(∃t,t<=5/\k=o.om t)\/(∃t i,o.bk t i=some k)\/∃c t,o.fw c=some t/\k=t.1
theorem IT.d8{B w c v l}{X:Nat->Prop}(h:IT B w v l)(b:O X w c)(p:∀k,v.ownBlock=some k->¬X k)(o:∀k a f,X k->w.heap[k]? ≠some (.cells a 3 f)):IT B c v l:=by obtain⟨a,g,j,m⟩:=h;refine⟨a,Ac g b p,j,fun i q r=>?_⟩;obtain⟨d,e,n⟩:=m i q r;exact⟨d,e,Ai n b o⟩
theorem BE.d8{P e g l m f o v w n}{X:Nat->Prop}(h:BE P e g l m f o v w)(b:O X w n)(d:∀k,X k->¬o.own e k)(s:∀k p r,X k->w.heap[k]? ≠some (.cells p 3 r)):BE P e g l m f o v n:=
 {h with
  bY:=h.bY.d8 b (fun q=>d _ q (.inl rfl))
  mp:=fun t u=>(h.mp t u).d8 b (fun q=>d _ q (.inr (.inl ⟨t,Z,rfl⟩)))
  st:=fun t i k a=>(h.st t i k a).d8 b (fun q=>d _ q (.inr (.inr (.inl ⟨t,i,a⟩))))
  fm:=h.fm.d8 b (fun q=>d _ q (.inr (.inl ⟨5,Z,rfl⟩)))
  fr:=fun c t j=>(h.fr c t j).d8 b (fun k a q=>d _ q (.inr (.inr (.inr ⟨c,t,j,by unfold Ic at a;cases a;rfl⟩)))) s}
theorem BE.s9{P e b c d a o v w f}(h:BE P e b c d a o v w)(g:O kD w f):BE P e b c d a o v f:=h.d8 g (fun _ q=>q.elim) (fun _ _ _ q=>q.elim)
section
variable{P:List PFn}{a:Nat}{l:Value}{p s d:Nat}{o:So}{v:Sv}{w u:World}
theorem Bl.isMap{b m w}(h:Bl b m w):∃e c,w.heap[b]? =some (.map e c):=by obtain⟨g,f,_⟩:=h;exact f.isMap
theorem BE.kind(h:BE P a l p s d o v w){k}(e:o.own a k):(∃f c,w.heap[k]? =some (.map f c))\/(∃b,w.heap[k]? =some (.cells b 120 (0,0)))\/∃b,w.heap[k]? =some (.cells b 192 (0,0)):=by
 rcases e with rfl|⟨t,n,rfl⟩|⟨t,i,e⟩|⟨c,t,m,rfl⟩
 .exact .inr (.inl ⟨_,h.bY⟩)
 .by_cases j:t=5
  .subst j;exact .inl h.fm.isMap
  .exact .inl (h.mp t Z).isMap
 .exact .inl (h.st t i k e).isMap
 .obtain⟨b,g,_⟩:=h.fr c t m;exact .inr (.inr (Dw g _ rfl))
theorem BE.noCells(h:BE P a l p s d o v w){k b t c}(i:o.own a k)(f:t≠120)(g:t≠192):w.heap[k]? ≠some (.cells b t c):=by
 intro q;rcases h.kind i with⟨_,_,e⟩|⟨_,e⟩|⟨_,e⟩<;>rw[e]at q<;>cases q
 .exact f rfl
 .exact g rfl
theorem BE.ownLt(h:BE P a l p s d o v w){k}(b:o.own a k):k<w.heap.size:=by rcases h.kind b with⟨_,_,e⟩|⟨_,e⟩|⟨_,e⟩<;>exact lt_of_block e
theorem BE.dI(h:BE P a l p s d o v w){k f c}(e:w.heap[k]? =some (.map f c)):k≠a/\∀c t,o.fw c=some t->k≠t.1:=by
 refine⟨?_,fun c t i=>?_⟩
 .rintro rfl;have:=h.bY;unfold W at this;rw[e]at this;cases this
 .rintro rfl;obtain⟨j,g,_⟩:=h.fr c t i;obtain⟨m,b⟩:=Dw g _ rfl;rw[e]at b;cases b
theorem BE.put(h:BE P a l p s d o v w){t i k}{m:Nat->Prop}{v':Sv}(g:o.bk t i=some k)(R:Bl k m u)(A:O (fun j=>j=k) w u)(H:∀x,Ca P v' t i x↔m x)(C:∀b f x,¬(b=t/\f=i)->(Ca P v' b f x↔Ca P v b f x))(Q:v'.W=v.W)(N:t=2->∃x,m x:=by nofun):BE P a l p s d o v' u:=by
 obtain⟨X,c,L⟩:=(h.st t i k g).isMap;obtain⟨S,U⟩:=h.dI L;have t4:=h.t4 t i k g;refine{h with bY:=h.bY.d8 A (fun q=>S q.symm),mp:=fun b E=>(h.mp b E).d8 A (fun q=>h.ne t i k b g (by omega) q.symm),st:=fun b f B z=>?_,ins:=fun b f x E q=>?_,d2:=fun y B z=>?_,fm:=h.fm.d8 A (fun q=>h.ne t i k 5 g (by omega) q.symm),fr:=fun y b I=>(h.fr y b I).d8 A (fun j K q=>U y b I (by unfold Ic at K;cases K;exact q.symm)) (fun j V Y q r=>by rw[q,L]at r;cases r),fvr:=fun c r=>by rw[Q];exact h.fvr c r}
 .by_cases e:b=t/\f=i
  .obtain⟨rfl,rfl⟩:=e;rw[g]at z;cases z;exact R.iff fun n=>(H n).symm
  .have:B≠k:=fun q=>e (h.dj b f t i k (q▸z) g)
   exact((h.st b f B z).d8 A this).iff fun n=>(C b f n e).symm
 .by_cases e:2=t/\y=i
  .obtain⟨G,M⟩:=e;obtain⟨x,F⟩:=N G.symm;subst G;subst M;exact⟨x,Ly.1 ((H x).2 F)⟩
  .obtain⟨x,F⟩:=h.d2 y B z;exact⟨x,Ly.1 ((C 2 y x e).2 (Ly.2 F))⟩
 .by_cases e:b=t/\f=i
  .obtain⟨rfl,rfl⟩:=e;exact⟨k,g⟩
  .exact h.ins b f x E ((C b f x e).1 q)
def So.news(o:So)(c f:Nat):So:={o with bk:=fun t i=>if t=2 then(if i=c then some f else o.bk 2 i)else o.bk t i}
theorem BE.news(h:BE P a l p s d o v w){c f}{m:Nat->Prop}{v':Sv}(N:¬o.own a f)(a1:∃V c,w.heap[f]? =some (.map V c))(hm:Bl f m u)(X:BK IK IJ (o.om 2) (fun x=>if x=c then some f else o.bk 2 x) u)(F:O (fun j=>j=o.om 2) w u)(L:∀x,Ca P v' 2 c x↔m x)(H:∀b y x,¬(b=2/\y=c)->(Ca P v' b y x↔Ca P v b y x))(hW:v'.W=v.W)(Y:∃x,m x):BE P a l p s d (o.news c f) v' u:=by
 obtain⟨a0,c2,R⟩:=(h.mp 2 Z).isMap;obtain⟨n1,n2⟩:=h.dI R;have A:∀t i k,(o.news c f).bk t i=some k->(t=2/\i=c/\k=f)\/(¬(t=2/\i=c)/\o.bk t i=some k):=fun t i k g=>by
  unfold So.news at g;dsimp only at g;split at g
  .next e=>
   subst e;split at g
   .next e=>cases g;exact .inl ⟨rfl,e,rfl⟩
   .next e=>exact .inr ⟨fun q=>e q.2,g⟩
  .next e=>exact .inr ⟨fun q=>e q.1,g⟩
 have G:∀t i,t≠2->(o.news c f).bk t i=o.bk t i:=fun t i e=>by unfold So.news;dsimp only;rw[jG e]
 have S:∀t i k,o.bk t i=some k->k≠f:=fun t i k g q=>N (q▸.inr (.inr (.inl ⟨t,i,g⟩)))
 refine{h with bY:=h.bY.d8 F (fun q=>n1 q.symm),mp:=fun b C=>?_,st:=fun b y E B=>?_,dj:=fun t i b y k g B=>?_,ne:=fun t i k b g C=>?_,t4:=fun t i k g=>?_,d0:=fun z t ht=>?_,d1:=fun n=>?_,d4:=fun n=>?_,d2:=fun z E B=>?_,ins:=fun b y x C q=>?_,fm:=h.fm.d8 F (fun q=>jO (h.oj 5 2 Z Z q) Z),fr:=fun z b M=>(h.fr z b M).d8 F (fun j Q q=>n2 z b M (by unfold Ic at Q;cases Q;exact q.symm)) (fun j cs fz q r=>by rw[q,R]at r;cases r),fvr:=fun c r=>by rw[hW];exact h.fvr c r}
 .by_cases e:b=2
  .subst e;exact X.ext fun x=>by unfold So.news;dsimp only;rw[jH rfl]
  .have:(o.news c f).bk b=o.bk b:=funext fun i=>G b i e
   rw[this];exact(h.mp b C).d8 F (fun q=>e (h.oj b 2 Z Z q))
 .rcases A b y E B with⟨rfl,rfl,rfl⟩|⟨e,g⟩
  .exact hm.iff fun n=>(L n).symm
  .exact((h.st b y E g).d8 F (h.ne b y E 2 g Z)).iff fun n=>(H b y n e).symm
 .rcases A t i k g with⟨rfl,rfl,rfl⟩|⟨e,q⟩
  .rcases A b y _ B with⟨rfl,rfl,_⟩|⟨U,K⟩
   .exact⟨rfl,rfl⟩
   .exact jO rfl (S _ _ _ K)
  .rcases A b y k B with⟨rfl,rfl,rfl⟩|⟨U,K⟩
   .exact jO rfl (S _ _ _ q)
   .exact h.dj t i b y k q K
 .rcases A t i k g with⟨rfl,rfl,rfl⟩|⟨e,q⟩
  .exact fun q=>N (.inr (.inl ⟨b,C,q⟩))
  .exact h.ne t i k b q C
 .rcases A t i k g with⟨rfl,rfl,rfl⟩|⟨e,q⟩
  .omega
  .exact h.t4 t i k q
 .rw[<-h.d0 z t ht,G t z Z]
 .rw[<-h.d1 n,G 1 n Z]
 .rw[<-h.d4 n,G 4 n Z]
 .rcases A 2 z E B with⟨_,rfl,_⟩|⟨e,q⟩
  .obtain⟨x,I⟩:=Y;exact⟨x,Ly.1 ((L x).2 I)⟩
  .obtain⟨x,I⟩:=h.d2 z E q;exact⟨x,Ly.1 ((H 2 z x e).2 (Ly.2 I))⟩
 .by_cases e:b=2/\y=c
  .obtain⟨rfl,rfl⟩:=e;exact⟨f,by unfold So.news;simp⟩
  .obtain⟨k,g⟩:=h.ins b y x C ((H b y x e).1 q);refine⟨k,?_⟩;unfold So.news;dsimp only;split
   .next e2=>rw[jG (fun q=>e ⟨e2,q⟩),<-e2];exact g
   .exact g
end
structure D7(P:List PFn)(sb:Nat)(fv:Value)(mn pn cn:Nat)(o o':So)(v:Sv)(w w':World):Prop where
 r:BE P sb fv mn pn cn o' v w'
 ow:∀k,o'.own sb k->o.own sb k\/w.heap.size<=k
 rl:(o'.rl,o'.fw)=(o.rl,o.fw)
 on:O (o.own sb) w w'
theorem Fa(P:List PFn)(v:Sv)(c:Nat)(a:Nat->Prop)(t i x:Nat):Ca P (v.give c a) t i x↔Ca P v t i x\/(t=0/\i=c/\a x)\/(t=2/\i=c/\a x/\¬v.s.I c x):=by
 by_cases b:t=0
 .subst b;simp[Ca,Sv.give]
 by_cases d:t=2
 .subst d;simp only[Ca,Sv.give,Nat.reduceEqDiff,false_implies,true_and,and_true,forall_const,false_and,false_or];constructor
  .rintro(q|⟨rfl,q⟩)
   .exact .inl q
   .exact .inr ⟨rfl,q⟩
  .rintro(q|⟨rfl,q⟩)
   .exact .inl q
   .exact .inr ⟨rfl,q⟩
 .simp[Ca,Sv.give,b,d]
theorem Jj(P d m u z l o v w)(c C Q:Nat)(b:Nat->Prop)(h:BE P d m u z l o v w)(p:o.bk 0 c=some C)(ht:Bl Q b w)(hc:c<20000)(b0:Q≠C):
 Calls prog 120 #[.pointer (some ⟨d,0,none⟩),.int .i64 c,.map (some Q)] w fun e w'=>e=.returned (.tuple #[])/\∃o',D7 P d m u z l o o' (v.give c b) w w':=by
 have a4:=(h.st 0 c C p).iff (m':=v.s.I c) fun n=>by simp[Ca]
 obtain⟨p4,p6⟩:=h.bY.e2 4 6;have b5:=Ae h.bY;simp only[G7,gH,gF,gG]at p4 p6;have l0:=((h.mp 0 Z).look Ea underlying67 (Ci w) hc false).2 C p;have H:=J h;have HS:=J a4;have HT:=J ht;clear h a4 ht;unfold GY at l0;go_enter func120,ntmps120;go_wp2_with fail;refine(G5 C Q (v.s.I c) b w HS.o HT.o (Ne.symm b0)).mono ?_;rintro e g ⟨f,rfl,hf,sf,s0,o1⟩;obtain⟨K,N⟩:∃K:Sv,K=⟨⟨fun x t=>v.s.I x t\/(x=c/\b t),v.s.F,v.s.E⟩,v.N,v.W⟩:=⟨_,rfl⟩;have M:∀t i x,Ca P K t i x↔Ca P v t i x\/(t=0/\i=c/\b x):=fun t i x=>by
  rw[N];by_cases h0:t=0
  .subst h0;simp[Ca]
  .simp[Ca,h0]
 have G:BE P d m u z l o K g:=H.o.put (v':=K) p s0 o1 (fun x=>by rw[M];simp[Ca]) (fun t' i' x q=>by rw[M];exact⟨fun r=>r.elim id fun r=>jO ⟨r.1,r.2.1⟩ q,.inl⟩) (by rw[N]);have a1:¬o.own d f:=fun q=>by have:=H.o.ownLt q;omega
 have lf:=sf.lt;obtain⟨gf,mf,wf⟩:=sf;obtain⟨n,hn,b3,a0⟩:=mf.len underlying69 3;rw[wf.empty]at a0;have p6:=G.bY.cell 6;have b6:=Ae G.bY;simp only[G7,gH,gF,gG]at p6;have I:=(G.mp 2 Z).look Ea underlying67 (Ci g) hc false;have B:=J G;have R:=J a0;have V:D (Bl f (fun n=>b n/\¬v.s.I c n) g):=⟨gf,mf,wf⟩;have S:D (O (o.own d) w g):=o1.mono fun j _ q=>by rw[q];exact .inr (.inr (.inl ⟨0,c,p⟩))
 have F:=J M;have Y:=J N;clear G a0 mf wf o1 s0 M N;by_cases hz:n=0
 .subst hz;have s:BE P d m u z l o (v.give c b) g:=B.o.put (v':=v.give c b) p ((B.o.st 0 c C p).d8 (X:=kD) (O.refl _ _) id) (O.refl _ _) (fun x=>by
   rw[Fa,F.o];simp[Ca]) (fun t' i' x q=>by
   rw[Fa,F.o];have:=R.o.1 rfl x;constructor
   .rintro(r|r|⟨_,_,r⟩)
    .exact .inl r
    .exact .inr r
    .exact jO r this
   .rintro(r|r)
    .exact .inl r
    .exact .inr (.inl r)) (by rw[Y.o];rfl)
  have HR:=J s;clear s I;go_wp2_with fail;exact gP (v:=.tuple #[]) (by simp[results,results120,go_sem]) rfl ⟨rfl,o,HR.o,fun _ q=>.inl q,rfl,S.o⟩
 .have b4:((n:Int)==0)=false:=jX;have a2:D (∃x,b x/\¬v.s.I c x):=by apply Classical.byContradiction;intro q;exact hz (R.o.2 fun x hx=>q ⟨x,hx⟩)
  clear R hz;cases A:o.bk 2 c with
  |none=>
   have l3:=I.1 A;have a7:(binOp BinOp.eql 69 (.map none) (.map none)).run prog g=.ok (.bool true) g:=kB;clear I;obtain⟨L,b1,m2,y⟩:=(B.o.mp 2 Z).put Ea underlying67 (k:=c) (a:=f) hc trivial;unfold GY at b1;have a8:f≠o.om 2:=fun q=>a1 (.inr (.inl ⟨2,Z,q⟩))
   have s:BE P d m u z l (o.news c f) (v.give c b) L:=B.o.news (v':=v.give c b) a1 V.o.isMap (V.o.d8 y a8) m2 y (fun x=>by
    rw[Fa];simp only[Nat.reduceEqDiff,false_and,false_or,true_and];refine⟨fun q=>q.elim (fun q=>?_) id,.inr⟩;obtain⟨k,a3⟩:=H.o.ins 2 c x Z q;rw[A]at a3;cases a3) (fun t' i' x q=>by
    rw[Fa,F.o];constructor
    .rintro(r|r|⟨r1,r2,_⟩)
     .exact .inl r
     .exact .inr r
     .exact jO ⟨r1,r2⟩ q
    .rintro(r|r)
     .exact .inl r
     .exact .inr (.inl r)) (by rw[Y.o];rfl) a2.o
   have U:D (D7 P d m u z l o (o.news c f) (v.give c b) w L):=by
    refine⟨s,fun k p=>?_,rfl,S.o.thn y (fun j _ q=>by rw[q];exact .inr (.inl ⟨2,Z,rfl⟩))⟩;rcases p with q|q|⟨t,i,q⟩|q
    .exact .inl (.inl q)
    .exact .inl (.inr (.inl q))
    .unfold So.news at q;dsimp only at q;split at q
     .split at q
      .cases q;exact .inr hf
      .exact .inl (.inr (.inr (.inl ⟨2,i,q⟩)))
     .exact .inl (.inr (.inr (.inl ⟨t,i,q⟩)))
    .exact .inl (.inr (.inr (.inr q)))
   clear s m2 y;go_wp2_with fail;exact gP (v:=.tuple #[]) (by simp[results,results120,go_sem]) rfl ⟨rfl,_,U.o⟩
  |some E=>
   have l3:=I.2 E A;unfold GY at l3;clear I;have a5:Bl E (v.N c) g:=(B.o.st 2 c E A).iff fun x=>by rw[F.o];simp[Ca]
   have a9:E≠f:=fun q=>a1 (.inr (.inr (.inl ⟨2,c,q▸A⟩)))
   have U:=J a5;have a7:(binOp BinOp.eql 69 (.map (some E)) (.map none)).run prog g=.ok (.bool false) g:=kB;clear a5;go_wp2_with fail;refine(G5 E f (v.N c) _ g U.o V.o a9).mono ?_;rintro e L ⟨f2,rfl,b2,_,s2,y⟩;have s:BE P d m u z l o (v.give c b) L:=B.o.put (v':=v.give c b) A s2 y (fun x=>by
    rw[Fa];simp[Ca]) (fun t' i' x q=>by
    rw[Fa,F.o];constructor
    .rintro(r|r|⟨r1,r2,_⟩)
     .exact .inl r
     .exact .inr r
     .exact jO ⟨r1,r2⟩ q
    .rintro(r|r)
     .exact .inl r
     .exact .inr (.inl r)) (by rw[Y.o];rfl) (fun _=>by
    obtain⟨x,hx⟩:=a2.o;exact⟨x,.inr hx⟩)
   have a6:D (D7 P d m u z l o o (v.give c b) w L):=⟨s,fun _ q=>.inl q,rfl,S.o.thn y (fun j _ q=>by rw[q];exact .inr (.inr (.inl ⟨2,c,A⟩)))⟩;clear s s2 y;go_wp2_with fail;go_end0;exact⟨rfl,_,a6.o⟩
theorem BE.iff{P l f g j d o v b w}(h:BE P l f g j d o v w)(e:∀t i x,Ca P b t i x↔Ca P v t i x)(m:b.W=v.W):BE P l f g j d o b w:=
 {h with
  st:=fun t i k a=>(h.st t i k a).iff fun n=>(e t i n).symm
  ins:=fun t i x p q=>h.ins t i x p ((e t i x).1 q)
  d2:=fun c k a=>by obtain⟨x,s⟩:=h.d2 c k a;exact⟨x,Ly.1 ((e 2 c x).2 (Ly.2 s))⟩
  fvr:=fun c r=>by rw[m];exact h.fvr c r}
theorem T4(P b g j l d o v w)(c a:Nat)(h:BE P b g j l d o v w)(m:o.bk 0 c=some a)(C:c<20000):
 Calls prog 120 #[.pointer (some ⟨b,0,none⟩),.int .i64 c,.map (some a)] w fun e M=>e=.returned (.tuple #[])/\∃G,D7 P b g j l d o G (v.give c (v.s.I c)) w M:=by
 have s:=(h.st 0 c a m).iff (m':=v.s.I c) fun n=>by simp[Ca]
 have I:=h.bY.cell 4;have V:=Ae h.bY;simp only[G7,gH,gF,gG]at I;have F:=((h.mp 0 Z).look Ea underlying67 (Ci w) C false).2 a m;have H:=J h;have B:=J s;clear h s;unfold GY at F;go_enter func120,ntmps120;go_wp2_with fail;refine(Ou a (v.s.I c) w B.o).mono ?_;rintro e N ⟨f,rfl,R,L,K,k⟩;obtain⟨Q,u,y⟩:=L;obtain⟨n,U,S,p⟩:=u.len underlying69 3;have E:n=0:=p.2 (y.empty.2 fun _ q=>q);subst E;have A:D (BE P b g j l d o (v.give c (v.s.I c)) N):=(H.o.s9 k).iff (fun t i x=>by
  rw[Fa];refine⟨?_,.inl⟩;rintro(q|⟨rfl,rfl,q⟩|⟨_,_,q,r⟩)
  .exact q
  .simpa[Ca]using q
  .exact jO q r) rfl
 have z:=J k;clear u y p K k;go_wp2_with fail;exact gP (v:=.tuple #[]) (by simp[results,results120,go_sem]) rfl ⟨rfl,o,A.o,fun _ q=>.inl q,rfl,z.o.mono fun _ _ q=>q.elim⟩
theorem AK.lt{P a c}(h:AK P a c)(j:P.length<=12)(b:∀f,(As P f).t8.length<=12)(o:a<=4001):c<16400:=by
 rcases h with⟨f,i,l,m,rfl⟩|⟨n,k,d,e,g,rfl⟩
 .have:=b f;unfold vN;omega
 .unfold pN;omega
theorem D7.trans{P e b c d a o g i p l w m n}(h:D7 P e b c d a o g p w m)(k:D7 P e b c d a g i l m n):D7 P e b c d a o i l w n:=
 ⟨k.r,fun j f=>(k.ow j f).elim (h.ow j) fun q=>.inr (gW h.on.size q),k.rl.trans h.rl,h.on.thn k.on fun j f q=>(h.ow j q).elim id fun r=>jO r Z⟩
def Nx(P:List PFn)(g:Nat)(c:Value)(d f b:Nat)(o:So)(v:Sv)(w h:World)(Q:Sv->Prop):Prop:=
 ∃e a,D7 P g c d f b o e a w h/\v.up a/\(∀X,BH P X v->BH P X a)/\Q a
theorem Nx.then{P g c d f b o v w i m}{Q R:Sv->Prop}(h:Nx P g c d f b o v w i Q)(k:∀e a,D7 P g c d f b o e a w i->v.up a->Q a->Nx P g c d f b e a i m R):Nx P g c d f b o v w m R:=by obtain⟨e,a,j,l,n,s⟩:=h;obtain⟨r,y,u,x,p,t⟩:=k e a j l s;exact⟨r,y,j.trans u,l.tr x,fun X q=>p X (n X q),t⟩
theorem Jd(P:List PFn)(v:Sv)(a b t i x:Nat):Ca P (v.edge a b) t i x↔Ca P v t i x\/(t=3/\i=a/\x=b):=by
 by_cases c:t=3
 .subst c;simp[Ca,Sv.edge]
 .simp[Ca,Sv.edge,c]
theorem GO(P c m s d l o v w)(a b:Nat)(h:BE P c m s d l o v w)(L:AK P d a)(hb:AK P d b)(la:a<16400)(lb:b<16400)(hF:(least P).F a b):
 Calls prog 124 #[.pointer (some ⟨c,0,none⟩),.int .i64 a,.int .i64 b] w fun e G=>e=.returned (.tuple #[])/\Nx P c m s d l o v w G (fun u=>u.s.F a b):=by
 obtain⟨E,A⟩:=(h.d0 a 3 (.inr rfl)).2 L;obtain⟨p,z⟩:=(h.d0 a 0 (.inl rfl)).2 L;obtain⟨U,N⟩:=(h.d0 b 0 (.inl rfl)).2 hb;have p7:=h.bY.cell 7;have a1:=Ae h.bY;simp only[G7,gH,gF,gG]at p7;have l3:=((h.mp 3 Z).look Ea underlying67 (Ci w) (k:=a) Z false).2 E A;have S:=(h.st 3 a E A).iff (m':=v.s.F a) fun n=>by simp[Ca]
 unfold GY at l3;have H:=J h;have I:=J S;have HF:=J hF;clear h S hF;go_enter func124,ntmps124;go_wp2_with fail;refine(Gf E (v.s.F a) b w I.o Z).mono ?_;rintro e f ⟨r,rfl,Q,V,F⟩;have R:BE P c m s d l o (v.edge a b) f:=H.o.put (v':=v.edge a b) A V F (fun x=>by rw[Jd];simp[Ca]) (fun t' i' x q=>by rw[Jd];exact⟨fun r=>r.elim id fun r=>jO ⟨r.1,r.2.1⟩ q,.inl⟩) rfl
 have B:D (O (o.own c) w f):=F.mono fun j _ q=>by rw[q];exact .inr (.inr (.inl ⟨3,a,A⟩))
 have g:=J R;have HR:=J Q;clear Q R V F I;cases r with
 |false=>
  have M:v.s.F a b:=by apply Classical.byContradiction;intro q;have:=HR.o.2 q;cases this
  have C:D (Nx P c m s d l o v w f (fun u=>u.s.F a b)):=⟨o,v,⟨g.o.iff (fun t i x=>by
   rw[Jd];refine⟨.inl,?_⟩;rintro(q|⟨rfl,rfl,rfl⟩)
   .exact q
   .simpa[Ca]using M) rfl,fun _ q=>.inl q,rfl,B.o⟩,.rf _,fun _ q=>q,M⟩
  go_wp2_with fail;go_end0;exact⟨rfl,C.o⟩
 |true=>
  have p4:=g.o.bY.cell 4;have a2:=Ae g.o.bY;simp only[G7,gH,gF,gG]at p4;have l4:=((g.o.mp 0 Z).look Ea underlying67 (Ci f) (k:=a) Z false).2 p z;unfold GY at l4;have Y:Bl p (v.s.I a) f:=(g.o.st 0 a p z).iff fun x=>by rw[Jd];simp[Ca]
  have SA:=J Y;clear Y;have K:Calls prog 120 #[.pointer (some ⟨c,0,none⟩),.int .i64 b,.map (some p)] f fun e G=>e=.returned (.tuple #[])/\∃o',D7 P c m s d l o o' (v.flow a b) f G:=by
   by_cases e:p=U
   .have a0:a=b:=(g.o.dj 0 a 0 b p z (e▸N)).2;subst a0;exact T4 P c m s d l o (v.edge a a) f a p g.o z Z
   .exact Jj P c m s d l o (v.edge a b) f b U p (v.s.I a) g.o N SA.o Z e
  have GV:=J K;clear K;go_wp2_with fail;refine GV.o.mono ?_;rintro e w2 ⟨rfl,o2,y⟩;have C:D (Nx P c m s d l o v w w2 (fun u=>u.s.F a b)):=⟨o2,v.flow a b,⟨y.r,fun k hk=>(y.ow k hk).imp id fun q=>gW B.o.size q,y.rl,B.o.trans y.on⟩,Sv.flow_up v a b,fun X q=>q.flow HF.o,Sv.flow_F v a b⟩;clear y;go_wp2_with fail;go_end0;exact⟨rfl,C.o⟩
structure AnOk(P:List PFn)(pn cn:Nat):Prop where
 ok:NR P
 cR:P.length<=12
 lp:pn<=4001
 lc:cn<=4001
 dF:∀i,i<P.length->∀s,s∈(As P i).r9->(s.kind=1->1<=s.cA/\s.cA<=pn)/\(s.kind=8->1<=s.cA/\s.cA<=cn)/\s.field<=3
structure D6(P:List PFn)(sb:Nat)(fv:Value)(mn pn cn:Nat)(o:So)(v:Sv)(w:World):Prop where
 r:BE P sb fv mn pn cn o v w
 pl:Bv 0 w fv P
 tb:JQ w
 tl:0<w.heap.size
 tn:¬o.own sb 0
theorem BE.noPlan{P a c e f b o v w}(h:BE P a c e f b o v w):NO (o.own a) w:=fun k g t i d q=>by refine⟨?_,?_,?_,?_⟩<;>rintro rfl<;>exact h.noCells d T T q
theorem D6.next{P e b c d a o f v g w i}(h:D6 P e b c d a o v w)(k:D7 P e b c d a o f g w i):D6 P e b c d a f g i:=
 ⟨k.r,h.pl.d8 k.on h.r.noPlan,h.tb.d8 k.on h.tn h.tl,gY h.tl k.on.size,fun q=>(k.ow _ q).elim h.tn fun q=>by have:=h.tl;omega⟩
theorem D6.s9{P e b c d a o v w f}(h:D6 P e b c d a o v w)(k:O kD w f):D6 P e b c d a o v f:=
 ⟨h.r.s9 k,h.pl.s9 k,h.tb.d8 k id h.tl,gY h.tl k.size,h.tn⟩
theorem D7.s9{P f b c e a o d g w i w2}(h:D7 P f b c e a o d g w i)(k:O kD i w2):D7 P f b c e a o d g w w2:=
 ⟨h.r.s9 k,h.ow,h.rl,h.on.dA k⟩
theorem BE.ints{P b e i m d o v w c B a l}(h:BE P b e i m d o v w)(k:Ax B w a l)(g:O (o.own b) w c):Ax B c a l:=
 Ai k g fun j n p f=>h.noCells f T T
abbrev KC(r:Rl)(a:Value):Array Value:=#[.int .i64 r.f,.int .i64 r.s.kind,.int .i64 r.s.cO,.int .i64 r.s.cC,.int .i64 r.s.field,.int .i64 r.s.cA,a,.int .i64 r.s.next,.int .i64 r.s.taken]
structure XQ(P:List PFn)(r:Rl):Prop where
 f:r.f<P.length
 tg:r.s.cO<(As P r.f).t8.length
 ar:∀a,a∈r.s.args->a<(As P r.f).t8.length
 n:r.s.args.length<=4000
theorem Bj{P c f i}(a:f<P.length)(b:i<(As P f).t8.length):AK P c (vN f i):=.inl ⟨f,i,a,b,rfl⟩
theorem Gw{P:List PFn}{b a f i}(A:AnOk P b a)(c:f<P.length)(d:i<(As P f).t8.length):vN f i<16400:=by have:=A.cR;have:=A.ok.t8 f;unfold vN;omega
theorem Fj(f i:Nat)(w:World)(b:f<=4001)(c:i<=4001):
 Calls prog 119 #[.int .i64 f,.int .i64 i] w fun e a=>e=.returned (.int .i64 (vN f i))/\a=w:=by
 have e:((vN f i:Nat):Int)=(f:Int)*12+(i:Int):=by unfold vN;omega
 go_enter func119,ntmps119;go_wp2;go_ret;exact⟨by rw[e];rfl,rfl⟩
theorem DB(r:Rl)(c:Value)(w:World)(d:r.f<=4001)(f:r.s.cO<=4001):
 Calls prog 121 #[.agg (KC r c)] w fun e b=>e=.returned (.int .i64 r.tg)/\O kD w b:=by
 go_enter func121,ntmps121;go_wp2_with(first|(go_at_call 119;refine(Fj r.f r.s.cO _ d f).mono ?_;rintro e b ⟨rfl,a⟩;have a:=a.symm;subst a));go_ret;exact⟨rfl,jV⟩
theorem EI(r:Rl)(c:Value)(w:World)(d:r.f<=4001)(f:r.s.cC<=4001):
 Calls prog 122 #[.agg (KC r c)] w fun e b=>e=.returned (.int .i64 r.sr)/\O kD w b:=by
 go_enter func122,ntmps122;go_wp2_with(first|(go_at_call 119;refine(Fj r.f r.s.cC _ d f).mono ?_;rintro e b ⟨rfl,a⟩;have a:=a.symm;subst a));go_ret;exact⟨rfl,jV⟩
theorem Pe(P f y B b t o v w)(A:AnOk P b t)(h:D6 P f y B b t o v w)(r:Rl)(g:Nat)(av:Value)(hi:Ax 0 w av r.s.args)(hr:XQ P r)(L:g<P.length)(hn:r.s.args.length<=(As P g).t8.length)(hL:Dj P r g (least P)):
 Calls prog 125 #[.pointer (some ⟨f,0,none⟩),.agg (KC r av),.int .i64 g] w fun e w'=>e=.returned (.tuple #[])/\Nx P f y B b t o v w w' (fun v'=>Dj P r g v'.s):=by
 obtain⟨U,al,V,rfl⟩:=Ad hi;have e0:=Ag hi;subst e0;have c:O kD w (w.alloc (.cells (KC r (.slice U r.s.args.length V)) 192)):=(O.refl _ w).alloc _;have c2:=W.new w (KC r (.slice U r.s.args.length V)) 192;have hE:=h.s9 c;have hI:=Ac hi c (fun _ _ q=>q);have c5:¬o.own f w.heap.size:=fun q=>by have:=h.r.ownLt q;omega
 have f0:(w.alloc (.cells (KC r (.slice U r.s.args.length V)) 192)).heap.size=w.heap.size+1:=jY;have e7:=A.cR;have hf:=hr.f;have f3:=hr.n;have F:=J A;have HL:=J hL;have HR:=J hr;clear h hi A hL hr;go_enter func125,ntmps125;go_wp2_with fail;generalize w.alloc (.cells (KC r (.slice U r.s.args.length V)) 192)=a4 at*;have S0:D (D7 P f y B b t o o v a4 a4):=⟨hE.r,fun _ q=>.inl q,rfl,O.refl _ _⟩;have HE:=J hE;have HI:=J hI;have HB:=J c2;have O1:=J c;clear hE hI c2 c;generalize w.heap.size=rb at*;go_loopw[14] (fun i wr=>∃(k:Nat) (c:So) (m:Sv),k<=r.s.args.length/\i=.int .i64 k/\D (D7 P f y B b t o c m a4 wr)/\D (v.up m/\(∀X,BH P X v->BH P X m)/\∀j a,j<k->r.s.args[j]? =some a->m.s.F (vN r.f a) (vN g j))) (fun i _=>r.s.args.length-(intOf i).toNat)
 case atStart=>exact⟨0,o,v,Z,rfl,S0,⟨.rf _,fun _ q=>q,fun j a q=>Z⟩⟩
 case round=>
  clear S0;obtain⟨k,c,m,hk,rfl,C,G⟩:=hrel;have z:=HE.o.next C.o;have e3:¬c.own f rb:=fun q=>(C.o.ow _ q).elim c5 fun q=>Z
  have R:=HB.o.d8 C.o.on c5;have b0:=R.cell 0;simp only[gH,gF]at b0;have f4:=Ae R;by_cases H:k<r.s.args.length
  .have Y:=HE.o.r.ints HI.o C.o.on;obtain⟨gl,rfl⟩:=Ap Y Z;have S:=Y.cellAt k Z;rw[iL,gL H]at S;simp only[Option.map_some]at S;have e4:=(Y.lt gl rfl).2;have c1:=HR.o.ar r.s.args[k] (gQ _);have h1:AK P b (vN r.f r.s.args[k]):=Bj hf c1;have h2:AK P b (vN g k):=Bj L Z;have h3:=Gw F.o hf c1;have h4:vN g k<16400:=Gw F.o L Z;have Q:=HL.o.1 k _ (gL H);have d9:=F.o.ok.t8 r.f;have a6:(k:Int)<(r.s.args.length:Int):=Z;have HG:=J (gL H);have d1:=J h1;have d2:=J h2;have a2:=J Q;have N:=J z;clear Y h1 h2 Q z R;generalize r.s.args[k]=x at*;go_wp2_with(first|(go_at_call 119;first|(refine(Fj r.f x _ Z Z).mono ?_;rintro e w' ⟨rfl,I⟩;have I:=I.symm;subst I)|(refine(Fj g k _ Z Z).mono ?_;rintro e w' ⟨rfl,I⟩;have I:=I.symm;subst I)));refine(GO P f y B b t c m wr _ _ N.o.r d1.o d2.o h3 h4 a2.o).mono ?_;rintro e w2 ⟨rfl,d,n,s2,u2,i2,q2⟩;have E:=J (C.o.trans s2);have p:D (v.up n/\(∀X,BH P X v->BH P X n)/\∀j a,j<k+1->r.s.args[j]? =some a->n.s.F (vN r.f a) (vN g j)):=⟨G.o.1.tr u2,fun X q=>i2 X (G.o.2.1 X q),fun j a M u=>by
    by_cases e:j=k
    .subst e;rw[HG.o]at u;cases u;exact q2
    .exact u2.le.s.f _ _ (G.o.2.2 j a Z u)⟩
   clear s2 u2 i2 q2 G C;go_wp2_with fail;go_roundw
   case rel=>exact⟨k+1,d,n,Z,by go_num,E,p⟩
   case measure=>simp[intOf];omega
  .have e:k=r.s.args.length:=Z;subst e;have a6:decide ((r.s.args.length:Int)<(r.s.args.length:Int))=false:=jY;have p9:=z.r.bY.cell 9;have f6:=Ae z.r.bY;simp only[G7,gH,gF,gG]at p9;obtain⟨kr,c3⟩:=(z.r.d4 g).2 L;have l9:=((z.r.mp 4 Z).look Ea underlying67 (Ci wr) (k:=g) Z false).2 kr c3;unfold GY at l9;have c6:Bl kr (Fg P g) wr:=(z.r.st 4 g kr c3).iff fun x=>by simp[Ca]
   have a9:=J c6;have N:=J z;have c9:=J R;clear c6 z R;go_wp2_with fail;refine(DS kr (Fg P g) wr a9.o N.o.tb N.o.tl).mono ?_;rintro e w2 ⟨nv,l,rfl,a1,c4,a7,d⟩;obtain⟨na,nl,nc,rfl⟩:=Ad a1;have e2:=Ag a1;subst e2;have a3:=J (N.o.s9 d);have d0:=J (c9.o.d8 d id);have d5:=J (Aq a1 (gV _));have e9:l.length<=19200:=DJ 19200 l c4 fun x K=>by obtain⟨_,_,e6⟩:=a9.o;exact e6.lt ((a7 x).1 K)
   have HM:=J a7;have d6:=J d;have f2:=C.o.on.size;have f1:=d.size;have SW:D (D7 P f y B b t c c m w2 w2):=⟨a3.o.r,fun _ q=>.inl q,rfl,O.refl _ _⟩;have c7:=HR.o.tg;have d9:=F.o.ok.t8 r.f;have d3:D (AK P b r.tg):=Bj hf c7;have e5:r.tg<16400:=Gw F.o hf c7;clear a1 c4 a7 d;go_wp2_with fail;go_loopw[37] (fun i wr=>∃(k:Nat) (d:So) (n:Sv),k<=l.length/\i=.int .i64 k/\D (D7 P f y B b t c d n w2 wr)/\D (m.up n/\(∀X,BH P X m->BH P X n)/\∀j x,j<k->l[j]? =some x->n.s.F x r.tg)) (fun i _=>l.length-(intOf i).toNat)
   case atStart=>exact⟨0,c,m,Z,rfl,SW,⟨.rf _,fun _ q=>q,fun j a q=>Z⟩⟩
   case round=>
    clear SW;obtain⟨k,d,n,hk,rfl,E,p⟩:=hrel;have c0:=a3.o.next E.o;have a5:=d0.o.d8 E.o.on e3;by_cases H:k<l.length
    .have a0:=a3.o.r.ints d5.o E.o.on;obtain⟨gl,rfl⟩:=Ap a0 Z;have S:=a0.cellAt k Z;rw[iL,gL H]at S;simp only[Option.map_some]at S;have e4:=(a0.lt gl rfl).2;have e1:k+1<=l.length:=H;have K:=(HM.o l[k]).1 (gQ _);have Q:=HL.o.2 _ K;have c8:AK P b l[k]/\l[k]<16400:=by obtain⟨s,hs,e8,e⟩:=K;have:=(F.o.ok.ok g L s hs).sr Z;rw[e];exact⟨Bj L this,Gw F.o L this⟩
     have a6:(k:Int)<(l.length:Int):=Z;have HG:=J (gL H);have b9:=J c8;have a2:=J Q;have d4:=J c0;obtain⟨b0,b1,b2,b3,b4,b5,b6,b7,b8⟩:=a5.e9 0 1 2 3 4 5 6 7 8;have f5:=Ae a5;simp only[gH,gF,gG]at b0 b1 b2 b3 b4 b5 b6 b7 b8;clear a0 Q c0 K c8 a5;generalize l[k]=x at*;go_wp2_with fail;refine(DB r _ wr Z Z).mono ?_;rintro e w3 ⟨rfl,o3⟩;have a8:=J o3;clear o3;go_wp2_with fail;refine(GO P f y B b t d n w3 x r.tg (d4.o.s9 a8.o).r b9.o.1 d3.o b9.o.2 e5 a2.o).mono ?_;rintro e w4 ⟨rfl,o4,v4,s4,u4,i4,q4⟩;have d8:=J ((E.o.s9 a8.o).trans s4);have d7:D (m.up v4/\(∀X,BH P X m->BH P X v4)/\∀j x,j<k+1->l[j]? =some x->v4.s.F x r.tg):=⟨p.o.1.tr u4,fun X q=>i4 X (p.o.2.1 X q),fun j a M u=>by
      by_cases e:j=k
      .subst e;rw[HG.o]at u;cases u;exact q4
      .exact u4.le.s.f _ _ (p.o.2.2 j a Z u)⟩
     clear s4 u4 i4 q4 p E;go_wp2_with fail;go_roundw
     case rel=>exact⟨k+1,o4,v4,e1,by go_num,d8,d7⟩
     case measure=>simp[intOf];omega
    .have e:k=l.length:=Z;subst e;have a6:decide ((l.length:Int)<(l.length:Int))=false:=jY;have HX:D (Nx P f y B b t o v w wr (fun v'=>Dj P r g v'.s)):=by have t1:=(C.o.s9 d6.o).trans E.o;refine⟨d,n,⟨t1.r,fun j M=>(t1.ow j M).imp id fun q=>gW O1.o.size q,t1.rl,(O1.o.mono (fun _ _ q=>q.elim)).trans t1.on⟩,G.o.1.tr p.o.1,fun X q=>p.o.2.1 X (G.o.2.1 X q),fun j a u=>p.o.1.le.s.f _ _ (G.o.2.2 j a (List.getElem?_eq_some_iff.1 u).1 u),fun x K=>?_⟩;obtain⟨j,M,e⟩:=iF.1 ((HM.o x).2 K);exact p.o.2.2 j x M (by rw[gL M,e])
     go_wp2_with fail;go_end0;exact⟨rfl,HX.o⟩
theorem Jv(n k:Nat)(w:World)(c:1<=n)(d:n<=4001)(b:k<=4):
 Calls prog 85 #[.int .i64 n,.int .i64 k] w fun e a=>e=.returned (.int .i64 (pN n k))/\a=w:=by
 have e:((pN n k:Nat):Int)=156+((n:Int)-1)*4+(k:Int):=by unfold pN;omega
 go_enter func85,ntmps85;go_wp2;go_ret;exact⟨by rw[e];rfl,rfl⟩
theorem VY(f:Nat)(w:World)(b:f<=4001):
 Calls prog 123 #[.int .i64 f] w fun e a=>e=.returned (.int .i64 (fN f))/\a=w:=by
 have e:((fN f:Nat):Int)=144+(f:Int):=by unfold fN;omega
 go_enter func123,ntmps123;go_wp2;go_ret;exact⟨by rw[e];rfl,rfl⟩
def Ds(x:Nat):Nat×Nat×Nat:=if x<144 then(0,x / 12,x % 12)else if x<156 then(2,x-144,0)else(1,(x-156) / 4+1,(x-156) % 4)
theorem JE(x:Nat)(w:World)(i:x<19200):
 Calls prog 136 #[.int .i64 x] w fun e h=>e=.returned (.agg #[.int .i64 (Ds x).1,.int .i64 (Ds x).2.1,.int .i64 (Ds x).2.2])/\O kD w h:=by
 by_cases c:x<144
 .have e:Ds x=(0,x / 12,x % 12):=by unfold Ds;rw[jH c]
  rw[e];have d:decide ((x:Int)<144)=true:=jX;have a:(((x / 12:Nat):Nat):Int)=(x:Int) / 12:=Z;have b:(((x % 12:Nat):Nat):Int)=(x:Int) % 12:=Z;go_enter func136,ntmps136;go_wp2;refine gP (v:=.agg #[.int .i64 0,.int .i64 ((x:Int) / 12),.int .i64 ((x:Int) % 12)]) (by simp[results,results136,go_sem]) rfl ?_;exact⟨by rw[a,b];rfl,jV⟩
 by_cases f:x<156
 .have e:Ds x=(2,x-144,0):=by unfold Ds;rw[jG c,jH f]
  rw[e];have d:decide ((x:Int)<144)=false:=jX;have g:decide ((x:Int)<156)=true:=jX;have a:(((x-144:Nat):Nat):Int)=(x:Int)-144:=Z;go_enter func136,ntmps136;go_wp2;refine gP (v:=.agg #[.int .i64 2,.int .i64 ((x:Int)-144),.int .i64 0]) (by simp[results,results136,go_sem]) rfl ?_;exact⟨by rw[a];rfl,jV⟩
 .have e:Ds x=(1,(x-156) / 4+1,(x-156) % 4):=by unfold Ds;rw[jG c,jG f]
  rw[e];have d:decide ((x:Int)<144)=false:=jX;have g:decide ((x:Int)<156)=false:=jX;have a:((((x-156) / 4+1:Nat):Nat):Int)=((x:Int)-156) / 4+1:=Z;have b:((((x-156) % 4:Nat):Nat):Int)=((x:Int)-156) % 4:=Z;go_enter func136,ntmps136;go_wp2;refine gP (v:=.agg #[.int .i64 1,.int .i64 (((x:Int)-156) / 4+1),.int .i64 (((x:Int)-156) % 4)]) (by simp[results,results136,go_sem]) rfl ?_;exact⟨by rw[a,b];rfl,jV⟩
theorem SL(P:List PFn)(v:Sv)(n g t i x:Nat):Ca P (v.dT n g) t i x↔Ca P v t i x\/(t=1/\i=n/\x=g):=by
 by_cases a:t=1
 .subst a;simp[Ca,Sv.dT]
 .simp[Ca,Sv.dT,a]
theorem RZ(P c fv p i b o v w)(A:AnOk P i b)(h:D6 P c fv p i b o v w)(r:Rl)(g:Nat)(av:Value)(L:Ax 0 w av r.s.args)(N:XQ P r)(hg:g<P.length)(h1:1<=r.s.cA)(h2:r.s.cA<=b)
 (hL:(As P g).u9=r.s.args.length->(least P).E r.s.cA g/\Dj P r g (least P)):
 Calls prog 147 #[.pointer (some ⟨c,0,none⟩),.agg (KC r av),.int .i64 g] w fun e w'=>e=.returned (.tuple #[])/\Nx P c fv p i b o v w w' (fun d=>(As P g).u9=r.s.args.length->d.s.E r.s.cA g/\Dj P r g d.s):=by
 obtain⟨V,al,Y,rfl⟩:=Ad L;have c7:=Ag L;subst c7;have z:O kD w (w.alloc (.cells (KC r (.slice V r.s.args.length Y)) 192)):=(O.refl _ w).alloc _;have K:=W.new w (KC r (.slice V r.s.args.length Y)) 192;have u:=h.s9 z;have hI:=Ac L z (fun _ _ q=>q);have c8:¬o.own c w.heap.size:=fun q=>by have:=h.r.ownLt q;omega
 have d2:=A.cR;have hf:=N.f;have d6:=N.n;have d8:=A.lc;have d4:=A.ok.dX g;have d5:=A.ok.t8 g;obtain⟨gf,cf,rfl,d1⟩:=h.pl.form Z;obtain⟨vv,sv,b9,_,_⟩:=(u.pl).get hg;have c2:=b9 2 Z;have a1:As P g=P[g]:=by unfold As;rw[gL hg];rfl
 simp only[Oo,gF,gG]at c2;rw[<-a1]at c2;obtain⟨p0,C⟩:=u.r.bY.e2 0 5;have a3:=Ae u.r.bY;simp only[G7,gH,gF,gG]at p0 C;have HA:=J A;have HL:=J hL;have HR:=J N;have HP:=J a1;clear h L A hL N b9 a1;go_enter func147,ntmps147;go_wp2_with fail;generalize w.alloc (.cells (KC r (.slice V r.s.args.length Y)) 192)=t at*;have H:=K.cell 6;have a2:=Ae K;simp only[gH,gF,gG]at H;have d3:(g:Int)<(P.length:Int):=Z;have d0:=gY d1 z.size;have R:=J u;have HI:=J hI;have HB:=J K;have S:=J z;clear u hI K z;by_cases M:(As P g).u9=r.s.args.length
 .have hz:(((As P g).u9:Int) !=(r.s.args.length:Int))=false:=by simp[M]
  go_region;go_wp2_with fail;have B:O kD t t.drew:=(O.refl _ t).drew;have m:=R.o.s9 B;have I:=HB.o.d8 B id;have a8:=Ac HI.o B (fun _ _ q=>q);have O2:=J (S.o.trans B);clear p0 C c2 H a3 a2 d0 B R HB HI S;generalize t.drew=l at*;have C:=m.r.bY.cell 5;have a3:=Ae m.r.bY;have b5:=I.cell 5;have a2:=Ae I;simp only[G7,gH,gF,gG]at C b5;obtain⟨f,y⟩:=(m.r.d1 r.s.cA).2 ⟨h1,h2⟩;have l5:∀a,O kD l a->(Instr.lookup 67 (.map (some (o.om 1))) (.int .i64 r.s.cA) false).run prog a=.ok (.map (some f)) a:=fun a h3=>(((m.r.mp 1 Z).d8 h3 id).look Ea underlying67 (Ci a) (k:=r.s.cA) Z false).2 f y
  have l6:=l5 _ ((O.refl _ l).drew);have E:=J m;have a4:=J I;have a5:=J a8;have c1:∀a,O kD l a->Bl f (v.s.E r.s.cA) a:=fun a h3=>((m.r.st 1 r.s.cA f y).d8 h3 id).iff fun x=>by simp[Ca]
  have a6:=J c1;clear m I a8 c1 l5;go_cut[] (fun wx=>D (Bl f (fun n=>v.s.E r.s.cA n\/n=g) wx)/\D (O (fun k=>k=f) l wx))
  case first=>
   go_region_law(go_simp;go_at_call 91;refine(Gf f _ g _ (a6.o _ ((O.refl _ l).drew)) Z).mono ?_;rintro e w5 ⟨rr,rfl,_,s5,o5⟩;dsimp only);all_goals
    go_wp2_with fail;go_meet
    case rel=>exact⟨s5,(O.drew (O.refl _ l)).trans o5⟩
  case rest=>
  obtain⟨S5,F⟩:=hcut;have c0:BE P c _ p i b o (v.dT r.s.cA g) wc:=E.o.r.put (v':=v.dT r.s.cA g) y S5.o F.o (fun x=>by rw[SL];simp[Ca]) (fun t' i' x q=>by rw[SL];exact⟨fun r=>r.elim id fun r=>jO ⟨r.1,r.2.1⟩ q,.inl⟩) rfl
  have G:D7 P c _ p i b o o (v.dT r.s.cA g) l wc:=⟨c0,fun _ q=>.inl q,rfl,F.o.mono fun j _ q=>by rw[q];exact .inr (.inr (.inl ⟨1,_,y⟩))⟩;have a7:=E.o.next G;have c9:¬(w.heap.size=f):=fun q=>c8 (q▸.inr (.inr (.inl ⟨1,_,y⟩)))
  have a0:=a4.o.d8 F.o c9;have a9:=E.o.r.ints a5.o G.on;obtain⟨b0,b1,b2,b3,b4,c6,H,b7,b8⟩:=a0.e9 0 1 2 3 4 5 6 7 8;have d7:=Ae a0;simp only[gH,gF,gG]at b0 b1 b2 b3 b4 c6 H b7 b8;have c3:=J a7;have c4:=J a9;have c5:=J G;clear c0 G a7 a0 a9 S5 F E a4 a5 a6 C b5 l6 a3 a2;go_wp2_with fail;refine(Pe P c _ p i b o _ wc HA.o c3.o r g _ c4.o HR.o hg Z (HL.o M).2).mono ?_;rintro e w6 ⟨rfl,o6,v6,s6,u6,i6,q6⟩;have s:D (Nx P c (.slice (some ⟨gf,0,none⟩) P.length cf) p i b o v w w6 (fun d=>(As P g).u9=r.s.args.length->d.s.E r.s.cA g/\Dj P r g d.s)):=by have Q:=c5.o.trans s6;exact⟨o6,v6,⟨Q.r,fun j hj=>(Q.ow j hj).imp id fun q=>gW O2.o.size q,Q.rl,(O2.o.mono (fun _ _ q=>q.elim)).trans Q.on⟩,(Sv.ent_up v _ _).tr u6,fun X q=>i6 X (q.dT (HL.o M).1),fun _=>⟨u6.le.s.e _ _ (.inr ⟨rfl,rfl⟩),q6⟩⟩
  clear s6 u6 i6 q6;go_wp2_with fail;go_end0;exact⟨rfl,s.o⟩
 .have hz:(((As P g).u9:Int) !=(r.s.args.length:Int))=true:=jX;have s:∀U,O kD t U->Nx P c (.slice (some ⟨gf,0,none⟩) P.length cf) p i b o v w U (fun d=>(As P g).u9=r.s.args.length->d.s.E r.s.cA g/\Dj P r g d.s):=fun U hW=>⟨o,v,⟨(R.o.s9 hW).r,fun _ q=>.inl q,rfl,(S.o.trans hW).mono fun _ _ q=>q.elim⟩,.rf _,fun _ q=>q,fun q=>jO q M⟩
  have s:=J s;go_region;go_wp2_with fail;exact gP (v:=.tuple #[]) (by simp[results,results147,go_sem]) rfl ⟨rfl,s.o _ jV⟩
