/- One of the texts of the proof: AnE AnG AnH AnI AnJ AnK AnL. -/
import Derived.Test.YtegmjgjkcdbmkaaGreatDoorG25
import Derived.Test.YtegmjgjkcdbmkaaGreatDoorG19
import Derived.OwnWalk
import Derived.Shelf.Spec.TrailingZeros
set_option maxRecDepth 100000
set_option maxHeartbeats 2000000
namespace Go.Proofs.YtegmjgjkcdbmkaaGreatDoor
open Go.RowKit Go.Maps
def JL(w:World):Prop:=TabAt 0 Lib.deBruijn64tab w
theorem TU(x k a:Nat)(w:World)(h:((x:Int)==0)=false)
 (b:IntKind.u64.wrap (bits BinOp.and IntKind.u64 (x:Int) (IntKind.u64.wrap (-(x:Int)))*285870213051353865) / 288230376151711744=(a:Int))
 (f:a<64)(g:k<64)(d:w.cell? ⟨0,a,none⟩=some (.int .u8 k)):
 Calls Tryz.prog 134 #[.int .u64 x] w fun e c=>e=.returned (.int .i64 k)∧c=w:=by
 go_enter Tryz.func134,Tryz.ntmps134;go_wp2_with (simp only [b]);go_ret;exact ⟨rfl,rfl⟩
theorem Wj(x:Nat)(w:World)(f:x≠0)(d:x<18446744073709551616)(g:JL w):
 Calls Tryz.prog 134 #[.int .u64 x] w fun e j=>e=.returned (.int .i64 (Lib.ctz 64 x))∧j=w:=by
 obtain ⟨h,c⟩:=Lib.lowest_bit 64 x f d;obtain ⟨b,i⟩:=Lib.deBruijn64_at _ c;have a:=g _ b;rw [i] at a;exact TU x _ _ w (by simp;omega) (tz64_key x _ d f h) b c a
theorem JL.O{X:Nat→Prop}{w a}(h:JL w)(d:Ab X w a)(e:¬X 0)(c:0<w.heap.size):JL a:=fun j b=>by rw [World.cell?_of_block (d.block _ c e)];exact h j b
theorem B8{w:World}{B e d v n f}(h:w.ownsRow B e d v n f):∀k,v.ownBlock=some k→∃a,w.heap[k]? =some (.cells a e (0,0)):=by
 intro k b;rcases h.2 with ⟨rfl,_⟩ | ⟨g,i,a,rfl,_,c,_⟩
 ·cases b
 ·cases b;exact ⟨a,c⟩
theorem EI.neRow{t:Type}{R:Value→Option (DataW Unit×List MemPlace)}{l:t→DataW Unit}{b r g m w B e o v n p}(h:EI R l b r g m w)(k:w.ownsRow B e o v n p):v.ownBlock≠some b∧v.ownBlock≠some r:=by
 refine ⟨fun q=>?_,fun q=>?_⟩
 ·obtain ⟨j,i⟩:=B8 k _ q;obtain ⟨u,c,f⟩:=h.map.isMap;rw [i] at f;cases f
 ·obtain ⟨j,i⟩:=B8 k _ q;obtain ⟨a,s,c,d,f⟩:=h.iter;rw [i] at f;cases f
structure Pj(m rest:Nat→Prop)(k y:Nat)(l:List Nat):Prop where
 nd:l.Pairwise (·≠ ·)
 aY:∀n,n∈l↔m n∧¬rest (n / 64)∧¬(n / 64=k∧y.testBit (n % 64)=true)
theorem Pj.step{m f:Nat→Prop}{k y l}(h:Pj m f k y l)(w:¬f k)(x:∀i,i<64→y.testBit i=true→m (k*64+i))(s:y≠0)(t:y<18446744073709551616):Pj m f k (y &&& (y-1)) (l++[k*64+Lib.ctz 64 y]):=by
 obtain ⟨p,g,r⟩:=Kt s t;generalize Lib.ctz 64 y=c at*;have j:(k*64+c) / 64=k:=by omega
 have o:(k*64+c) % 64=c:=by omega
 refine ⟨List.pairwise_append.2 ⟨h.nd,List.pairwise_singleton _ _,fun a u b v=>?_⟩,fun n=>?_⟩
 ·rw [List.mem_singleton.1 v];rintro rfl;exact ((h.aY _).1 u).2.2 ⟨j,by rw [o];exact g⟩
 ·rw [List.mem_append,List.mem_singleton,h.aY,r];by_cases d:n / 64=k
  ·by_cases e:n % 64=c
   ·have:n=k*64+c:=by omega
    subst this;simp [e,d,w,x c p g]
   ·have:n≠k*64+c:=fun q=>e (by rw [q];exact o)
    simp [d,e,this]
  ·have:n≠k*64+c:=fun q=>d (by rw [q];exact j)
   simp [d,this]
theorem Pj.len{m c:Nat→Prop}{k y l}(h:Pj m c k y l)(a:∀n,m n→n<19200):l.length≤19200:=C8 19200 l h.nd fun x b=>a x ((h.aY x).1 b).1
theorem Df(b:Nat)(m:Nat→Prop)(w:World)(h:A9 b m w)(hT:JL w)(hg:0<w.heap.size):
 Calls Tryz.prog 100 #[.map (some b)] w fun e w'=>∃v l,e=.returned v∧AD w.heap.size w' v l∧l.Pairwise (·≠ ·)∧(∀x,x∈l↔m x)∧Ab (fun _=>False) w w':=by
 obtain ⟨i0,b6,c2,c3,c4⟩:=info_parts Tryz.infoInt;obtain ⟨go,U,a5⟩:=h;have lo:=U.lt;have Z:=Aa U;have I:=Aa a5;have b3:=Aa hT;clear U a5 hT;go_enter Tryz.func100,Tryz.ntmps100;go_wp2_with (at_range;refine DJ _ rfl _ 93 rfl 244 Tryz.underlying93 b rfl Z.o ?_;intro w2 G B hs);try go_frame
 have J:=Aa G;have O0:=Aa B;have I0:dN (AD w.heap.size w2 (.slice none 0 0) []):=World.ownsRow_nil _ _ _ _;have E:dN (([]:List Nat).Pairwise (·≠ ·)∧∀n,n∈([]:List Nat)↔m n∧¬∃a,go (n / 64)=some a):=⟨List.Pairwise.nil,fun n=>⟨fun q=>absurd q List.not_mem_nil,fun q=>by obtain ⟨x,C,_⟩:=(I.o.aY n).1 q.1;exact absurd ⟨x,C⟩ q.2⟩⟩
 clear G B hs Z;obtain ⟨r,M⟩:∃r,r=w.heap.size:=⟨_,rfl⟩;have J:dN (EI Lg JW b r go (fun k=>∃a,go k=some a) w2):=by rw [M];exact J.o
 rw [←M];have b1:=Aa M;clear M;go_loopw [3] (fun v wr=>∃(D:Nat→Prop) (l:List Nat) (d:Option Addr) (f:Nat),v=.slice d l.length f∧dN (AD w.heap.size wr (.slice d l.length f) l)∧dN (EI Lg JW b r go D wr)∧dN (l.Pairwise (·≠ ·)∧∀n,n∈l↔m n∧¬D (n / 64))∧dN (Ab (fun _=>False) w wr)) (fun _ wr=>wr.rangeLeft b r)
 case atStart=>exact ⟨_,[],none,0,rfl,I0,J,E,O0⟩
 case round=>
  clear J O0 I0 E;obtain ⟨D,l,d,f,rfl,g,p,o,s⟩:=hrel;go_wp2_with (at_next;refine D9 _ rfl _ rfl Lh b r rfl p.o ?_ ?_);rotate_left
  ·intro k x w3 hk b9 a2 c1 G R B hs b5;unfold OS at b5;have C:=I.o.ok k x a2;have c8:=C.2.2;have F:=p.o.neRow g.o;have V:dN (AD w.heap.size w3 (.slice d l.length f) l):=Ac g.o B (fun j A q=>F.2 (by rw [A,q]));have a1:=Aa G;have a0:dN (Ab (fun _=>False) w w3):=s.o.thn B (fun j A q=>by have:=b1.o;omega);have S:∀i,i<64→(m (k*64+i)↔x.testBit i=true):=fun i hi=>by rw [I.o.word,show (k*64+i) / 64=k by omega,show (k*64+i) % 64=i by omega];unfold wd;rw [a2];rfl
   have X:dN (Pj m (fun z=>D z∧z≠k) k x l):=⟨o.o.1,fun n=>by
    rw [o.o.2];by_cases L:n / 64=k
    ·have:=S (n % 64) (by omega);rw [show k*64+n % 64=n by omega] at this;simp [L,b9,this]
    ·simp [L]⟩
   have HM:=Aa S;obtain ⟨E,P⟩:∃n,wr.rangeLeft b r=n:=⟨_,rfl⟩;rw [P] at R;have u:=Aa R;have a8:=Aa P;clear G B S g p o s F R P;go_wp2_with fail;go_loopw [3,5] (fun v z O=>∃(y:Nat) (l:List Nat) (d:Option Addr) (f:Nat),v=.slice d l.length f∧z=.int .u64 y∧y<18446744073709551616∧dN (∀i,y.testBit i=true→x.testBit i=true)∧dN (Pj m (fun z=>D z∧z≠k) k y l)∧dN (AD w.heap.size O (.slice d l.length f) l)∧dN (EI Lg JW b r go (fun z=>D z∧z≠k) O)∧dN (O.rangeLeft b r<E)∧dN (Ab (fun _=>False) w O)) (fun _ z _=>(intOf z).toNat)
   case atStart=>exact ⟨x,l,d,f,rfl,rfl,c1,fun _ q=>q,X,V,a1,u,a0⟩
   case round=>
    clear V a1 X a0 u;obtain ⟨y,l,d,f,rfl,rfl,H,HY,o,g,p,u,s⟩:=hrel;by_cases t:y=0
    ·subst t;have hz:(((0:Nat):Int) !=0)=false:=rfl;go_wp2_with fail;go_roundw
     case rel=>exact ⟨_,l,d,f,rfl,g,p,⟨o.o.nd,fun n=>by rw [o.o.aY];simp⟩,s⟩
     case measure=>rw [a8.o];exact u.o
    ·have hz:((y:Int) !=0)=true:=by simpa using t
     have hc:=(Kt t H).1;have Y:=Aa (o.o.step (fun q=>q.2 rfl) (fun i hi q=>(HM.o i hi).2 (HY.o i q)) t H);have b7:=Y.o.len (fun n L=>I.o.lt L);rw [List.length_append,List.length_singleton] at b7;have b2:=Aa (b3.o.O s.o (fun q=>q) hg);have c7:=bits_and_u64_nat y (y-1) H (by omega);have d0:IntKind.u64.wrap ((y:Int)-1)=((y-1:Nat):Int):=by rw [IntKind.wrap_u64];omega
     have b4:dN (∀i,(y &&& (y-1)).testBit i=true→x.testBit i=true):=fun i q=>by rw [(Kt t H).2.2] at q;simp only [Bool.and_eq_true] at q;exact HY.o i q.1
     have c9:=Ni t;have d1:=s.o.size;go_wp2_with fail;refine (Wj y _ t H b2.o).mono ?_;rintro e w4 ⟨rfl,T⟩;have T:=T.symm;subst T;generalize Lib.ctz 64 y=c at*;have F:=p.o.neRow g.o;go_wp2_with (at_builtin;refine wpList_append_own _ rfl _ _ 37 rfl w.heap.size 3 i0 (.int .i64 0) 1 8 Tryz.underlying37 b6 c2 c3 c4 rfl (by decide) _ _ _ rfl (g.o.alloc _) ⟨wr.heap.size,0,none⟩ 1 1 [.int .i64 ((k:Int)*64+c)] rfl rfl (A5 (by simp) _ _) (fun x C=>by simp at C;subst C;rfl) (by unfold maxLen;omega) (by omega) (by simp;omega) ?_;intro v' N a4 Q b8);have a9:dN (Ab (fun _=>False) w N):=Ab.grown (s.o.alloc _) Q (fun j A=>.inr (g.o.lt j A).1);have a3:Ab (fun j=>some j=Value.ownBlock (.slice d l.length f)) wr N:=Ab.grown ((Ab.refl _ wr).alloc _) Q (fun j A=>.inl A.symm);obtain ⟨R5,L5⟩:=p.o.O a3 (fun q=>F.1 q.symm) (fun q=>F.2 q.symm);have b0:=Aa R5;have a7:dN (N.rangeLeft b r<E):=by show _<_;rw [L5];exact u.o
     have K:AD w.heap.size N v' (l++[k*64+c]):=by unfold AD;rw [List.length_append,List.length_singleton,List.map_append];exact a4
     obtain ⟨c5,d2,c6,rfl⟩:=Ad K;have c0:=Aq K;subst c0;have a6:=Aa K;clear a4 Q b8 a3 R5 L5 K p g u;go_wp2_with fail;go_roundw
     case rel=>exact ⟨_,_,c5,c6,rfl,rfl,by omega,b4,Y,a6,b0,a7,a9⟩
     case measure=>simp [intOf];omega
  ·intro hd;have W:=o.o;clear p o;go_wp2_with fail;go_ret;exact ⟨_,l,rfl,g.o,W.1,fun n=>by rw [W.2];simp [hd],s.o⟩
def Hb:Value→Option (DataW Unit×List MemPlace)
 | .map (some b)=>some (.lit (.int .i64 b),[])
 | _=>none
def Ha(b:Nat):DataW Unit:=.lit (.int .i64 b)
def GG(b:Nat):Value:=.map (some b)
theorem Dw:Pg Hb GG Ha (fun _=>True):=by
 refine ⟨fun a _=>rfl,fun v z c=>?_,fun a b h=>?_⟩
 ·unfold Hb at c;split at c
  ·next b=>cases c;exact ⟨b,rfl,rfl,trivial⟩
  ·cases c
 ·unfold Ha at h;cases h;rfl
theorem Ca(w:World):(zeroValue 93).run Tryz.prog w=.ok (.map none) w:=by go_simp
def TB:Value→Option (DataW Unit×List MemPlace)
 | .slice (some ⟨g,0,none⟩) l c=>some (.agg [.lit (.int .i64 g),.lit (.int .i64 l),.lit (.int .i64 c)],[])
 | _=>none
def TA(t:Nat×Nat×Nat):DataW Unit:=.agg [.lit (.int .i64 t.1),.lit (.int .i64 t.2.1),.lit (.int .i64 t.2.2)]
def DX(t:Nat×Nat×Nat):Value:=.slice (some ⟨t.1,0,none⟩) t.2.1 t.2.2
theorem IB:Pg TB DX TA (fun _=>True):=by
 refine ⟨fun a _=>rfl,fun v z d=>?_,fun a b h=>?_⟩
 ·unfold TB at d;split at d
  ·next g l c=>cases d;exact ⟨(g,l,c),rfl,rfl,trivial⟩
  ·cases d
 ·obtain ⟨e,f,i⟩:=a;obtain ⟨j,k,m⟩:=b;unfold TA at h;simp only [DataW.agg.injEq,List.cons.injEq,DataW.lit.injEq,Lit.int.injEq,true_and,and_true] at h;obtain ⟨q,r,s⟩:=h;have n:e=j:=by omega
  have o:f=k:=by omega
  have p:i=m:=by omega
  rw [n,o,p]
theorem Ge(w:World):(zeroValue 242).run Tryz.prog w=.ok (.slice none 0 0) w:=by go_simp
structure So where
 om:Nat→Nat
 bk:Nat→Nat→Option Nat
 fw:Nat→Option (Nat×Nat×Nat)
 rl:Nat→List Rl
def BF(P:List PFn)(v:Sv)(t i x:Nat):Prop:=
 (t=0→v.s.I i x)∧(t=1→v.s.E i x)∧(t=2→v.N i x)∧(t=3→v.s.F i x)∧(t=4→Ey P i x)
def Gf(o:So)(b:Value)(c d a:Nat):Array Value:=#[b,.int .i64 c,.int .i64 d,.int .i64 a,.map (some (o.om 0)),.map (some (o.om 1)),.map (some (o.om 2)),.map (some (o.om 3)),.map (some (o.om 5)),.map (some (o.om 4))]
def A8(P:List PFn)(a c:Nat):Prop:=(∃f i,f<P.length∧i<(Ap P f).l8.length∧c=vN f i)∨∃n k,1≤n∧n≤a∧k<4∧c=pN n k
def Nd(r:Rl)(a:Value):List Value:=.int .i64 r.f::Hk r.s a
def Hn(B:Nat)(w:World)(v:Value)(l:List Rl):Prop:=∃a:List (List Value),w.ownsRow B 208 9 v l.length a.flatten∧a.length=l.length∧∀i (h:i<a.length) (c:i<l.length),∃b,a[i]=Nd l[i] b∧AD 0 w b l[i].s.args
structure Bp(P:List PFn)(sb:Nat)(fv:Value)(mn pn cn:Nat)(o:So)(v:Sv)(w:World):Prop where
 s9:Ak sb (Gf o fv mn pn cn) 144 w
 mp:∀t,t≤4→Bv Hb Ha (o.om t) (o.bk t) w
 st:∀t i k,o.bk t i=some k→A9 k (BF P v t i) w
 dj:∀t i t' i' k,o.bk t i=some k→o.bk t' i'=some k→t=t'∧i=i'
 oj:∀t t',t≤5→t'≤5→o.om t=o.om t'→t=t'
 ne:∀t i k t',o.bk t i=some k→t'≤5→k≠o.om t'
 t4:∀t i k,o.bk t i=some k→t≤4
 d0:∀c,(t:Nat)→t=0∨t=3→((∃k,o.bk t c=some k)↔A8 P pn c)
 d1:∀n,(∃k,o.bk 1 n=some k)↔1≤n∧n≤cn
 d4:∀f,(∃k,o.bk 4 f=some k)↔f<P.length
 d2:∀c k,o.bk 2 c=some k→∃x,v.N c x
 ins:∀t i x,t≤4→BF P v t i x→∃k,o.bk t i=some k
 fm:Bv TB TA (o.om 5) o.fw w
 fr:∀c t,o.fw c=some t→Hn 0 w (DX t) (o.rl c)
 fj:∀c c' t t',o.fw c=some t→o.fw c'=some t'→t.1=t'.1→c=c'
 f0:∀c,o.fw c=none→o.rl c=[]
 fvr:∀c r,v.W c r↔r∈o.rl c
theorem Kq{P:List PFn}{v:Sv}{c x:Nat}:BF P v 2 c x↔v.N c x:=by simp [BF]
def So.own(o:So)(a k:Nat):Prop:=k=a∨(∃t,t≤5∧k=o.om t)∨(∃t i,o.bk t i=some k)∨∃c t,o.fw c=some t∧k=t.1
theorem Hn.O{B w c v l}{X:Nat→Prop}(h:Hn B w v l)(b:Ab X w c)(p:∀k,v.ownBlock=some k→¬X k)(o:∀k a f,X k→w.heap[k]? ≠some (.cells a 3 f)):Hn B c v l:=by obtain ⟨a,g,j,m⟩:=h;refine ⟨a,Ac g b p,j,fun i q r=>?_⟩;obtain ⟨d,e,n⟩:=m i q r;exact ⟨d,e,Av n b o⟩
theorem Bp.O{P e g l m f o v w n}{X:Nat→Prop}(h:Bp P e g l m f o v w)(b:Ab X w n)(d:∀k,X k→¬o.own e k)(s:∀k p r,X k→w.heap[k]? ≠some (.cells p 3 r)):Bp P e g l m f o v n:=
 {h with
  s9:=h.s9.O b (fun q=>d _ q (.inl rfl))
  mp:=fun t u=>(h.mp t u).O b (fun q=>d _ q (.inr (.inl ⟨t,by omega,rfl⟩)))
  st:=fun t i k a=>(h.st t i k a).O b (fun q=>d _ q (.inr (.inr (.inl ⟨t,i,a⟩))))
  fm:=h.fm.O b (fun q=>d _ q (.inr (.inl ⟨5,by omega,rfl⟩)))
  fr:=fun c t j=>(h.fr c t j).O b (fun k a q=>d _ q (.inr (.inr (.inr ⟨c,t,j,by unfold DX at a;cases a;rfl⟩)))) s}
theorem Bp.i9{P e b c d a o v w f}(h:Bp P e b c d a o v w)(g:Ab (fun _=>False) w f):Bp P e b c d a o v f:=h.O g (fun _ q=>q.elim) (fun _ _ _ q=>q.elim)
section
variable {P : List PFn} {a : Nat} {l : Value} {p s d : Nat} {o : So} {v : Sv} {w u : World}
theorem A9.isMap{b m w}(h:A9 b m w):∃e c,w.heap[b]? =some (.map e c):=by obtain ⟨g,f,_⟩:=h;exact f.isMap
theorem Bp.kind(h:Bp P a l p s d o v w){k}(e:o.own a k):(∃f c,w.heap[k]? =some (.map f c))∨(∃b,w.heap[k]? =some (.cells b 144 (0,0)))∨∃b,w.heap[k]? =some (.cells b 208 (0,0)):=by
 rcases e with rfl | ⟨t,n,rfl⟩ | ⟨t,i,e⟩ | ⟨c,t,m,rfl⟩
 ·exact .inr (.inl ⟨_,h.s9⟩)
 ·by_cases j:t=5
  ·subst j;exact .inl h.fm.isMap
  ·exact .inl (h.mp t (by omega)).isMap
 ·exact .inl (h.st t i k e).isMap
 ·obtain ⟨b,g,_⟩:=h.fr c t m;exact .inr (.inr (B8 g _ rfl))
theorem Bp.noCells(h:Bp P a l p s d o v w){k b t c}(i:o.own a k)(f:t≠144)(g:t≠208):w.heap[k]? ≠some (.cells b t c):=by
 intro q;rcases h.kind i with ⟨_,_,e⟩ | ⟨_,e⟩ | ⟨_,e⟩<;>rw [e] at q<;>cases q
 ·exact f rfl
 ·exact g rfl
theorem Bp.ownLt(h:Bp P a l p s d o v w){k}(b:o.own a k):k<w.heap.size:=by rcases h.kind b with ⟨_,_,e⟩ | ⟨_,e⟩ | ⟨_,e⟩<;>exact lt_of_block e
theorem Bp.bR(h:Bp P a l p s d o v w){k f c}(e:w.heap[k]? =some (.map f c)):k≠a∧∀c t,o.fw c=some t→k≠t.1:=by
 refine ⟨?_,fun c t i=>?_⟩
 ·rintro rfl;have:=h.s9;unfold Ak at this;rw [e] at this;cases this
 ·rintro rfl;obtain ⟨j,g,_⟩:=h.fr c t i;obtain ⟨m,b⟩:=B8 g _ rfl;rw [e] at b;cases b
theorem Bp.put(h:Bp P a l p s d o v w){t i k}{m:Nat→Prop}{v':Sv}(g:o.bk t i=some k)(N:A9 k m u)(A:Ab (fun j=>j=k) w u)(G:∀x,BF P v' t i x↔m x)(C:∀b f x,¬(b=t∧f=i)→(BF P v' b f x↔BF P v b f x))(M:v'.W=v.W)(L:t=2→∃x,m x):Bp P a l p s d o v' u:=by
 obtain ⟨S,c,J⟩:=(h.st t i k g).isMap;obtain ⟨O,Q⟩:=h.bR J;have U:=h.t4 t i k g;refine {h with s9:=h.s9.O A (fun q=>O q.symm),mp:=fun b D=>(h.mp b D).O A (fun q=>h.ne t i k b g (by omega) q.symm),st:=fun b f B z=>?_,ins:=fun b f x D q=>?_,d2:=fun y B z=>?_,fm:=h.fm.O A (fun q=>h.ne t i k 5 g (by omega) q.symm),fr:=fun y b H=>(h.fr y b H).O A (fun j I q=>Q y b H (by unfold DX at I;cases I;exact q.symm)) (fun j R T q r=>by rw [q,J] at r;cases r),fvr:=fun c r=>by rw [M];exact h.fvr c r}
 ·by_cases e:b=t∧f=i
  ·obtain ⟨rfl,rfl⟩:=e;rw [g] at z;cases z;exact N.iff fun n=>(G n).symm
  ·have:B≠k:=fun q=>e (h.dj b f t i k (q▸z) g)
   exact ((h.st b f B z).O A this).iff fun n=>(C b f n e).symm
 ·by_cases e:2=t∧y=i
  ·obtain ⟨F,K⟩:=e;obtain ⟨x,E⟩:=L F.symm;subst F;subst K;exact ⟨x,Kq.1 ((G x).2 E)⟩
  ·obtain ⟨x,E⟩:=h.d2 y B z;exact ⟨x,Kq.1 ((C 2 y x e).2 (Kq.2 E))⟩
 ·by_cases e:b=t∧f=i
  ·obtain ⟨rfl,rfl⟩:=e;exact ⟨k,g⟩
  ·exact h.ins b f x D ((C b f x e).1 q)
def So.news(o:So)(c f:Nat):So:={o with bk:=fun t i=>if t=2 then (if i=c then some f else o.bk 2 i) else o.bk t i}
theorem Bp.news(h:Bp P a l p s d o v w){c f}{m:Nat→Prop}{v':Sv}(L:¬o.own a f)(a1:∃R c,w.heap[f]? =some (.map R c))(V:A9 f m u)(S:Bv Hb Ha (o.om 2) (fun x=>if x=c then some f else o.bk 2 x) u)(E:Ab (fun j=>j=o.om 2) w u)(J:∀x,BF P v' 2 c x↔m x)(G:∀b y x,¬(b=2∧y=c)→(BF P v' b y x↔BF P v b y x))(U:v'.W=v.W)(T:∃x,m x):Bp P a l p s d (o.news c f) v' u:=by
 obtain ⟨a0,Z,N⟩:=(h.mp 2 (by omega)).isMap;obtain ⟨X,Y⟩:=h.bR N;have A:∀t i k,(o.news c f).bk t i=some k→(t=2∧i=c∧k=f)∨(¬(t=2∧i=c)∧o.bk t i=some k):=fun t i k g=>by
  unfold So.news at g;dsimp only at g;split at g
  ·next e=>
   subst e;split at g
   ·next e=>cases g;exact .inl ⟨rfl,e,rfl⟩
   ·next e=>exact .inr ⟨fun q=>e q.2,g⟩
  ·next e=>exact .inr ⟨fun q=>e q.1,g⟩
 have F:∀t i,t≠2→(o.news c f).bk t i=o.bk t i:=fun t i e=>by unfold So.news;dsimp only;rw [if_neg e]
 have O:∀t i k,o.bk t i=some k→k≠f:=fun t i k g q=>L (q▸.inr (.inr (.inl ⟨t,i,g⟩)))
 refine {h with s9:=h.s9.O E (fun q=>X q.symm),mp:=fun b C=>?_,st:=fun b y D B=>?_,dj:=fun t i b y k g B=>?_,ne:=fun t i k b g C=>?_,t4:=fun t i k g=>?_,d0:=fun z t W=>?_,d1:=fun n=>?_,d4:=fun n=>?_,d2:=fun z D B=>?_,ins:=fun b y x C q=>?_,fm:=h.fm.O E (fun q=>absurd (h.oj 5 2 (by omega) (by omega) q) (by omega)),fr:=fun z b K=>(h.fr z b K).O E (fun j M q=>Y z b K (by unfold DX at M;cases M;exact q.symm)) (fun j cs fz q r=>by rw [q,N] at r;cases r),fvr:=fun c r=>by rw [U];exact h.fvr c r}
 ·by_cases e:b=2
  ·subst e;exact S.ext fun x=>by unfold So.news;dsimp only;rw [if_pos rfl]
  ·have:(o.news c f).bk b=o.bk b:=funext fun i=>F b i e
   rw [this];exact (h.mp b C).O E (fun q=>e (h.oj b 2 (by omega) (by omega) q))
 ·rcases A b y D B with ⟨rfl,rfl,rfl⟩ | ⟨e,g⟩
  ·exact V.iff fun n=>(J n).symm
  ·exact ((h.st b y D g).O E (h.ne b y D 2 g (by omega))).iff fun n=>(G b y n e).symm
 ·rcases A t i k g with ⟨rfl,rfl,rfl⟩ | ⟨e,q⟩
  ·rcases A b y _ B with ⟨rfl,rfl,_⟩ | ⟨Q,I⟩
   ·exact ⟨rfl,rfl⟩
   ·exact absurd rfl (O _ _ _ I)
  ·rcases A b y k B with ⟨rfl,rfl,rfl⟩ | ⟨Q,I⟩
   ·exact absurd rfl (O _ _ _ q)
   ·exact h.dj t i b y k q I
 ·rcases A t i k g with ⟨rfl,rfl,rfl⟩ | ⟨e,q⟩
  ·exact fun q=>L (.inr (.inl ⟨b,C,q⟩))
  ·exact h.ne t i k b q C
 ·rcases A t i k g with ⟨rfl,rfl,rfl⟩ | ⟨e,q⟩
  ·omega
  ·exact h.t4 t i k q
 ·rw [←h.d0 z t W,F t z (by omega)]
 ·rw [←h.d1 n,F 1 n (by omega)]
 ·rw [←h.d4 n,F 4 n (by omega)]
 ·rcases A 2 z D B with ⟨_,rfl,_⟩ | ⟨e,q⟩
  ·obtain ⟨x,H⟩:=T;exact ⟨x,Kq.1 ((J x).2 H)⟩
  ·obtain ⟨x,H⟩:=h.d2 z D q;exact ⟨x,Kq.1 ((G 2 z x e).2 (Kq.2 H))⟩
 ·by_cases e:b=2∧y=c
  ·obtain ⟨rfl,rfl⟩:=e;exact ⟨f,by unfold So.news;simp⟩
  ·obtain ⟨k,g⟩:=h.ins b y x C ((G b y x e).1 q);refine ⟨k,?_⟩;unfold So.news;dsimp only;split
   ·next e2=>rw [if_neg (fun q=>e ⟨e2,q⟩),←e2];exact g
   ·exact g
end
structure Dp(P:List PFn)(sb:Nat)(fv:Value)(mn pn cn:Nat)(o o':So)(v:Sv)(w w':World):Prop where
 r:Bp P sb fv mn pn cn o' v w'
 ow:∀k,o'.own sb k→o.own sb k∨w.heap.size≤k
 rl:(o'.rl,o'.fw)=(o.rl,o.fw)
 on:Ab (o.own sb) w w'
theorem En(P:List PFn)(v:Sv)(c:Nat)(T:Nat→Prop)(t i x:Nat):BF P (v.give c T) t i x↔BF P v t i x∨(t=0∧i=c∧T x)∨(t=2∧i=c∧T x∧¬v.s.I c x):=by
 by_cases a:t=0
 ·subst a;simp [BF,Sv.give]
 by_cases b:t=2
 ·subst b;simp only [BF,Sv.give,Nat.reduceEqDiff,false_implies,true_and,and_true,forall_const,false_and,false_or];constructor
  ·rintro (q | ⟨rfl,q⟩)
   ·exact .inl q
   ·exact .inr ⟨rfl,q⟩
  ·rintro (q | ⟨rfl,q⟩)
   ·exact .inl q
   ·exact .inr ⟨rfl,q⟩
 ·simp [BF,Sv.give,a,b]
theorem E7(P b l s y g o v w)(c B L:Nat)(T:Nat→Prop)(h:Bp P b l s y g o v w)(m:o.bk 0 c=some B)(ht:A9 L T w)(S:c<20000)(a8:L≠B):
 Calls Tryz.prog 126 #[.pointer (some ⟨b,0,none⟩),.int .i64 c,.map (some L)] w fun e w'=>e=.returned (.tuple #[])∧∃o',Dp P b l s y g o o' (v.give c T) w w':=by
 have a2:=(h.st 0 c B m).iff (m':=v.s.I c) fun n=>by simp [BF]
 have p4:=h.s9.cell 4;have p6:=h.s9.cell 6;have b3:=Ae h.s9;simp only [Gf,dM,dJ,dK] at p4 p6;have l0:=((h.mp 0 (by omega)).look Dw Tryz.underlying91 (Ca w) S false).2 B m;have H:=Aa h;have HS:=Aa a2;have HT:=Aa ht;clear h a2 ht;unfold GG at l0;go_enter Tryz.func126,Tryz.ntmps126;go_wp2_with fail;refine (Gd B L (v.s.I c) T w HS.o HT.o (Ne.symm a8)).mono ?_;rintro e d ⟨f,rfl,hf,sf,s0,o1⟩;obtain ⟨G,K⟩:∃G:Sv,G=⟨⟨fun x t=>v.s.I x t∨(x=c∧T t),v.s.F,v.s.E⟩,v.N,v.W⟩:=⟨_,rfl⟩;have J:∀t i x,BF P G t i x↔BF P v t i x∨(t=0∧i=c∧T x):=fun t i x=>by
  rw [K];by_cases h0:t=0
  ·subst h0;simp [BF]
  ·simp [BF,h0]
 have E:Bp P b l s y g o G d:=H.o.put (v':=G) m s0 o1 (fun x=>by rw [J];simp [BF]) (fun t' Z x q=>by rw [J];exact ⟨fun r=>r.elim id fun r=>absurd ⟨r.1,r.2.1⟩ q,.inl⟩) (by rw [K]) (by nofun);have V:¬o.own b f:=fun q=>by have:=H.o.ownLt q;omega
 have lf:=sf.lt;obtain ⟨gf,mf,wf⟩:=sf;obtain ⟨n,hn,b1,U⟩:=mf.len Tryz.underlying93 3;rw [wf.empty] at U;have p6:=E.s9.cell 6;have b4:=Ae E.s9;simp only [Gf,dM,dJ,dK] at p6;have F:=(E.mp 2 (by omega)).look Dw Tryz.underlying91 (Ca d) S false;have A:=Aa E;have M:=Aa U;have Q:dN (A9 f (fun n=>T n∧¬v.s.I c n) d):=⟨gf,mf,wf⟩;have N:dN (Ab (o.own b) w d):=o1.mono fun j _ q=>by rw [q];exact .inr (.inr (.inl ⟨0,c,m⟩))
 have D:=Aa J;have R:=Aa K;clear E U mf wf o1 s0 J K;by_cases Y:n=0
 ·subst Y;have p:Bp P b l s y g o (v.give c T) d:=A.o.put (v':=v.give c T) m ((A.o.st 0 c B m).O (X:=fun _=>False) (Ab.refl _ _) (fun q=>q)) (Ab.refl _ _) (fun x=>by
   rw [En,D.o];simp [BF]) (fun t' Z x q=>by
   rw [En,D.o];have:=M.o.1 rfl x;constructor
   ·rintro (r | r | ⟨_,_,r⟩)
    ·exact .inl r
    ·exact .inr r
    ·exact absurd r this
   ·rintro (r | r)
    ·exact .inl r
    ·exact .inr (.inl r)) (by rw [R.o];rfl) (by nofun)
  have HR:=Aa p;clear p F;go_wp2_with fail;exact bodyPost_ret (v:=.tuple #[]) (by simp [results,Tryz.results126,go_sem]) rfl ⟨rfl,o,HR.o,fun _ q=>.inl q,rfl,N.o⟩
 ·have b2:((n:Int)==0)=false:=by simp;omega
  have a0:dN (∃x,T x∧¬v.s.I c x):=by apply Classical.byContradiction;intro q;exact Y (M.o.2 fun x W=>q ⟨x,W⟩)
  clear M Y;cases z:o.bk 2 c with
  | none=>
    have l3:=F.1 z;have a5:(binOp BinOp.eql 93 (.map none) (.map none)).run Tryz.prog d=.ok (.bool true) d:=by rfl
    clear F;obtain ⟨I,a9,m2,u⟩:=(A.o.mp 2 (by omega)).put Dw Tryz.underlying91 (k:=c) (a:=f) S trivial;unfold GG at a9;have a6:f≠o.om 2:=fun q=>V (.inr (.inl ⟨2,by omega,q⟩))
    have p:Bp P b l s y g (o.news c f) (v.give c T) I:=A.o.news (v':=v.give c T) V Q.o.isMap (Q.o.O u a6) m2 u (fun x=>by
     rw [En];simp only [Nat.reduceEqDiff,false_and,false_or,true_and];refine ⟨fun q=>q.elim (fun q=>?_) id,.inr⟩;obtain ⟨k,a1⟩:=H.o.ins 2 c x (by omega) q;rw [z] at a1;cases a1) (fun t' Z x q=>by
     rw [En,D.o];constructor
     ·rintro (r | r | ⟨r1,r2,_⟩)
      ·exact .inl r
      ·exact .inr r
      ·exact absurd ⟨r1,r2⟩ q
     ·rintro (r | r)
      ·exact .inl r
      ·exact .inr (.inl r)) (by rw [R.o];rfl) a0.o
    have O:dN (Dp P b l s y g o (o.news c f) (v.give c T) w I):=by
     refine ⟨p,fun k m=>?_,rfl,N.o.thn u (fun j _ q=>by rw [q];exact .inr (.inl ⟨2,by omega,rfl⟩))⟩;rcases m with q | q | ⟨t,i,q⟩ | q
     ·exact .inl (.inl q)
     ·exact .inl (.inr (.inl q))
     ·unfold So.news at q;dsimp only at q;split at q
      ·split at q
       ·cases q;exact .inr hf
       ·exact .inl (.inr (.inr (.inl ⟨2,i,q⟩)))
      ·exact .inl (.inr (.inr (.inl ⟨t,i,q⟩)))
     ·exact .inl (.inr (.inr (.inr q)))
    clear p m2 u;go_wp2_with fail;exact bodyPost_ret (v:=.tuple #[]) (by simp [results,Tryz.results126,go_sem]) rfl ⟨rfl,_,O.o⟩
  | some C=>
    have l3:=F.2 C z;unfold GG at l3;clear F;have a3:A9 C (v.N c) d:=(A.o.st 2 c C z).iff fun x=>by rw [D.o];simp [BF]
    have a7:C≠f:=fun q=>V (.inr (.inr (.inl ⟨2,c,q▸z⟩)))
    have O:=Aa a3;have a5:(binOp BinOp.eql 93 (.map (some C)) (.map none)).run Tryz.prog d=.ok (.bool false) d:=by rfl
    clear a3;go_wp2_with fail;refine (Gd C f (v.N c) _ d O.o Q.o a7).mono ?_;rintro e I ⟨f2,rfl,b0,_,s2,u⟩;have p:Bp P b l s y g o (v.give c T) I:=A.o.put (v':=v.give c T) z s2 u (fun x=>by
     rw [En];simp [BF]) (fun t' Z x q=>by
     rw [En,D.o];constructor
     ·rintro (r | r | ⟨r1,r2,_⟩)
      ·exact .inl r
      ·exact .inr r
      ·exact absurd ⟨r1,r2⟩ q
     ·rintro (r | r)
      ·exact .inl r
      ·exact .inr (.inl r)) (by rw [R.o];rfl) (fun _=>by
     obtain ⟨x,W⟩:=a0.o;exact ⟨x,.inr W⟩)
    have a4:dN (Dp P b l s y g o o (v.give c T) w I):=⟨p,fun _ q=>.inl q,rfl,N.o.thn u (fun j _ q=>by rw [q];exact .inr (.inr (.inl ⟨2,c,z⟩)))⟩;clear p s2 u;go_wp2_with fail;go_end0;exact ⟨rfl,_,a4.o⟩
theorem Bp.iff{P l f g j d o v b w}(h:Bp P l f g j d o v w)(e:∀t i x,BF P b t i x↔BF P v t i x)(m:b.W=v.W):Bp P l f g j d o b w:=
 {h with
  st:=fun t i k a=>(h.st t i k a).iff fun n=>(e t i n).symm
  ins:=fun t i x p q=>h.ins t i x p ((e t i x).1 q)
  d2:=fun c k a=>by obtain ⟨x,s⟩:=h.d2 c k a;exact ⟨x,Kq.1 ((e 2 c x).2 (Kq.2 s))⟩
  fvr:=fun c r=>by rw [m];exact h.fvr c r}
theorem SD(P b g j l d o v w)(c a:Nat)(h:Bp P b g j l d o v w)(m:o.bk 0 c=some a)(C:c<20000):
 Calls Tryz.prog 126 #[.pointer (some ⟨b,0,none⟩),.int .i64 c,.map (some a)] w fun e K=>e=.returned (.tuple #[])∧∃F,Dp P b g j l d o F (v.give c (v.s.I c)) w K:=by
 have s:=(h.st 0 c a m).iff (m':=v.s.I c) fun n=>by simp [BF]
 have G:=h.s9.cell 4;have R:=Ae h.s9;simp only [Gf,dM,dJ,dK] at G;have E:=((h.mp 0 (by omega)).look Dw Tryz.underlying91 (Ca w) C false).2 a m;have H:=Aa h;have B:=Aa s;clear h s;unfold GG at E;go_enter Tryz.func126,Tryz.ntmps126;go_wp2_with fail;refine (MS a (v.s.I c) w B.o).mono ?_;rintro e L ⟨f,rfl,N,J,I,k⟩;obtain ⟨M,u,y⟩:=J;obtain ⟨n,Q,O,p⟩:=u.len Tryz.underlying93 3;have D:n=0:=p.2 (y.empty.2 fun _ q=>q);subst D;have A:dN (Bp P b g j l d o (v.give c (v.s.I c)) L):=(H.o.i9 k).iff (fun t i x=>by
  rw [En];refine ⟨?_,.inl⟩;rintro (q | ⟨rfl,rfl,q⟩ | ⟨_,_,q,r⟩)
  ·exact q
  ·simpa [BF] using q
  ·exact absurd q r) rfl
 have z:=Aa k;clear u y p I k;go_wp2_with fail;exact bodyPost_ret (v:=.tuple #[]) (by simp [results,Tryz.results126,go_sem]) rfl ⟨rfl,o,A.o,fun _ q=>.inl q,rfl,z.o.mono fun _ _ q=>q.elim⟩
theorem A8.lt{P a c}(h:A8 P a c)(j:P.length≤12)(b:∀f,(Ap P f).l8.length≤12)(o:a≤4001):c<16400:=by
 rcases h with ⟨f,i,l,m,rfl⟩ | ⟨n,k,d,e,g,rfl⟩
 ·have:=b f;unfold vN;omega
 ·unfold pN;omega
theorem Dp.trans{P e b c d a o g i p l w m n}(h:Dp P e b c d a o g p w m)(k:Dp P e b c d a g i l m n):Dp P e b c d a o i l w n:=
 ⟨k.r,fun j f=>(k.ow j f).elim (h.ow j) fun q=>.inr (Nat.le_trans h.on.size q),k.rl.trans h.rl,h.on.thn k.on fun j f q=>(h.ow j q).elim id fun r=>absurd r (by omega)⟩
def Nx(P:List PFn)(g:Nat)(c:Value)(d f b:Nat)(o:So)(v:Sv)(w h:World)(Q:Sv→Prop):Prop:=
 ∃e a,Dp P g c d f b o e a w h∧v.up a∧(∀X,Bs P X v→Bs P X a)∧Q a
theorem Nx.then{P g c d f b o v w i m}{Q R:Sv→Prop}(h:Nx P g c d f b o v w i Q)(k:∀e a,Dp P g c d f b o e a w i→v.up a→Q a→Nx P g c d f b e a i m R):Nx P g c d f b o v w m R:=by obtain ⟨e,a,j,l,n,s⟩:=h;obtain ⟨r,y,u,x,p,t⟩:=k e a j l s;exact ⟨r,y,j.trans u,l.tr x,fun X q=>p X (n X q),t⟩
theorem Hx(P:List PFn)(v:Sv)(a b t i x:Nat):BF P (v.edge a b) t i x↔BF P v t i x∨(t=3∧i=a∧x=b):=by
 by_cases c:t=3
 ·subst c;simp [BF,Sv.edge]
 ·simp [BF,Sv.edge,c]
theorem FT(P c m s d l o v w)(a b:Nat)(h:Bp P c m s d l o v w)(J:A8 P d a)(Z:A8 P d b)(la:a<16400)(lb:b<16400)(hF:(least P).F a b):
 Calls Tryz.prog 130 #[.pointer (some ⟨c,0,none⟩),.int .i64 a,.int .i64 b] w fun e F=>e=.returned (.tuple #[])∧Nx P c m s d l o v w F (fun u=>u.s.F a b):=by
 obtain ⟨D,A⟩:=(h.d0 a 3 (.inr rfl)).2 J;obtain ⟨p,z⟩:=(h.d0 a 0 (.inl rfl)).2 J;obtain ⟨Q,L⟩:=(h.d0 b 0 (.inl rfl)).2 Z;have p7:=h.s9.cell 7;have a0:=Ae h.s9;simp only [Gf,dM,dJ,dK] at p7;have l3:=((h.mp 3 (by omega)).look Dw Tryz.underlying91 (Ca w) (k:=a) (by omega) false).2 D A;have O:=(h.st 3 a D A).iff (m':=v.s.F a) fun n=>by simp [BF]
 unfold GG at l3;have H:=Aa h;have G:=Aa O;have U:=Aa hF;clear h O hF;go_enter Tryz.func130,Tryz.ntmps130;go_wp2_with fail;refine (Fg D (v.s.F a) b w G.o (by omega)).mono ?_;rintro e f ⟨r,rfl,M,R,E⟩;have N:Bp P c m s d l o (v.edge a b) f:=H.o.put (v':=v.edge a b) A R E (fun x=>by rw [Hx];simp [BF]) (fun t' i' x q=>by rw [Hx];exact ⟨fun r=>r.elim id fun r=>absurd ⟨r.1,r.2.1⟩ q,.inl⟩) rfl (by nofun)
 have B:dN (Ab (o.own c) w f):=E.mono fun j _ q=>by rw [q];exact .inr (.inr (.inl ⟨3,a,A⟩))
 have g:=Aa N;have V:=Aa M;clear M N R E G;cases r with
 | false=>
   have K:v.s.F a b:=by apply Classical.byContradiction;intro q;have:=V.o.2 q;cases this
   have C:dN (Nx P c m s d l o v w f (fun u=>u.s.F a b)):=⟨o,v,⟨g.o.iff (fun t i x=>by
    rw [Hx];refine ⟨.inl,?_⟩;rintro (q | ⟨rfl,rfl,rfl⟩)
    ·exact q
    ·simpa [BF] using K) rfl,fun _ q=>.inl q,rfl,B.o⟩,.rf _,fun _ q=>q,K⟩
   go_wp2_with fail;go_end0;exact ⟨rfl,C.o⟩
 | true=>
   have p4:=g.o.s9.cell 4;have a1:=Ae g.o.s9;simp only [Gf,dM,dJ,dK] at p4;have l4:=((g.o.mp 0 (by omega)).look Dw Tryz.underlying91 (Ca f) (k:=a) (by omega) false).2 p z;unfold GG at l4;have S:A9 p (v.s.I a) f:=(g.o.st 0 a p z).iff fun x=>by rw [Hx];simp [BF]
   have W:=Aa S;clear S;have I:Calls Tryz.prog 126 #[.pointer (some ⟨c,0,none⟩),.int .i64 b,.map (some p)] f fun e F=>e=.returned (.tuple #[])∧∃o',Dp P c m s d l o o' (v.flow a b) f F:=by
    by_cases e:p=Q
    ·have Y:a=b:=(g.o.dj 0 a 0 b p z (e▸L)).2;subst Y;exact SD P c m s d l o (v.edge a a) f a p g.o z (by omega)
    ·exact E7 P c m s d l o (v.edge a b) f b Q p (v.s.I a) g.o L W.o (by omega) e
   have T:=Aa I;clear I;go_wp2_with fail;refine T.o.mono ?_;rintro e w2 ⟨rfl,o2,y⟩;have C:dN (Nx P c m s d l o v w w2 (fun u=>u.s.F a b)):=⟨o2,v.flow a b,⟨y.r,fun k hk=>(y.ow k hk).imp id fun q=>Nat.le_trans B.o.size q,y.rl,B.o.trans y.on⟩,Sv.flow_up v a b,fun X q=>q.flow U.o,Sv.flow_F v a b⟩;clear y;go_wp2_with fail;go_end0;exact ⟨rfl,C.o⟩
structure AnOk(P:List PFn)(pn cn:Nat):Prop where
 ok:Ms P
 bA:P.length≤12
 lp:pn≤4001
 lc:cn≤4001
 bG:∀i,i<P.length→∀s,s∈(Ap P i).b9→(s.kind=1→1≤s.m9∧s.m9≤pn)∧(s.kind=8→1≤s.m9∧s.m9≤cn)∧s.field≤3
structure Dn(P:List PFn)(sb:Nat)(fv:Value)(mn pn cn:Nat)(o:So)(v:Sv)(w:World):Prop where
 r:Bp P sb fv mn pn cn o v w
 pl:Bh 0 w fv P
 tb:JL w
 tl:0<w.heap.size
 tn:¬o.own sb 0
theorem Bp.noPlan{P a c e f b o v w}(h:Bp P a c e f b o v w):Mq (o.own a) w:=fun k g t i d q=>by refine ⟨?_,?_,?_,?_⟩<;>rintro rfl<;>exact h.noCells d (by decide) (by decide) q
theorem Dn.next{P e b c d a o f v g w i}(h:Dn P e b c d a o v w)(k:Dp P e b c d a o f g w i):Dn P e b c d a f g i:=
 ⟨k.r,h.pl.O k.on h.r.noPlan,h.tb.O k.on h.tn h.tl,Nat.lt_of_lt_of_le h.tl k.on.size,fun q=>(k.ow _ q).elim h.tn fun q=>by have:=h.tl;omega⟩
theorem Dn.i9{P e b c d a o v w f}(h:Dn P e b c d a o v w)(k:Ab (fun _=>False) w f):Dn P e b c d a o v f:=
 ⟨h.r.i9 k,h.pl.i9 k,h.tb.O k (fun q=>q) h.tl,Nat.lt_of_lt_of_le h.tl k.size,h.tn⟩
theorem Dp.i9{P f b c e a o d g w i j}(h:Dp P f b c e a o d g w i)(k:Ab (fun _=>False) i j):Dp P f b c e a o d g w j:=
 ⟨h.r.i9 k,h.ow,h.rl,h.on.bI k⟩
theorem Bp.ints{P b e i m d o v w c B a l}(h:Bp P b e i m d o v w)(k:AD B w a l)(g:Ab (o.own b) w c):AD B c a l:=
 Av k g fun j n p f=>h.noCells f (by decide) (by decide)
abbrev Hi(r:Rl)(a:Value):Array Value:=#[.int .i64 r.f,.int .i64 r.s.kind,.int .i64 r.s.aQ,.int .i64 r.s.r9,.int .i64 r.s.field,.int .i64 r.s.m9,a,.int .i64 r.s.next,.int .i64 r.s.taken]
structure WB(P:List PFn)(r:Rl):Prop where
 f:r.f<P.length
 tg:r.s.aQ<(Ap P r.f).l8.length
 ar:∀a,a∈r.s.args→a<(Ap P r.f).l8.length
 n:r.s.args.length≤4000
theorem AX{P c f i}(a:f<P.length)(b:i<(Ap P f).l8.length):A8 P c (vN f i):=.inl ⟨f,i,a,b,rfl⟩
theorem D2{P:List PFn}{b a f i}(A:AnOk P b a)(c:f<P.length)(d:i<(Ap P f).l8.length):vN f i<16400:=by have:=A.bA;have:=A.ok.l8 f;unfold vN;omega
theorem Eu(f i:Nat)(w:World)(b:f≤4001)(c:i≤4001):
 Calls Tryz.prog 125 #[.int .i64 f,.int .i64 i] w fun e a=>e=.returned (.int .i64 (vN f i))∧a=w:=by
 have e:((vN f i:Nat):Int)=(f:Int)*12+(i:Int):=by unfold vN;omega
 go_enter Tryz.func125,Tryz.ntmps125;go_wp2;go_ret;exact ⟨by rw [e];rfl,rfl⟩
theorem Cb(r:Rl)(c:Value)(w:World)(d:r.f≤4001)(f:r.s.aQ≤4001):
 Calls Tryz.prog 127 #[.agg (Hi r c)] w fun e b=>e=.returned (.int .i64 r.tg)∧Ab (fun _=>False) w b:=by
 go_enter Tryz.func127,Tryz.ntmps127;go_wp2_with (first | (go_at_call 125;refine (Eu r.f r.s.aQ _ d f).mono ?_;rintro e b ⟨rfl,a⟩;have a:=a.symm;subst a));go_ret;exact ⟨rfl,(by repeat (first | exact Ab.refl _ _ | refine Ab.drew ?_ | refine Ab.drewN ?_ _ | refine Ab.alloc ?_ _))⟩
theorem CV(r:Rl)(c:Value)(w:World)(d:r.f≤4001)(f:r.s.r9≤4001):
 Calls Tryz.prog 128 #[.agg (Hi r c)] w fun e b=>e=.returned (.int .i64 r.sr)∧Ab (fun _=>False) w b:=by
 go_enter Tryz.func128,Tryz.ntmps128;go_wp2_with (first | (go_at_call 125;refine (Eu r.f r.s.r9 _ d f).mono ?_;rintro e b ⟨rfl,a⟩;have a:=a.symm;subst a));go_ret;exact ⟨rfl,(by repeat (first | exact Ab.refl _ _ | refine Ab.drew ?_ | refine Ab.drewN ?_ _ | refine Ab.alloc ?_ _))⟩
theorem Np(P f z C b u o v w)(A:AnOk P b u)(h:Dn P f z C b u o v w)(r:Rl)(g:Nat)(av:Value)(Y:AD 0 w av r.s.args)(hr:WB P r)(K:g<P.length)(hn:r.s.args.length≤(Ap P g).l8.length)(hL:DY P r g (least P)):
 Calls Tryz.prog 131 #[.pointer (some ⟨f,0,none⟩),.agg (Hi r av),.int .i64 g] w fun e w'=>e=.returned (.tuple #[])∧Nx P f z C b u o v w w' (fun v'=>DY P r g v'.s):=by
 obtain ⟨R,al,S,rfl⟩:=Ad Y;have d6:=Aq Y;subst d6;have c:Ab (fun _=>False) w (w.alloc (.cells (Hi r (.slice R r.s.args.length S)) 208)):=(Ab.refl _ w).alloc _;have a9:=Ak.new w (Hi r (.slice R r.s.args.length S)) 208;have hE:=h.i9 c;have hI:=Ac Y c (fun _ _ q=>q);have c1:¬o.own f w.heap.size:=fun q=>by have:=h.r.ownLt q;omega
 have e6:(w.alloc (.cells (Hi r (.slice R r.s.args.length S)) 208)).heap.size=w.heap.size+1:=by simp
 have e3:=A.bA;have V:=hr.f;have e9:=hr.n;have F:=Aa A;have HL:=Aa hL;have HR:=Aa hr;clear h Y A hL hr;go_enter Tryz.func131,Tryz.ntmps131;go_wp2_with fail;generalize w.alloc (.cells (Hi r (.slice R r.s.args.length S)) 208)=W at*;have S0:dN (Dp P f z C b u o o v W W):=⟨hE.r,fun _ q=>.inl q,rfl,Ab.refl _ _⟩;have HE:=Aa hE;have HI:=Aa hI;have HB:=Aa a9;have O1:=Aa c;clear hE hI a9 c;generalize w.heap.size=rb at*;go_loopw [14] (fun i wr=>∃(k:Nat) (c:So) (m:Sv),k≤r.s.args.length∧i=.int .i64 k∧dN (Dp P f z C b u o c m W wr)∧dN (v.up m∧(∀X,Bs P X v→Bs P X m)∧∀j a,j<k→r.s.args[j]? =some a→m.s.F (vN r.f a) (vN g j))) (fun i _=>r.s.args.length-(intOf i).toNat)
 case atStart=>exact ⟨0,o,v,by omega,rfl,S0,⟨.rf _,fun _ q=>q,fun j a q=>by omega⟩⟩
 case round=>
  clear S0;obtain ⟨k,c,m,hk,rfl,D,G⟩:=hrel;have B:=HE.o.next D.o;have d9:¬c.own f rb:=fun q=>(D.o.ow _ q).elim c1 fun q=>by omega
  have O:=HB.o.O D.o.on c1;have b0:=O.cell 0;simp only [dM,dJ] at b0;have f0:=Ae O;by_cases H:k<r.s.args.length
  ·have T:=HE.o.r.ints HI.o D.o.on;obtain ⟨gl,rfl⟩:=AA T (by omega);have Q:=T.cellAt k (by omega);rw [List.getElem?_map,List.getElem?_eq_getElem H] at Q;simp only [Option.map_some] at Q;have e0:=(T.lt gl rfl).2;have a8:=HR.o.ar r.s.args[k] (List.getElem_mem _);have h1:A8 P b (vN r.f r.s.args[k]):=AX V a8;have h2:A8 P b (vN g k):=AX K (by omega);have h3:=D2 F.o V a8;have h4:vN g k<16400:=D2 F.o K (by omega);have N:=HL.o.1 k _ (List.getElem?_eq_getElem H);have d5:=F.o.ok.l8 r.f;have a2:(k:Int)<(r.s.args.length:Int):=by omega
   have HG:=Aa (List.getElem?_eq_getElem H);have c7:=Aa h1;have c8:=Aa h2;have a0:=Aa N;have M:=Aa B;clear T h1 h2 N B O;generalize r.s.args[k]=x at*;go_wp2_with (first | (go_at_call 125;first | (refine (Eu r.f x _ (by omega) (by omega)).mono ?_;rintro e w' ⟨rfl,I⟩;have I:=I.symm;subst I) | (refine (Eu g k _ (by omega) (by omega)).mono ?_;rintro e w' ⟨rfl,I⟩;have I:=I.symm;subst I)));refine (FT P f z C b u c m wr _ _ M.o.r c7.o c8.o h3 h4 a0.o).mono ?_;rintro e w2 ⟨rfl,d,n,s2,u2,i2,q2⟩;have E:=Aa (D.o.trans s2);have t:dN (v.up n∧(∀X,Bs P X v→Bs P X n)∧∀j a,j<k+1→r.s.args[j]? =some a→n.s.F (vN r.f a) (vN g j)):=⟨G.o.1.tr u2,fun X q=>i2 X (G.o.2.1 X q),fun j a L y=>by
    by_cases e:j=k
    ·subst e;rw [HG.o] at y;cases y;exact q2
    ·exact u2.le.s.f _ _ (G.o.2.2 j a (by omega) y)⟩
   clear s2 u2 i2 q2 G D;go_wp2_with fail;go_roundw
   case rel=>exact ⟨k+1,d,n,by omega,by go_num,E,t⟩
   case measure=>simp [intOf];omega
  ·have e:k=r.s.args.length:=by omega
   subst e;have a2:decide ((r.s.args.length:Int)<(r.s.args.length:Int))=false:=by simp
   have p9:=B.r.s9.cell 9;have f2:=Ae B.r.s9;simp only [Gf,dM,dJ,dK] at p9;obtain ⟨kr,b9⟩:=(B.r.d4 g).2 K;have l9:=((B.r.mp 4 (by omega)).look Dw Tryz.underlying91 (Ca wr) (k:=g) (by omega) false).2 kr b9;unfold GG at l9;have c2:A9 kr (Ey P g) wr:=(B.r.st 4 g kr b9).iff fun x=>by simp [BF]
   have a5:=Aa c2;have M:=Aa B;have c5:=Aa O;clear c2 B O;go_wp2_with fail;refine (Df kr (Ey P g) wr a5.o M.o.tb M.o.tl).mono ?_;rintro e w2 ⟨nv,l,rfl,Z,c0,a3,d⟩;obtain ⟨na,nl,nc,rfl⟩:=Ad Z;have d8:=Aq Z;subst d8;have a1:=Aa (M.o.i9 d);have c6:=Aa (c5.o.O d (fun q=>q));have d1:=Aa (Ao Z (Nat.zero_le _));have e5:l.length≤19200:=C8 19200 l c0 fun x J=>by obtain ⟨_,_,e2⟩:=a5.o;exact e2.lt ((a3 x).1 J)
   have HM:=Aa a3;have d2:=Aa d;have e8:=D.o.on.size;have e7:=d.size;have SW:dN (Dp P f z C b u c c m w2 w2):=⟨a1.o.r,fun _ q=>.inl q,rfl,Ab.refl _ _⟩;have c3:=HR.o.tg;have d5:=F.o.ok.l8 r.f;have c9:dN (A8 P b r.tg):=AX V c3;have e1:r.tg<16400:=D2 F.o V c3;clear Z c0 a3 d;go_wp2_with fail;go_loopw [37] (fun i wr=>∃(k:Nat) (d:So) (n:Sv),k≤l.length∧i=.int .i64 k∧dN (Dp P f z C b u c d n w2 wr)∧dN (m.up n∧(∀X,Bs P X m→Bs P X n)∧∀j x,j<k→l[j]? =some x→n.s.F x r.tg)) (fun i _=>l.length-(intOf i).toNat)
   case atStart=>exact ⟨0,c,m,by omega,rfl,SW,⟨.rf _,fun _ q=>q,fun j a q=>by omega⟩⟩
   case round=>
    clear SW;obtain ⟨k,d,n,hk,rfl,E,t⟩:=hrel;have a7:=a1.o.next E.o;have p:=c6.o.O E.o.on d9;by_cases H:k<l.length
    ·have U:=a1.o.r.ints d1.o E.o.on;obtain ⟨gl,rfl⟩:=AA U (by omega);have Q:=U.cellAt k (by omega);rw [List.getElem?_map,List.getElem?_eq_getElem H] at Q;simp only [Option.map_some] at Q;have e0:=(U.lt gl rfl).2;have d7:k+1≤l.length:=H;have J:=(HM.o l[k]).1 (List.getElem_mem _);have N:=HL.o.2 _ J;have c4:A8 P b l[k]∧l[k]<16400:=by obtain ⟨s,hs,e4,e⟩:=J;have:=(F.o.ok.ok g K s hs).sr (by omega);rw [e];exact ⟨AX K this,D2 F.o K this⟩
     have a2:(k:Int)<(l.length:Int):=by omega
     have HG:=Aa (List.getElem?_eq_getElem H);have a6:=Aa c4;have a0:=Aa N;have d0:=Aa a7;have b0:=p.cell 0;have b1:=p.cell 1;have b2:=p.cell 2;have b3:=p.cell 3;have b4:=p.cell 4;have b5:=p.cell 5;have b6:=p.cell 6;have b7:=p.cell 7;have b8:=p.cell 8;have f1:=Ae p;simp only [dM,dJ,dK] at b0 b1 b2 b3 b4 b5 b6 b7 b8;clear U N a7 J c4 p;generalize l[k]=x at*;go_wp2_with fail;refine (Cb r _ wr (by omega) (by omega)).mono ?_;rintro e w3 ⟨rfl,o3⟩;have a4:=Aa o3;clear o3;go_wp2_with fail;refine (FT P f z C b u d n w3 x r.tg (d0.o.i9 a4.o).r a6.o.1 c9.o a6.o.2 e1 a0.o).mono ?_;rintro e w4 ⟨rfl,o4,v4,s4,u4,i4,q4⟩;have d4:=Aa ((E.o.i9 a4.o).trans s4);have d3:dN (m.up v4∧(∀X,Bs P X m→Bs P X v4)∧∀j x,j<k+1→l[j]? =some x→v4.s.F x r.tg):=⟨t.o.1.tr u4,fun X q=>i4 X (t.o.2.1 X q),fun j a L y=>by
      by_cases e:j=k
      ·subst e;rw [HG.o] at y;cases y;exact q4
      ·exact u4.le.s.f _ _ (t.o.2.2 j a (by omega) y)⟩
     clear s4 u4 i4 q4 t E;go_wp2_with fail;go_roundw
     case rel=>exact ⟨k+1,o4,v4,d7,by go_num,d4,d3⟩
     case measure=>simp [intOf];omega
    ·have e:k=l.length:=by omega
     subst e;have a2:decide ((l.length:Int)<(l.length:Int))=false:=by simp
     have HX:dN (Nx P f z C b u o v w wr (fun v'=>DY P r g v'.s)):=by have t1:=(D.o.i9 d2.o).trans E.o;refine ⟨d,n,⟨t1.r,fun j L=>(t1.ow j L).imp id fun q=>Nat.le_trans O1.o.size q,t1.rl,(O1.o.mono (fun _ _ q=>q.elim)).trans t1.on⟩,G.o.1.tr t.o.1,fun X q=>t.o.2.1 X (G.o.2.1 X q),fun j a y=>t.o.1.le.s.f _ _ (G.o.2.2 j a (List.getElem?_eq_some_iff.1 y).1 y),fun x J=>?_⟩;obtain ⟨j,L,e⟩:=List.mem_iff_getElem.1 ((HM.o x).2 J);exact t.o.2.2 j x L (by rw [List.getElem?_eq_getElem L,e])
     go_wp2_with fail;go_end0;exact ⟨rfl,HX.o⟩
theorem Iw(n k:Nat)(w:World)(c:1≤n)(d:n≤4001)(b:k≤4):
 Calls Tryz.prog 65 #[.int .i64 n,.int .i64 k] w fun e a=>e=.returned (.int .i64 (pN n k))∧a=w:=by
 have e:((pN n k:Nat):Int)=156+((n:Int)-1)*4+(k:Int):=by unfold pN;omega
 go_enter Tryz.func65,Tryz.ntmps65;go_wp2;go_ret;exact ⟨by rw [e];rfl,rfl⟩
theorem U6(f:Nat)(w:World)(b:f≤4001):
 Calls Tryz.prog 129 #[.int .i64 f] w fun e a=>e=.returned (.int .i64 (fN f))∧a=w:=by
 have e:((fN f:Nat):Int)=144+(f:Int):=by unfold fN;omega
 go_enter Tryz.func129,Tryz.ntmps129;go_wp2;go_ret;exact ⟨by rw [e];rfl,rfl⟩
def CD(x:Nat):Nat×Nat×Nat:=if x<144 then (0,x / 12,x % 12) else if x<156 then (2,x-144,0) else (1,(x-156) / 4+1,(x-156) % 4)
theorem ID(x:Nat)(w:World)(i:x<19200):
 Calls Tryz.prog 106 #[.int .i64 x] w fun e h=>e=.returned (.agg #[.int .i64 (CD x).1,.int .i64 (CD x).2.1,.int .i64 (CD x).2.2])∧Ab (fun _=>False) w h:=by
 by_cases c:x<144
 ·have e:CD x=(0,x / 12,x % 12):=by unfold CD;rw [if_pos c]
  rw [e];have d:decide ((x:Int)<144)=true:=by simp;omega
  have a:(((x / 12:Nat):Nat):Int)=(x:Int) / 12:=by omega
  have b:(((x % 12:Nat):Nat):Int)=(x:Int) % 12:=by omega
  go_enter Tryz.func106,Tryz.ntmps106;go_wp2;refine bodyPost_ret (v:=.agg #[.int .i64 0,.int .i64 ((x:Int) / 12),.int .i64 ((x:Int) % 12)]) (by simp [results,Tryz.results106,go_sem]) rfl ?_;exact ⟨by rw [a,b];rfl,(by repeat (first | exact Ab.refl _ _ | refine Ab.drew ?_ | refine Ab.drewN ?_ _ | refine Ab.alloc ?_ _))⟩
 by_cases f:x<156
 ·have e:CD x=(2,x-144,0):=by unfold CD;rw [if_neg c,if_pos f]
  rw [e];have d:decide ((x:Int)<144)=false:=by simp;omega
  have g:decide ((x:Int)<156)=true:=by simp;omega
  have a:(((x-144:Nat):Nat):Int)=(x:Int)-144:=by omega
  go_enter Tryz.func106,Tryz.ntmps106;go_wp2;refine bodyPost_ret (v:=.agg #[.int .i64 2,.int .i64 ((x:Int)-144),.int .i64 0]) (by simp [results,Tryz.results106,go_sem]) rfl ?_;exact ⟨by rw [a];rfl,(by repeat (first | exact Ab.refl _ _ | refine Ab.drew ?_ | refine Ab.drewN ?_ _ | refine Ab.alloc ?_ _))⟩
 ·have e:CD x=(1,(x-156) / 4+1,(x-156) % 4):=by unfold CD;rw [if_neg c,if_neg f]
  rw [e];have d:decide ((x:Int)<144)=false:=by simp;omega
  have g:decide ((x:Int)<156)=false:=by simp;omega
  have a:((((x-156) / 4+1:Nat):Nat):Int)=((x:Int)-156) / 4+1:=by omega
  have b:((((x-156) % 4:Nat):Nat):Int)=((x:Int)-156) % 4:=by omega
  go_enter Tryz.func106,Tryz.ntmps106;go_wp2;refine bodyPost_ret (v:=.agg #[.int .i64 1,.int .i64 (((x:Int)-156) / 4+1),.int .i64 (((x:Int)-156) % 4)]) (by simp [results,Tryz.results106,go_sem]) rfl ?_;exact ⟨by rw [a,b];rfl,(by repeat (first | exact Ab.refl _ _ | refine Ab.drew ?_ | refine Ab.drewN ?_ _ | refine Ab.alloc ?_ _))⟩
end Go.Proofs.YtegmjgjkcdbmkaaGreatDoor
