/- Part of the proof: EqA EqB EqC EqD EqE EqF. -/
import Derived.Test.YtaningfhibkemaaGreatDoorG06
namespace Go.Proofs.YtaningfhibkemaaGreatDoor
open Go.Proofs.Tryz
open Option renaming none->Z,some->T
open Value renaming int->G,slice->Y
open IntKind renaming i64->A
theorem ZC(s k):(s.get! k).toNat=bt s k:=by unfold bt;congr 1;show s.data[k]! =_;rw[getElem!_def];cases s.data[k]? <;>rfl
theorem Oh(s k)(h:s.size<=k):bt s k=0:=by
 unfold bt;have:s.data[k]? =Z:=by simp;exact h
 rw[this];rfl
theorem LN(s p k):((decide (p+k<s.size) && (bt s (p+k) / 64==2))=true)↔(128<=bt s (p+k)/\bt s (p+k)<=191):=by
 have b:=Pn s (p+k);simp only[Bool.and_eq_true,jN,beq_iff_eq];constructor
 .rintro⟨_,h⟩;omega
 .intro h;refine⟨?_,by omega⟩;by_cases a:p+k<s.size
  .exact a
  .have:=Oh s (p+k) (by omega);omega
theorem Vh(c:Nat):Utf8.valid (c:Int)=true↔(c<55296\/(57344<=c/\c<=1114111)):=by unfold Utf8.valid;simp only[Bool.or_eq_true,Bool.and_eq_true,jN];omega
theorem J8(s p):Utf8.decode s p=
 (if bt s p<128 then(bt s p,1)
  else if bt s p / 32=6/\(128<=bt s (p+1)/\bt s (p+1)<=191)then
   (if 128<=bt s p % 32*64+bt s (p+1) % 64 then(bt s p % 32*64+bt s (p+1) % 64,2)else(65533,1))
  else if bt s p / 16=14/\(128<=bt s (p+1)/\bt s (p+1)<=191)/\(128<=bt s (p+2)/\bt s (p+2)<=191)then
   (if 2048<=bt s p % 16*4096+bt s (p+1) % 64*64+bt s (p+2) % 64/\(bt s p % 16*4096+bt s (p+1) % 64*64+bt s (p+2) % 64<55296\/(57344<=bt s p % 16*4096+bt s (p+1) % 64*64+bt s (p+2) % 64/\bt s p % 16*4096+bt s (p+1) % 64*64+bt s (p+2) % 64<=1114111))
    then(bt s p % 16*4096+bt s (p+1) % 64*64+bt s (p+2) % 64,3)else(65533,1))
  else if bt s p / 8=30/\(128<=bt s (p+1)/\bt s (p+1)<=191)/\(128<=bt s (p+2)/\bt s (p+2)<=191)/\(128<=bt s (p+3)/\bt s (p+3)<=191)then
   (if 65536<=bt s p % 8*262144+bt s (p+1) % 64*4096+bt s (p+2) % 64*64+bt s (p+3) % 64/\(bt s p % 8*262144+bt s (p+1) % 64*4096+bt s (p+2) % 64*64+bt s (p+3) % 64<55296\/(57344<=bt s p % 8*262144+bt s (p+1) % 64*4096+bt s (p+2) % 64*64+bt s (p+3) % 64/\bt s p % 8*262144+bt s (p+1) % 64*4096+bt s (p+2) % 64*64+bt s (p+3) % 64<=1114111))
    then(bt s p % 8*262144+bt s (p+1) % 64*4096+bt s (p+2) % 64*64+bt s (p+3) % 64,4)else(65533,1))
  else(65533,1)):=by
 have a:=LN s p 1;have b:=LN s p 2;have c:=LN s p 3;unfold Utf8.decode;simp only[ZC,iH,Utf8.runeError];generalize d:(decide (p+1<s.size) && (bt s (p+1) / 64==2))=g at*;generalize e:(decide (p+2<s.size) && (bt s (p+2) / 64==2))=h at*;generalize f:(decide (p+3<s.size) && (bt s (p+3) / 64==2))=i at*;clear d e f;simp only[Bool.and_eq_true,beq_iff_eq,jN,a,b,c,ge_iff_le,and_assoc,Vh]
theorem J6{s i n b a}(h:(Es s i n b a).2≠0):∃c,BJ s i a (n-1)=T c/\b<=c/\c<=1114111/\(c<55296\/57344<=c)/\Es s i n b a=(c,n)/\i+n<=s.size:=by
 unfold Es at h⊢;split at h
 .exact jY rfl h
 .rename_i f;rw[jQ f];split at h
  .exact jY rfl h
  .rename_i c e;split at h
   .exact jY rfl h
   .rename_i d;exact⟨c,e,by omega,by omega,by omega,by simp only[jQ d],by omega⟩
theorem Nm{s i a c}(h:BJ s i a 1=T c):128<=bt s (i+1)/\bt s (i+1)<=191/\c=a*64+(bt s (i+1)-128):=by obtain⟨g,b,d,e,f⟩:=Gw (m:=0) h;simp only[BJ,gX]at b;subst b;exact⟨d,e,by rw[f];simp only[iH];simp only[iH]at d;omega⟩
theorem Nn{s i a c}(h:BJ s i a 2=T c):128<=bt s (i+1)/\bt s (i+1)<=191/\128<=bt s (i+2)/\bt s (i+2)<=191/\c=(a*64+(bt s (i+1)-128))*64+(bt s (i+2)-128):=by obtain⟨l,d,b,e,f⟩:=Gw (m:=1) h;obtain⟨g,j,k⟩:=Nm d;exact⟨g,j,b,e,by rw[f,k];simp only[Nat.add_assoc,Nat.reduceAdd]at b⊢;omega⟩
theorem Pr{s i a c}(h:BJ s i a 3=T c):128<=bt s (i+1)/\bt s (i+1)<=191/\128<=bt s (i+2)/\bt s (i+2)<=191/\128<=bt s (i+3)/\bt s (i+3)<=191/\c=((a*64+(bt s (i+1)-128))*64+(bt s (i+2)-128))*64+(bt s (i+3)-128):=by obtain⟨o,d,b,e,f⟩:=Gw (m:=2) h;obtain⟨g,j,k,l,n⟩:=Nn d;exact⟨g,j,k,l,b,e,by rw[f,n];simp only[Nat.add_assoc,Nat.reduceAdd]at b⊢;omega⟩
theorem LM{s i a}(b:128<=bt s (i+1)/\bt s (i+1)<=191):BJ s i a 1=T (a*64+(bt s (i+1)-128)):=by rw[Eu (m:=0) (c:=a) rfl b.1 b.2];simp only[iH];exact congrArg T (by omega)
theorem IJ{s i a}(c:128<=bt s (i+1)/\bt s (i+1)<=191)(b:128<=bt s (i+2)/\bt s (i+2)<=191):BJ s i a 2=T ((a*64+(bt s (i+1)-128))*64+(bt s (i+2)-128)):=by rw[Eu (m:=1) (LM c) b.1 b.2];simp only[Nat.add_assoc,Nat.reduceAdd];exact congrArg T (by omega)
theorem Ol{s i a}(c:128<=bt s (i+1)/\bt s (i+1)<=191)(d:128<=bt s (i+2)/\bt s (i+2)<=191)(b:128<=bt s (i+3)/\bt s (i+3)<=191):BJ s i a 3=T (((a*64+(bt s (i+1)-128))*64+(bt s (i+2)-128))*64+(bt s (i+3)-128)):=by rw[Eu (m:=2) (IJ c d) b.1 b.2];simp only[Nat.add_assoc,Nat.reduceAdd];exact congrArg T (by omega)
theorem Ir{s p}(h:p+3<=s.size):((s.extract p (p+3)).toList=[239,191,189])↔(bt s p=239/\bt s (p+1)=191/\bt s (p+2)=189):=by
 have j:s.data.size=s.size:=rfl;have d:=EM s p (by omega);have f:=EM s (p+1) (by omega);have g:=EM s (p+2) (by omega);have e:(s.extract p (p+3)).toList=[s[p]'(by omega),s[p+1]'(by omega),s[p+2]'(by omega)]:=by
  rw[kC,kB];apply List.ext_getElem?;intro i;have q:∀k,(c:p+k<s.size)->s.data[p+k]? =T (s[p+k]'c):=fun k c=>Array.getElem?_eq_getElem (xs:=s.data) c
  have l:min (p+3) s.size-p=3:=by omega
  rcases i with _|_|_|i
  .have:=q 0 (by omega);simpa using this
  .have:=q 1 (by omega);simpa using this
  .have:=q 2 (by omega);simpa using this
  .simp;omega
 rw[e,d,f,g];simp only[List.cons.injEq,and_true];have u:∀(a b:UInt8),a=b↔a.toNat=b.toNat:=fun a b=>⟨fun h=>by rw[h],fun h=>UInt8.toNat_inj.mp h⟩
 rw[u,u,u];rfl
theorem DY{s p}(a:(A7 s p).2≠0):Utf8.decode s p=A7 s p/\Dr s p (A7 s p).1=false:=by
 have u:=Pn s p;rw[J8];unfold A7 at a⊢;split at a
 .rename_i h;simp only[jR h];exact⟨trivial,Lz s p _ (by omega)⟩
 rename_i h;simp only[jQ h];split at a
 .rename_i f;simp only[jR f];obtain⟨c,b,l,m,n,d,e⟩:=J6 a;obtain⟨i,j,k⟩:=Nm b;rw[d,jR (by omega),jR (by omega)];exact⟨by simp only[jF,and_true];omega,Lz s p _ (by simp only;omega)⟩
 rename_i f;simp only[jQ f];split at a
 .rename_i g;simp only[jR g];obtain⟨c,b,l,m,n,d,e⟩:=J6 a;obtain⟨i,j,k,r,t⟩:=Nn b;rw[d,jQ (by omega),jR (by omega),jR (by omega)];refine⟨by simp only[jF,and_true];omega,?_⟩;simp only;unfold Dr;by_cases q:c=65533
  .have:=(Ir e).2 (by omega);simp[this,e]
  .simp[q]
 rename_i g;simp only[jQ g];split at a
 .rename_i o;simp only[jR o];obtain⟨c,b,l,m,n,d,e⟩:=J6 a;obtain⟨i,j,k,r,t,v,w⟩:=Pr b;rw[d,jQ (by omega),jQ (by omega),jR (by omega),jR (by omega)];refine⟨by simp only[jF,and_true];omega,?_⟩;simp only;have:(c==65533)=false:=by simp;omega
  simp[Dr,this]
 .exact jY rfl a
theorem LP{s p}(f:(A7 s p).2=0):Dr s p (Utf8.decode s p).1=true/\Utf8.decode s p=(65533,1):=by
 have x:=Pn s p;have u:=fun h=>Oh s (p+1) h
 have v:=fun h=>Oh s (p+2) h
 have w:=fun h=>Oh s (p+3) h
 have d:∀n i e c,BJ s p e (n-1)=T c->n≠0->p+n<=s.size->A7 s p=Es s p n i e->¬(c<i\/1114111<c\/(55296<=c/\c<57344))->False:=by intro n i e c m o q r t;rw[r,Lc q m t]at f;exact o f
 have j:Utf8.decode s p=(65533,1):=by
  rw[J8];have b:¬bt s p<128:=fun h=>by simp[A7,h]at f
  rw[jQ b];split
  .rename_i h;split
   .exfalso;refine d 2 128 (bt s p-192) _ (LM h.2) (by decide) ?_ ?_ ?_
    .by_cases a:p+2<=s.size
     .exact a
     .have:=u (by omega);omega
    .unfold A7;rw[jQ b,jR (by omega)]
    .omega
   .rfl
  .split
   .rename_i _ h;split
    .exfalso;refine d 3 2048 (bt s p-224) _ (IJ h.2.1 h.2.2) (by decide) ?_ ?_ ?_
     .by_cases a:p+3<=s.size
      .exact a
      .have:=v (by omega);omega
     .unfold A7;rw[jQ b,jQ (by omega),jR (by omega)]
     .omega
    .rfl
   .split
    .rename_i _ h;split
     .exfalso;refine d 4 65536 (bt s p-240) _ (Ol h.2.1 h.2.2.1 h.2.2.2) (by decide) ?_ ?_ ?_
      .by_cases a:p+4<=s.size
       .exact a
       .have:=w (by omega);omega
      .unfold A7;rw[jQ b,jQ (by omega),jQ (by omega),jR (by omega)]
      .omega
     .rfl
    .rfl
 refine⟨?_,j⟩;rw[j];unfold Dr;by_cases g:p+3<=s.size
 .by_cases l:(s.extract p (p+3)).toList=[239,191,189]
  .exfalso;have k:=(Ir g).1 l;refine d 3 2048 (bt s p-224) _ (IJ (by omega) (by omega)) (by decide) g ?_ ?_
   .unfold A7;rw[jQ (by omega),jQ (by omega),jR (by omega)]
   .omega
  .simp[l]
 .simp[g]
def CW(k:Nat):Nat:=if k=0 then 0 else if k=1 then 1 else if k=2 then 3 else if k<=9 then 2 else 4
def Ao(t:PT):Tk:=⟨t.d9,t.l7,CW t.kind⟩
def Ox(s:ByteArray):Nat ⊕ Sc->Nat ⊕ List Tk
 |.inl q=>.inl q
 |.inr x=>.inr ((Dj s s.size x).cV.map Ao)
theorem Jz(r:Nat):GI (r:Int)=Kg r:=by
 unfold GI Kg;have c:decide ((97:Int)<=r)=decide (97<=r):=decide_eq_decide.mpr (by omega);have d:decide ((r:Int)<=122)=decide (r<=122):=decide_eq_decide.mpr (by omega);have e:decide ((224:Int)<=r)=decide (224<=r):=decide_eq_decide.mpr (by omega);have f:decide ((r:Int)<=255)=decide (r<=255):=decide_eq_decide.mpr (by omega);have g:((r:Int) !=247)=(r !=247):=by
  by_cases h:r=247
  .subst h;rfl
  .have a:((r:Int) !=247)=true:=by simp;omega
   have b:(r !=247)=true:=by simp[h]
   rw[a,b]
 rw[c,d,e,f,g]
theorem Kp(r:Nat):Hg (r:Int)=true↔(r=40\/r=41\/r=123\/r=125\/r=59\/r=61\/r=38\/r=42\/r=64\/r=46\/r=63):=by unfold Hg;simp only[Bool.or_eq_true,beq_iff_eq];omega
theorem RI{r:Nat}(h:Hg (r:Int)=true):CW (BZ r)=4/\BZ r≠0:=by rcases(Kp r).1 h with h|h|h|h|h|h|h|h|h|h|h<;>subst h<;>decide
theorem Qd{r}(h:48<=r/\r<=51):CW (BZ r)=3/\BZ r≠0:=by
 have:r=48\/r=49\/r=50\/r=51:=by omega
 rcases this with h|h|h|h<;>subst h<;>decide
theorem RH{r:Nat}(a:¬Hg (r:Int)=true)(b:¬(48<=r/\r<=51)):BZ r=0:=by rw[Kp]at a;unfold BZ;simp only[not_or]at a;rw[jQ (by omega)];simp[a]
theorem Sz(l):CW (Ej l)=if Vs l=true then 2 else 1:=by
 unfold Ej Vs;simp only[Bool.or_eq_true,beq_iff_eq];by_cases a:l=[102,110]
 .simp[a,CW]
 by_cases b:l=[118,97,114]
 .simp[b,CW]
 by_cases c:l=[110,101,119]
 .simp[c,CW]
 by_cases d:l=[114,101,116,117,114,110]
 .simp[d,CW]
 by_cases e:l=[105,102]
 .simp[e,CW]
 by_cases f:l=[101,108,115,101]
 .simp[f,CW]
 by_cases g:l=[119,104,105,108,101]
 .simp[g,CW]
 simp[a,b,c,d,e,f,g,CW]
theorem Yw{l}(h:Vs l=true):l.length<=6:=by unfold Vs at h;simp only[Bool.or_eq_true,beq_iff_eq]at h;rcases h with(((((h|h)|h)|h)|h)|h)|h<;>subst h<;>decide
theorem DH{s e x}(h:x.cN=0):Dj s e x=x:=by unfold Dj;rw[jQ (by omega)];cases x;simp only at h;subst h;rfl
theorem DJ{s p x}(h:(A7 s p).2=0):AQ s p (Utf8.decode s p).1 x=(x,p,false):=by simp[AQ,(LP h).1]
theorem Xf(s):∀(n p f g:Nat) (x:Sc),s.size-p<=n->s.size-p<=f->s.size-p<=g->x.rem=true->
 ((Gd s g p).2=false->AF s f p x=.inl (Gd s g p).1)/\
 ((Gd s g p).2=true->∃d,s.size-(Gd s g p).1<=d/\AF s f p x=AF s d (Gd s g p).1 x/\((Gd s g p).1<s.size->bt s (Gd s g p).1=10)):=by
 intro n;induction n with
 |zero=> intro p f g x v c k _;rw[Ld (by omega)];exact⟨fun h=>by simp at h,fun _=>⟨f,c,rfl,fun h=>by omega⟩⟩
 |succ n w=>
  intro p f g x v c k i;by_cases a:p<s.size/\bt s p≠10
  .by_cases b:(A7 s p).2=0
   .rw[SP k a.1 a.2 b];refine⟨fun _=>?_,fun h=>by simp at h⟩;rw[EJ c a.1 (by rw[DJ b]),DJ b]
   .obtain⟨r,u,q⟩:=Oj k a.1 a.2 b;obtain⟨j,t⟩:=DY b;have e:(A7 s p).1≠10:=fun h=>by have:=Ji b (by omega);omega
    have o:AQ s p (Utf8.decode s p).1 x=(x,0,true):=by rw[j];simp only[AQ,t,i];cases x;simp only at i;subst i;simp[e]
    obtain⟨d,m,l⟩:=DG (x:=x) c a.1 (by rw[o]);rw[o,j]at l;rw[j]at m;have:=w (p+(A7 s p).2) d r x (by omega) m u i;rw[q,l];exact this
  .rw[Ld a];exact⟨fun h=>by simp at h,fun _=>⟨f,c,rfl,fun h=>by
    by_cases e:bt s p=10
    .exact e
    .exact jY ⟨h,e⟩ a⟩⟩
theorem Xh(s):∀(n p f g:Nat) (x:Sc),s.size-p<=n->s.size-p<=f->s.size-p<=g->x.rem=false->0<x.cN->x.cN<=8->
 (8<(DA s g p x.cN).2->AF s f p x=.inl x.start)/\
 ((DA s g p x.cN).2<=8->∃d,s.size-(DA s g p x.cN).1<=d/\AF s f p x=AF s d (DA s g p x.cN).1 ⟨x.cV,false,x.start,(DA s g p x.cN).2⟩/\
   ¬((DA s g p x.cN).1<s.size/\(A7 s (DA s g p x.cN).1).2≠0/\GI (A7 s (DA s g p x.cN).1).1=true)):=by
 intro n;induction n with
 |zero=> intro p f g x H b v a C E;rw[JR (by omega)];refine⟨fun h=>by simp only at h;omega,fun _=>⟨f,b,?_,fun h=>by simp only at h;omega⟩⟩;cases x;simp only at a;subst a;rfl
 |succ n I=>
  intro p f g x H b v a C E;by_cases l:p<s.size/\(A7 s p).2≠0/\GI (A7 s p).1=true
  .obtain⟨j,w,i⟩:=l;obtain⟨q,F,m⟩:=OT (k:=x.cN) v j w i;obtain⟨e,t⟩:=DY w;have K:=Ff s p j;rw[Jz]at i;by_cases r:8<x.cN+1
   .have L:=IY s q (p+(A7 s p).2) (x.cN+1) (by omega);rw[m];refine⟨fun _=>?_,fun h=>by omega⟩;have c:AQ s p (Utf8.decode s p).1 x=(Cy p x,x.start,false):=by rw[e];simp only[AQ,t,a,i,jR r];simp only[Cy,jQ (by omega:¬x.cN=0)];simp
    rw[EJ b j (by rw[c]),c]
   .have c:AQ s p (Utf8.decode s p).1 x=(Cy p x,0,true):=by rw[e];simp only[AQ,t,a,i,jQ r];simp
    obtain⟨d,u,o⟩:=DG (x:=x) b j (by rw[c])
    rw[c,e]at o
    rw[e]at u
    have:=I (p+(A7 s p).2) d q (Cy p x) (by omega) u F (by simp[Cy,a]) (by simp[Cy]) (by simp only[Cy];omega)
    rw[m,o]
    have y:(Cy p x).cN=x.cN+1:=rfl
    have z:(Cy p x).start=x.start:=by simp only[Cy,jQ (by omega:¬x.cN=0)]
    have B:(Cy p x).cV=x.cV:=rfl
    rw[y,z,B]at this
    exact this
  .rw[JR l];refine⟨fun h=>by simp only at h;omega,fun _=>⟨f,b,?_,l⟩⟩;cases x;simp only at a;subst a;rfl
theorem Xg(s e f y)(m:e<=s.size)(n:s.size-e<=f)(l:y.rem=false)(i:¬(e<s.size/\(A7 s e).2≠0/\GI (A7 s e).1=true)):
 Ox s (AF s f e y)=Ox s (AF s f e (Dj s e y)):=by
 by_cases a:e<s.size
 .have d:(AQ s e (Utf8.decode s e).1 y).2=(AQ s e (Utf8.decode s e).1 (Dj s e y)).2/\((AQ s e (Utf8.decode s e).1 y).2.2=true->AQ s e (Utf8.decode s e).1 y=AQ s e (Utf8.decode s e).1 (Dj s e y)):=by
   by_cases b:(A7 s e).2=0
   .rw[DJ b,DJ b];exact⟨rfl,fun h=>by simp at h⟩
   .obtain⟨j,g⟩:=DY b;have k:Kg (A7 s e).1=false:=by
     have:¬GI (A7 s e).1=true:=fun h=>i ⟨a,b,h⟩
     rw[Jz]at this;simpa using this
    have c:AQ s e (Utf8.decode s e).1 y=AQ s e (Utf8.decode s e).1 (Dj s e y):=by rw[j];simp only[AQ,g,l,k,VY,DH (Eg s e y)];simp
    exact⟨by rw[c],fun _=>c⟩
  cases f with
  |zero=>omega
  |succ f=>
   simp only[AF,jR a];rw[<-d.1];split
   .rename_i h;rw[<-d.2 h]
   .rfl
 .have:e=s.size:=by omega
  subst this;rw[D7 a,D7 a];simp only[Ox,DH (Eg s s.size y)]
theorem Ws(s):∀(n p f g:Nat) (x:Sc),s.size-p<=n->s.size-p<=f->s.size-p<=g->x.rem=false->x.cN=0->
 BD s g p (x.cV.map Ao)=Ox s (AF s f p x):=by
 intro n;induction n with
 |zero=> intro p f g x hn E v B m;rw[Gy (by omega),D7 (by omega)];simp only[Ox,DH m]
 |succ n U=>
  intro p f g x hn E v B m;by_cases a:p<s.size
  case neg=> rw[Gy a,D7 a];simp only[Ox,DH m]
  by_cases b:(A7 s p).2=0
  .rw[DC (p:=p) v a (by simp[Bb,b]),EJ E a (by rw[DJ b]),DJ b];rfl
  obtain⟨l,N⟩:=DY b;have b7:=Ff s p a;by_cases i:(A7 s p).1=32\/(A7 s p).1=9\/(A7 s p).1=10
  .obtain⟨_,u⟩:=Ji b (by omega);obtain⟨M,F,z⟩:=CO (acc:=x.cV.map Ao) (t:=Z) (j:=p+1) v a (by simp only[Bb,jQ b,jR i]);have y:Kg (A7 s p).1=false:=by rcases i with h|h|h<;>rw[h]<;>decide
   have d:AQ s p (Utf8.decode s p).1 x=(x,0,true):=by rw[l];simp only[AQ,N,B,y,DH m,DR,jR i];simp
   obtain⟨C,r,c⟩:=DG (x:=x) E a (by rw[d]);rw[d,l,u]at c;rw[l,u]at r;rw[z,c];simp only[Option.toList,iZ];exact U (p+1) C M x (by omega) r F B m
  by_cases o:(A7 s p).1=35
  .obtain⟨b6,u⟩:=Ji b (by omega);have y:Kg (A7 s p).1=false:=by rw[o];decide
   have d:AQ s p (Utf8.decode s p).1 x=(⟨x.cV,true,x.start,x.cN⟩,0,true):=by rw[l];simp only[AQ,N,B,y,DH m,DR,jQ i,jR o];simp
   obtain⟨C,r,c⟩:=DG (x:=x) E a (by rw[d]);rw[d,l,u]at c;rw[l,u]at r;obtain⟨k,H,L⟩:=Oj (f:=s.size) (by omega) a (by omega) b;rw[u]at H L;have hw:=LI s k (p+1) (by omega);obtain⟨I,K⟩:=Xf s n (p+1) C k ⟨x.cV,true,x.start,x.cN⟩ (by omega) r H rfl;by_cases a2:(Gd s k (p+1)).2=true
   .obtain⟨f2,X,V,a5⟩:=K a2;obtain⟨M,F,z⟩:=CO (acc:=x.cV.map Ao) (t:=Z) (j:=(Gd s k (p+1)).1) v a (by simp only[Bb,jQ b,jQ i,jR o,L,jR a2]);rw[z,c,V];simp only[Option.toList,iZ];generalize (Gd s k (p+1)).1=q at*;by_cases R:q<s.size
    .have a5:=a5 R;have P:A7 s q=(10,1):=by unfold A7;rw[jR (by omega),a5]
     have b5:(A7 s q).2≠0:=by rw[P];decide
     obtain⟨a3,b0⟩:=DY b5;have a7:AQ s q (Utf8.decode s q).1 ⟨x.cV,true,x.start,x.cN⟩=(⟨x.cV,false,x.start,x.cN⟩,0,true):=by rw[a3];simp only[AQ,b0];simp[P]
     obtain⟨f3,a6,e3⟩:=DG (x:=⟨x.cV,true,x.start,x.cN⟩) X R (by rw[a7]);obtain⟨g3,b1,a9⟩:=CO (acc:=x.cV.map Ao) (t:=Z) (j:=q+1) F R (by simp[Bb,P]);rw[a9,e3,a7,a3,P];rw[a3,P]at a6;simp only[Option.toList,iZ];exact U (q+1) f3 g3 ⟨x.cV,false,x.start,x.cN⟩ (by omega) a6 b1 rfl m
    .rw[Gy R,D7 R];simp only[Ox];rw[DH (by exact m)]
   .have a1:(Gd s k (p+1)).2=false:=by simpa using a2
    rw[c,I a1,DC (p:=(Gd s k (p+1)).1) v a (by simp only[Bb,jQ b,jQ i,jR o,L,jQ a2])];rfl
  by_cases w:GI (A7 s p).1=true
  .have y:=w;rw[Jz]at y;have d:AQ s p (Utf8.decode s p).1 x=(⟨x.cV,false,p,1⟩,0,true):=by rw[l];simp only[AQ,N,B,y,Cy,m];simp
   obtain⟨C,r,c⟩:=DG (x:=x) E a (by rw[d]);rw[d,l]at c;rw[l]at r;obtain⟨k,H,L⟩:=OT (f:=s.size) (k:=0) (by omega) a b w;have hw:=IY s k (p+(A7 s p).2) (0+1) (by omega);have b8:=IY s s.size p 0 (by omega);obtain⟨I,K⟩:=Xh s n (p+(A7 s p).2) C k ⟨x.cV,false,p,1⟩ (by omega) r H rfl Nat.one_pos (by simp only;omega);rw[<-L]at hw;simp only at I K;rw[show(1:Nat)=0+1 from rfl,<-L]at I K;have b2:Vs (s.extract p (DA s s.size p 0).1).toList=true->(DA s s.size p 0).2<=8:=by intro h;have:=Yw h;rw[kC]at this;simp at this;have e:s.data.size=s.size:=rfl;omega
   by_cases h8:8<(DA s s.size p 0).2
   .rw[c,I h8,DC (p:=p) v a (by simp only[Bb,jQ b,jQ i,jQ o,jR w];rw[jQ (fun h=>by have:=b2 h;omega),jR h8])]
    rfl
   .obtain⟨f2,X,V,a1⟩:=K (by omega);rw[c,V];rw[Xg s _ f2 _ hw.2.1 X rfl a1];have hm:0<(DA s s.size p 0).2:=by omega
    have hE:Dj s (DA s s.size p 0).1 ⟨x.cV,false,p,(DA s s.size p 0).2⟩=⟨x.cV++[⟨Ej (s.extract p (DA s s.size p 0).1).toList,s.extract p (DA s s.size p 0).1,p⟩],false,p,0⟩:=by simp only[Dj,jR hm]
    rw[hE];have a0:Bb s p=.inr (T (Ao ⟨Ej (s.extract p (DA s s.size p 0).1).toList,s.extract p (DA s s.size p 0).1,p⟩),(DA s s.size p 0).1):=by
     simp only[Bb,jQ b,jQ i,jQ o,jR w,Ao,Sz];by_cases H:Vs (s.extract p (DA s s.size p 0).1).toList=true
     .simp only[jR H]
     .simp only[jQ H,jQ h8]
    obtain⟨M,F,z⟩:=CO (acc:=x.cV.map Ao) v a a0;rw[z];have b4:s.size-(DA s s.size p 0).1<=n:=by clear I K U c V a1 z a0;omega
    have:=U (DA s s.size p 0).1 f2 M ⟨x.cV++[⟨Ej (s.extract p (DA s s.size p 0).1).toList,s.extract p (DA s s.size p 0).1,p⟩],false,p,0⟩ b4 X F rfl rfl;rw[<-this];simp
  have y:Kg (A7 s p).1=false:=by rw[Jz]at w;simpa using w
  have a8:BZ (A7 s p).1≠0->(A7 s p).1<128->Bb s p=.inr (T (Ao ⟨BZ (A7 s p).1,s.extract p (p+1),p⟩),p+1)->BD s g p (x.cV.map Ao)=Ox s (AF s f p x):=by
   intro a4 b3 a0;obtain⟨_,u⟩:=Ji b b3;have d:AQ s p (Utf8.decode s p).1 x=(⟨x.cV++[⟨BZ (A7 s p).1,s.extract p (p+1),p⟩],x.rem,x.start,x.cN⟩,0,true):=by rw[l];simp only[AQ,N,B,y,DH m,DR,jQ i,jQ o,jQ a4];simp
   obtain⟨C,r,c⟩:=DG (x:=x) E a (by rw[d]);rw[d,l,u]at c;rw[l,u]at r;obtain⟨M,F,z⟩:=CO (acc:=x.cV.map Ao) v a a0;rw[z,c];have:=U (p+1) C M ⟨x.cV++[⟨BZ (A7 s p).1,s.extract p (p+1),p⟩],x.rem,x.start,x.cN⟩ (by omega) r F B m;rw[<-this];simp
  by_cases Q:48<=(A7 s p).1/\(A7 s p).1<=51
  .obtain⟨m1,m2⟩:=Qd Q;exact a8 m2 (by omega) (by simp only[Bb,jQ b,jQ i,jQ o,jQ w,jR Q,Ao,m1])
  by_cases S:Hg (A7 s p).1=true
  .obtain⟨m1,m2⟩:=RI S;exact a8 m2 (by rcases(Kp _).1 S with h|h|h|h|h|h|h|h|h|h|h<;>omega) (by simp only[Bb,jQ b,jQ i,jQ o,jQ w,jQ Q,jR S,Ao,m1])
  .have a4:=RH S Q;have d:AQ s p (Utf8.decode s p).1 x=(x,p,false):=by rw[l];simp only[AQ,N,B,y,DH m,DR,jQ i,jQ o,jR a4];simp
   rw[DC (p:=p) v a (by simp only[Bb,jQ b,jQ i,jQ o,jQ w,jQ Q,jQ S]),EJ E a (by rw[d]),d];rfl
theorem KD(s):BD s s.size 0 []=Ox s (AF s s.size 0 ⟨[],false,0,0⟩):=
 Ws s s.size 0 s.size s.size ⟨[],false,0,0⟩ (by omega) (by omega) (by omega) rfl rfl
def Da(k:Nat):List UInt8:=
 if k=3 then[102,110]else if k=4 then[118,97,114]else if k=5 then[110,101,119]else if k=6 then[114,101,116,117,114,110]else if k=7 then[105,102]else if k=8 then[101,108,115,101]else if k=9 then[119,104,105,108,101]
 else if k=10 then[40]else if k=11 then[41]else if k=12 then[123]else if k=13 then[125]else if k=14 then[59]else if k=15 then[61]else if k=16 then[38]else if k=17 then[42]else if k=18 then[64]else if k=19 then[46]else if k=20 then[63]else[]
def XV(t:PT):Prop:=t.kind<=20/\(3<=t.kind->t.d9.toList=Da t.kind)
theorem PZ:∀a,a<=20->3<=a->∀b,b<=20->3<=b->Da a=Da b->a=b:=by
 intro a e c b f d h;have:∀a b:Fin 21,3<=a.val->3<=b.val->Da a=Da b->a=b:=by decide+kernel
 have:=this ⟨a,by omega⟩ ⟨b,by omega⟩ c d h;exact congrArg Fin.val this
theorem Vn(l):Ej l<=20/\Ej l≠0/\(3<=Ej l->l=Da (Ej l)):=by
 unfold Ej;repeat' split
 all_goals(refine⟨by decide,by decide,fun h=>?_⟩)
 all_goals first|(rename_i e;rw[e];rfl)|omega
theorem Wx(r):BZ r<=20:=by
 unfold BZ;repeat' split
 all_goals decide
theorem Ux{s p}(a:p<s.size)(h:3<=BZ (Utf8.decode s p).1):(s.extract p (p+1)).toList=Da (BZ (Utf8.decode s p).1):=by
 have k:(Utf8.decode s p).1<128:=by
  generalize (Utf8.decode s p).1=r at*;by_cases f:r<128
  .exact f
  .exfalso;unfold BZ at h;rw[jQ (by omega),jQ (by omega),jQ (by omega),jQ (by omega),jQ (by omega),jQ (by omega),jQ (by omega),jQ (by omega),jQ (by omega),jQ (by omega),jQ (by omega),jQ (by omega)]at h;omega
 have g:(s[p]'a).toNat<128:=by
  by_cases d:(s[p]'a).toNat<128
  .exact d
  .have:=(decode_high s p a (by omega)).1;omega
 have e:(s.extract p (p+1)).toList=[s[p]'a]:=by
  rw[kC,kB];have j:p<s.data.size:=a;apply List.ext_getElem?;intro i;rcases i with _|i
  .have:s.data[p]? =T (s[p]'a):=Array.getElem?_eq_getElem j;simpa using this
  .simp;omega
 have b:(Utf8.decode s p).1=(s[p]'a).toNat:=by rw[decode_ascii s p a g]
 rw[b]at h⊢;rw[e];generalize s[p]'a=c at*;have:∀n:Fin 256,3<=BZ n->[UInt8.ofNat n]=Da (BZ n):=by decide+kernel
 have:=this ⟨c.toNat,c.toNat_lt⟩ h;simpa using this
structure Vz(s:ByteArray)(p:Nat)(x:Sc):Prop where
 lit:∀t,t∈x.cV->XV t/\t.kind≠0/\t.d9.size<=s.size
 eP:x.cV.Pairwise (fun a b=>a.l7<b.l7)
 top:∀t,t∈x.cV->t.l7<(if 0<x.cN then x.start else p)
 st:0<x.cN->x.start<p
theorem Vz.more{s p q x}(h:Vz s p x)(c:p<=q):Vz s q x:=
 ⟨h.lit,h.eP,fun t b=>by have:=h.top t b;split at this<;>split<;>omega,fun a=>by have:=h.st a;omega⟩
theorem LQ(s:ByteArray)(a b:Nat):(s.extract a b).size<=s.size:=by
 have:(s.extract a b).data.size<=s.data.size:=by rw[kB];simp;omega
 exact this
theorem Vz.dT{s p x}(h:Vz s p x):Vz s p (Dj s p x):=by
 have d:=h.top;unfold Proofs.YtaningfhibkemaaGreatDoor.Dj;split
 .rename_i e;have f:=h.st e;simp only[jR e]at d;obtain⟨j,k,l⟩:=Vn (s.extract x.start p).toList;refine⟨fun t c=>?_,?_,fun t c=>?_,fun q=>jY q (by simp)⟩
  .rcases iW.1 c with q|q
   .exact h.lit t q
   .rw[iL.1 q];exact⟨⟨j,l⟩,k,LQ _ _ _⟩
  .refine List.pairwise_append.2 ⟨h.eP,by simp,fun a g b i=>?_⟩;rw[iL.1 i];exact d a g
  .simp only[Nat.lt_irrefl,if_false];rcases iW.1 c with q|q
   .have:=d t q;omega
   .rw[iL.1 q];exact f
 .rename_i e;simp only[jQ e]at d;exact⟨h.lit,h.eP,fun t c=>by simp only[Nat.lt_irrefl,if_false];exact d t c,fun q=>jY q (by simp)⟩
theorem Xx{s p x}(u:p<s.size)(h:Vz s p x)(f:(AQ s p (Utf8.decode s p).1 x).2.2=true):Vz s (p+1) (AQ s p (Utf8.decode s p).1 x).1:=by
 unfold AQ at f⊢;split
 .rename_i c;simp[c]at f
 .split
  .have:=h.more (Nat.le_succ p);exact⟨this.lit,this.eP,this.top,this.st⟩
  .split
   .rename_i c m l;simp only[c,m,l,if_true]at f;split
    .rename_i n;simp[n]at f
    .refine⟨h.lit,h.eP,fun t e=>?_,fun _=>?_⟩
     .have:=h.top t e;simp only[Cy,Nat.zero_lt_succ,if_true];by_cases k:x.cN=0
      .simp only[k,if_true];rw[k]at this;exact this
      .simp only[jQ k];rwa [jR (by omega)]at this
     .simp only[Cy];split
      .omega
      .have:=h.st (by omega);omega
   .rename_i c m l;simp only[c,m,l]at f;have d:=h.dT;have j:=Eg s p x;have i:=d.top;rw[j]at i;simp only[Nat.lt_irrefl,if_false]at i;unfold DR;split
    .exact d.more (by omega)
    .split
     .have:=d.more (Nat.le_succ p);exact⟨this.lit,this.eP,this.top,this.st⟩
     .split
      .exact d.more (by omega)
      .rename_i r;refine⟨fun t e=>?_,?_,fun t e=>?_,fun q=>?_⟩
       .rcases iW.1 e with q|q
        .exact d.lit t q
        .rw[iL.1 q];exact⟨⟨Wx _,fun g=>Ux u g⟩,r,LQ _ _ _⟩
       .refine List.pairwise_append.2 ⟨d.eP,by simp,fun a o b c=>?_⟩;rw[iL.1 c];exact i a o
       .simp only[j,Nat.lt_irrefl,if_false];rcases iW.1 e with q|q
        .have:=i t q;omega
        .rw[iL.1 q];exact Nat.lt_succ_self p
       .simp only[j]at q;omega
theorem Uc(s p)(a:p<s.size):p+(Utf8.decode s p).2<=s.size:=by
 by_cases b:(A7 s p).2=0
 .rw[(LP b).2];exact a
 .rw[(DY b).1];exact(Ff s p a).1
theorem My(s:ByteArray):∀(f p:Nat) (x y:Sc),p<=s.size->Vz s p x->AF s f p x=.inr y->Vz s s.size y
 |0,p,x,y,b,h,e=>by have:=Sum.inr.inj e;subst this;exact h.more b
 |f+1,p,x,y,b,h,e=>by
  unfold AF at e;split at e
  .rename_i a;have d:=Gx s p a;split at e
   .rename_i c;exact My s f _ _ y (Uc s p a) ((Xx a h c).more (by omega)) e
   .cases e
  .have:=Sum.inr.inj e;subst this;exact h.more b
structure TksOk(N:Nat)(l:List PT):Prop where
 pos:0<l.length
 lit:∀t,t∈l->XV t
 len:∀t,t∈l->t.d9.size<=N/\t.l7<=N
 eP:l.Pairwise (fun a b=>a.l7<b.l7)
 last:∃t,l[l.length-1]? =T t/\t.kind=0/\t.d9=ByteArray.empty/\t.l7=N
 d8:∀i t,i<l.length-1->l[i]? =T t->t.kind≠0
theorem Jn(s:ByteArray):s.extract s.size s.size=ByteArray.empty:=by
 apply ByteArray.ext;rw[kB];have:s.data.size=s.size:=rfl;apply Array.ext
 .simp
 .intro i a b;simp at a
theorem Se{s y}(h:AF s s.size 0 ⟨[],false,0,0⟩=.inr y):TksOk s.size (Av s y):=by
 have n:Vz s s.size y:=My s _ 0 _ _ (iF _) ⟨by simp,by simp,by simp,by simp⟩ h;have c:=n.dT;have k:=Eg s s.size y;have d:=c.top;rw[k]at d;simp only[Nat.lt_irrefl,if_false]at d;unfold Av;rw[Jn];refine⟨by simp,fun t e=>?_,fun t e=>?_,?_,?_,fun i t j f=>?_⟩
 .rcases iW.1 e with q|q
  .exact(c.lit t q).1
  .rw[iL.1 q];exact⟨iF _,fun g=>jY (show 3<=0 from g) (by decide)⟩
 .rcases iW.1 e with q|q
  .exact⟨(c.lit t q).2.2,Nat.le_of_lt (d t q)⟩
  .rw[iL.1 q];exact⟨iF _,gS _⟩
 .refine List.pairwise_append.2 ⟨c.eP,by simp,fun a l b m=>?_⟩;rw[iL.1 m];exact d a l
 .exact⟨⟨0,ByteArray.empty,s.size⟩,by simp,rfl,rfl,rfl⟩
 .simp only[gW,iM,Nat.add_sub_cancel]at j;rw[jT j]at f;exact(c.lit t (List.mem_of_getElem? f)).2.1
theorem Bs(l i):tokAt (l.map Ao) i=Ao (Aj l i):=by unfold tokAt Aj;rw[iV];cases l[i]? <;>rfl
theorem G8{l i}(h:i<l.length):Aj l i∈l:=by unfold Aj;rw[gV h];exact iA h
theorem TksOk.end_{N l}(h:TksOk N l):(Aj l (l.length-1)).kind=0:=by obtain⟨t,a,b,_⟩:=h.last;unfold Aj;rw[a];exact b
theorem Ie(k):CW k=1↔k=1:=by
 unfold CW;repeat' split
 all_goals omega
theorem QL(k):CW k=3↔k=2:=by
 unfold CW;repeat' split
 all_goals omega
theorem Sm(k):CW k=0↔k=0:=by
 unfold CW;repeat' split
 all_goals omega
theorem MB(k):(CW k=2\/CW k=4)↔3<=k:=by
 unfold CW;repeat' split
 all_goals omega
theorem Ut:∀k,3<=k->k<=20->Da k≠[]:=by
 intro k a b;have:∀k:Fin 21,3<=k.val->Da k≠[]:=by decide+kernel
 exact this ⟨k,by omega⟩ a
theorem PN{t}(h:XV t){k}(b:3<=k)(a:k<=20):PM (Ao t) (Da k)=true↔t.kind=k:=by
 unfold PM Ao;simp only[Bool.and_eq_true,beq_iff_eq,Bool.or_eq_true];rw[MB];constructor
 .rintro⟨e,g⟩;exact PZ _ h.1 g _ a b ((h.2 g).symm.trans e)
 .intro e;exact⟨by rw[<-e];exact h.2 (by omega),by omega⟩
theorem SD{t}(h:XV t){k}(b:3<=k)(a:k<=20):AG (Ao t)=Da k↔t.kind=k:=by
 unfold AG Ao;simp only[MB];split
 .rename_i g;exact⟨fun e=>PZ _ h.1 g _ a b ((h.2 g).symm.trans e),fun e=>by rw[<-e];exact h.2 g⟩
 .rename_i g;exact⟨fun e=>jY e.symm (Ut k b a),fun e=>by omega⟩
def Lr(n:Nat)(x:PS)(y:St):Prop:=x.cR=false/\y.cL=Z/\y.cJ=x.next/\x.next<n
def N8(n:Nat)(x:PS)(p:Nat):Prop:=x.cR=true/\x.dH=p/\x.next=n-1
def Al(n:Nat)(x:PS)(y:St):Prop:=Lr n x y\/∃p,N8 n x p/\y.cL=T p
section
variable{N:Nat}{j:List PT}(H:TksOk N j)
include H
theorem E9{k:Nat}(f:k≠0){x:PS}{p:Nat}(h:N8 j.length x p):N8 j.length (Af j j.length k x) p:=by obtain⟨b,c,d⟩:=h;have a:=H.end_;unfold Af;rw[d,a,jQ (fun e=>f e.symm)];exact⟨rfl,by simp[It,b,c],rfl⟩
theorem Mn{x:PS}{p:Nat}(h:N8 j.length x p)(f:Nat)(a:List PT):DO j f x a=(a,x):=
 Hx (by rw[h.2.2,H.end_];decide)
theorem Mm{x:PS}{p:Nat}(h:N8 j.length x p):N8 j.length (Bt j j.length x).2 p:=by unfold Bt;have a:=E9 H (k:=10) (by decide) h;simp only[Mn H a];exact E9 H (by decide) a
theorem WF{x:PS}{p:Nat}(h:N8 j.length x p):N8 j.length (Cu j j.length x).2 p:=by
 have a:=fun(k:Nat) (b:k≠0) {x:PS} (h:N8 j.length x p)=>E9 H b h
 unfold Cu;split
 .exact a 5 (by decide) h
 .split
  .unfold Fe;simp only;split
   .exact a 2 (by decide) (a 19 (by decide) (a 1 (by decide) (a 16 (by decide) h)))
   .exact a 1 (by decide) (a 16 (by decide) h)
  .split
   .exact a 1 (by decide) (a 17 (by decide) h)
   .split
    .exact a 1 (by decide) (a 18 (by decide) h)
    .split
     .exact Mm H (a 11 (by decide) (a 1 (by decide) (a 17 (by decide) (a 10 (by decide) h))))
     .split
      .exact Mm H (a 1 (by decide) h)
      .exact a 1 (by decide) h
omit H in
theorem DF(a L){y p}(h:y.cL=T p):(Aw a L y).cL=T p:=by unfold Aw Fi;simp[Bu,h,FI]
omit H in
theorem JG(a k){y p}(h:y.cL=T p):(Bo a k y).2.cL=T p:=by unfold Bo Dl;simp[h,FI]
omit H in
theorem Qy(c f b p a):DN c f b (T p) a=(a,b,T p):=Gn (by simp)
omit H in
theorem Ia(a){y p}(h:y.cL=T p):(Cb a y).2.cL=T p:=by unfold Cb CU;simp only[h,Qy];simp[Fi,Bu,FI]
omit H in
theorem Qz(b){y p}(s)(h:y.cL=T p):(Dd b y s).2.cL=T p:=by
 have E:=fun(L:List UInt8) {y:St} (h:y.cL=T p)=>DF b L h
 have a:=fun(k:Nat) {y:St} (h:y.cL=T p)=>JG b k h
 have I:=fun{y:St} (h:y.cL=T p)=>Ia b h
 unfold Dd;split
 .exact E _ h
 .split
  .simp only;split
   .exact a _ (E _ (a _ (E _ h)))
   .exact a _ (E _ h)
  .split
   .exact a _ (E _ h)
   .split
    .exact a _ (E _ h)
    .split
     .exact I (y:=⟨_,_,_,_⟩) (E _ (E _ (a _ (E _ (E _ h)))))
     .simp only;split
      .exact I (E _ (a _ h))
      .exact a _ h
theorem IF{k:Nat}(l:3<=k)(i:k<=20){x:PS}{y:St}(h:Al j.length x y):Al j.length (Af j j.length k x) (Aw (j.map Ao) (Da k) y):=by
 rcases h with⟨d,b,m,n⟩|⟨p,o,r⟩
 .have q:=H.lit _ (G8 n);have f:=PN q l i;have g:=H.end_;unfold Af Aw Fi;rw[m,Bs];by_cases a:(Aj j x.next).kind=k
  .have c:Bu y.cL (Ao (Aj j x.next)) (Da k)=true:=by simp[Bu,b,f.2 a]
   rw[jR a,jQ (by omega),jR c];have s:x.next≠j.length-1:=fun e=>by rw[e,g]at a;omega
   exact .inl ⟨d,b,rfl,by simp only;omega⟩
  .have c:¬Bu y.cL (Ao (Aj j x.next)) (Da k)=true:=by simp only[Bu,Bool.and_eq_true,not_and];intro _ e;exact a (f.1 e)
   rw[jQ a,jQ c]
   exact .inr ⟨(Aj j x.next).l7,⟨rfl,by simp[It,d],rfl⟩,by simp[FI,b,Ao]⟩
 .exact .inr ⟨p,E9 H (by omega) o,DF _ _ r⟩
theorem Od{k so:Nat}(n:(k=1/\so=1)\/(k=2/\so=3)){x:PS}{y:St}(h:Al j.length x y):Al j.length (Af j j.length k x) (Bo (j.map Ao) so y).2/\(Bo (j.map Ao) so y).1=Ao (AH j k x):=by
 rcases h with⟨d,b,m,o⟩|⟨p,f,i⟩
 .have g:CW (Aj j x.next).kind=so↔(Aj j x.next).kind=k:=by
   rcases n with⟨rfl,rfl⟩|⟨rfl,rfl⟩
   .exact Ie _
   .exact QL _
  have l:=H.end_
  unfold Af Bo Dl AH
  rw[m,Bs]
  by_cases a:(Aj j x.next).kind=k
  .have c:y.cL.isNone=true/\(Ao (Aj j x.next)).sort=so:=⟨by simp[b],g.2 a⟩
   simp only[jR a,jR c];rw[jQ (by omega)];have q:x.next≠j.length-1:=fun e=>by rw[e,l]at a;omega
   exact⟨.inl ⟨d,b,rfl,by simp only;omega⟩,trivial⟩
  .have c:¬(y.cL.isNone=true/\(Ao (Aj j x.next)).sort=so):=fun e=>a (g.1 e.2)
   simp only[jQ a,jQ c];exact⟨.inr ⟨(Aj j x.next).l7,⟨rfl,by simp[It,d],rfl⟩,by simp[FI,b,Ao]⟩,rfl⟩
 .refine⟨.inr ⟨p,E9 H (by omega) f,JG _ _ i⟩,?_⟩;unfold Bo Dl AH;rw[jQ (by simp[i]),jQ (by rw[f.2.2,H.end_];omega)];rfl
theorem Ho{k:Nat}(c:3<=k)(b:k<=20){x:PS}{y:St}(h:Al j.length x y):Bu y.cL (tokAt (j.map Ao) y.cJ) (Da k)=true↔(Aj j x.next).kind=k:=by
 rcases h with⟨i,a,d,e⟩|⟨p,f,g⟩
 .rw[d,Bs,<-PN (H.lit _ (G8 e)) c b];simp[Bu,a]
 .rw[f.2.2,H.end_];simp[Bu,g];omega
theorem Hs{k:Nat}(b:3<=k)(a:k<=20){x:PS}{y:St}(h:Lr j.length x y):AG (tokAt (j.map Ao) y.cJ)=Da k↔(Aj j x.next).kind=k:=by obtain⟨e,f,c,d⟩:=h;rw[c,Bs];exact SD (H.lit _ (G8 d)) b a
theorem Wi:∀(m f g:Nat) (x:PS) (a:List PT),j.length-1-x.next<=m->j.length-1-x.next<=f->j.length-1-x.next<=g->x.next<j.length->
 DN (j.map Ao) g x.next Z (a.map Ao)=((DO j f x a).1.map Ao,(DO j f x a).2.next,Z)/\(DO j f x a).2.cR=x.cR/\(DO j f x a).2.dH=x.dH/\(DO j f x a).2.next<j.length:=by
 intro m;induction m with
 |zero=>
  intro f g x a s h i b;have e:x.next=j.length-1:=by omega
  have d:=H.end_;rw[<-e]at d;rw[Hx (by rw[d];decide),Gn (by rw[Bs];simp[Ao,d,CW])];exact⟨rfl,rfl,rfl,b⟩
 |succ m v=>
  intro f g x a s h i b;by_cases c:(Aj j x.next).kind=1
  .obtain⟨k,q,l,n⟩:=Tm (acc:=a) h b H.end_ c;have u:(tokAt (j.map Ao) ((j.length)-1)).sort=0:=by rw[Bs];simp[Ao,H.end_,CW]
   have t:(tokAt (j.map Ao) x.next).sort=1:=by rw[Bs];exact(Ie _).2 c
   obtain⟨_,r,o,p⟩:=Ti (acc:=a.map Ao) i b u ⟨rfl,t⟩;rw[n,p];have:=v q r ⟨x.next+1,x.cR,x.dH⟩ (a++[Aj j x.next]) (by simp only;omega) l o k;rw[jZ,List.map_singleton,<-Bs]at this;exact this
  .rw[Hx c,Gn (by rw[Bs];intro e;exact c ((Ie _).1 e.2))];exact⟨rfl,rfl,rfl,b⟩
theorem Oe{x:PS}{y:St}(h:Al j.length x y):Al j.length (Af j j.length 11 (DO j j.length x []).2) (Cb (j.map Ao) y).2/\(Cb (j.map Ao) y).1=(DO j j.length x []).1.map Ao:=by
 rcases h with⟨i,l,m,n⟩|⟨p,f,g⟩
 .obtain⟨a,b,c,d⟩:=Wi H j.length j.length j.length x [] (by omega) (by omega) (by omega) n;have e:=IF H (k:=11) (by decide) (by decide) (x:=(DO j j.length x []).2) (y:=⟨(DO j j.length x []).2.next,Z,y.pl,y.ca⟩) (.inl ⟨by rw[b,i],rfl,rfl,d⟩);unfold Cb CU;rw[m,l];simp only[iT];rw[List.map_nil]at a;rw[a];exact⟨e,rfl⟩
 .refine⟨.inr ⟨p,?_,Ia _ g⟩,?_⟩
  .rw[Mn H f];exact E9 H (by decide) f
  .rw[Mn H f];unfold Cb CU;simp only[g,Qy];rfl
end
def DB(k:Nat):Nat:=if k=4 then 6 else if k=5 then 5 else k+1
structure VC(v:VS)(u s:FS):Prop where
 kind:u.kind=DB v.kind
 q:u.q=Ao v.sr
 args:u.args=v.args.map Ao
 field:v.kind=3->u.field=v.field
 p:u.p=s.p
 cT:u.cT=s.cT
 other:u.other=s.other
 br:u.br=s.br
 dR:u.dR=s.dR
 dD:u.dD=s.dD
theorem Ud{t}(h:Zm t)(f:t.kind=2)(a):Pt t.d9.toList a 4=J9 t:=by
 have e:∀c:UInt8,(⟨#[c]⟩:ByteArray).toList=[c]:=fun c=>by rw[kC]
 rcases h f with q|q|q|q<;>(unfold J9;rw[q,e];simp[Pt])
section
variable{N:Nat}{b:List PT}(H:TksOk N b)(d:DigOk b)
include H d
omit H d in
theorem Gq{k x}(h:(Af b b.length k x).cR=false):(Aj b x.next).kind=k/\x.cR=false/\AH b k x=Aj b x.next:=by
 unfold Af at h;split at h
 .rename_i a;refine⟨a,?_,by unfold AH;rw[jR a]⟩;split at h<;>exact h
 .simp[It]at h
theorem Zs{x:PS}{y:St}(s:FS)(l:s.args=[])(hq:s.q=MH)(h:Lr b.length x y):
 Al b.length (Cu b b.length x).2 (Dd (b.map Ao) y s).2/\((Cu b b.length x).2.cR=false->VC (Cu b b.length x).1 (Dd (b.map Ao) y s).1 s):=by
 have j:Al b.length x y:=.inl h;have n:=fun(k:Nat) (F:3<=k) (C:k<=20)=>Hs H F C h
 have Q:=n 5 (by decide) (by decide);have M:=n 16 (by decide) (by decide);have N:=n 17 (by decide) (by decide);have P:=n 18 (by decide) (by decide);have L:=n 10 (by decide) (by decide);have E:=fun(k:Nat) (F:3<=k) (C:k<=20) {x:PS} {y:St} (h:Al b.length x y)=>IF H F C h
 have m:=fun{x:PS} {y:St} (h:Al b.length x y)=>Od H (k:=1) (so:=1) (by decide) h
 simp only[Da,Nat.reduceEqDiff,if_true,if_false]at Q M N P L;unfold Dd Cu;by_cases w:(Aj b x.next).kind=5
 .rw[jR (Q.2 w),jR w];have c:=E 5 (by decide) (by decide) j;refine⟨?_,fun _=>⟨rfl,hq,l,fun e=>jY e (by simp),rfl,rfl,rfl,rfl,rfl,rfl⟩⟩;rcases c with a|a
  .exact .inl a
  .exact .inr a
 rw[jQ (fun e=>w (Q.1 e)),jQ w];by_cases r:(Aj b x.next).kind=16
 .rw[jR (M.2 r),jR r];have c:=E 16 (by decide) (by decide) j;obtain⟨f,i⟩:=m c;have K:=Ho H (k:=19) (by decide) (by decide) f;simp only[Da,Nat.reduceEqDiff,if_true,if_false]at c f i K;unfold Fe;by_cases v:(Aj b (Af b b.length 1 (Af b b.length 16 x)).next).kind=19
  .simp only[jR (K.2 v),jR v];have g:=E 19 (by decide) (by decide) f;obtain⟨R,V⟩:=Od H (k:=2) (so:=3) (by decide) g;simp only[Da,Nat.reduceEqDiff,if_true,if_false]at g R V;refine⟨R,fun hg=>⟨rfl,i,l,fun _=>?_,rfl,rfl,rfl,rfl,rfl,rfl⟩⟩;obtain⟨g1,g2,X⟩:=Gq hg;rw[V];simp only[Ao];have a0:(Af b b.length 19 (Af b b.length 1 (Af b b.length 16 x))).next<b.length:=by
    rcases g with a|⟨p,a,_⟩
    .exact a.2.2.2
    .have:=a.2.2;have:=H.pos;omega
   exact Ud (by rw[X];exact d _ (G8 a0)) (by rw[X];exact g1) _
  .simp only[jQ (fun e=>v (K.1 e)),jQ v];exact⟨f,fun _=>⟨rfl,i,l,fun e=>jY e (by simp),rfl,rfl,rfl,rfl,rfl,rfl⟩⟩
 rw[jQ (fun e=>r (M.1 e)),jQ r];by_cases t:(Aj b x.next).kind=17
 .rw[jR (N.2 t),jR t];have c:=E 17 (by decide) (by decide) j;obtain⟨f,i⟩:=m c;exact⟨f,fun _=>⟨rfl,i,l,fun e=>jY e (by simp),rfl,rfl,rfl,rfl,rfl,rfl⟩⟩
 rw[jQ (fun e=>t (N.1 e)),jQ t];by_cases u:(Aj b x.next).kind=18
 .rw[jR (P.2 u),jR u];have c:=E 18 (by decide) (by decide) j;obtain⟨f,i⟩:=m c;exact⟨f,fun _=>⟨rfl,i,l,fun e=>jY e (by simp),rfl,rfl,rfl,rfl,rfl,rfl⟩⟩
 rw[jQ (fun e=>u (P.1 e)),jQ u];by_cases q:(Aj b x.next).kind=10
 .rw[jR (L.2 q),jR q];have f:=E 17 (by decide) (by decide) (E 10 (by decide) (by decide) j);obtain⟨g,B⟩:=m f;have S:=E 10 (by decide) (by decide) (E 11 (by decide) (by decide) g);unfold Jg Bt;generalize a8:Aw (b.map Ao) (Da 10) (Aw (b.map Ao) (Da 11) (Bo (b.map Ao) 1 (Aw (b.map Ao) (Da 17) (Aw (b.map Ao) (Da 10) y))).2)=o at S;have a9:Aw (b.map Ao) [40] (Aw (b.map Ao) [41] (Bo (b.map Ao) 1 (Aw (b.map Ao) [42] (Aw (b.map Ao) [40] y))).2)=o:=a8;simp only;rw[a9];have a6:Al b.length (Af b b.length 10 (Af b b.length 11 (Af b b.length 1 (Af b b.length 17 (Af b b.length 10 x))))) ⟨o.cJ,o.cL,o.pl,o.ca+1⟩:=S;obtain⟨a7,e7⟩:=Oe H a6;exact⟨a7,fun _=>⟨rfl,B,e7,fun e=>jY e (by simp),rfl,rfl,rfl,rfl,rfl,rfl⟩⟩
 rw[jQ (fun e=>q (L.1 e)),jQ q];obtain⟨c,U⟩:=m j;have I:=Ho H (k:=10) (by decide) (by decide) c;simp only[Da,Nat.reduceEqDiff,if_true,if_false]at I;by_cases z:(Aj b (Af b b.length 1 x).next).kind=10
 .simp only[jR (I.2 z),jR z];have f:=E 10 (by decide) (by decide) c;obtain⟨g,B⟩:=Oe H f;unfold Bt;exact⟨g,fun _=>⟨rfl,U,B,fun e=>jY e (by simp),rfl,rfl,rfl,rfl,rfl,rfl⟩⟩
 .simp only[jQ (fun e=>z (I.1 e)),jQ z];exact⟨c,fun _=>⟨rfl,U,l,fun e=>jY e (by simp),rfl,rfl,rfl,rfl,rfl,rfl⟩⟩
structure SC(v:VS)(u:FS)(inn:Nat):Prop where
 kind:u.kind=DB v.kind
 dC:v.kind<=10
 p:u.p=Ao v.tg
 q:u.q=Ao v.sr
 args:u.args=v.args.map Ao
 field:v.kind=3->u.field=v.field
 dD:u.dD=inn
omit H d in
theorem QV(b n x):1<=(Cu b n x).1.kind/\(Cu b n x).1.kind<=8:=by
 unfold Cu;split
 .simp
 .split
  .unfold Fe;simp only;split<;>simp
  .split
   .simp
   .split
    .simp
    .split
     .simp[Jg]
     .split<;>simp
theorem VE{x:PS}{y:St}(j:Nat)(h:Lr b.length x y):
 Al b.length (AT b b.length x).2 (Bc (b.map Ao) j y).2/\((AT b b.length x).2.cR=false->SC (AT b b.length x).1 (Bc (b.map Ao) j y).1 j):=by
 have g:Al b.length x y:=.inl h;have o:=fun(k:Nat) (r:3<=k) (q:k<=20)=>Hs H r q h
 have t:=o 4 (by decide) (by decide);have u:=o 6 (by decide) (by decide);have s:=o 17 (by decide) (by decide);have E:=fun(k:Nat) (r:3<=k) (q:k<=20) {x:PS} {y:St} (h:Al b.length x y)=>IF H r q h
 have c:=fun{x:PS} {y:St} (h:Al b.length x y)=>Od H (k:=1) (so:=1) (by decide) h
 simp only[Da,Nat.reduceEqDiff,if_true,if_false]at t u s;unfold Bc AT;by_cases m:(Aj b x.next).kind=4
 .rw[jR (t.2 m),jR m];obtain⟨a,f⟩:=c (E 4 (by decide) (by decide) g);exact⟨a,fun _=>⟨rfl,by simp only;omega,f,rfl,rfl,fun e=>jY e (by simp),rfl⟩⟩
 rw[jQ (fun e=>m (t.1 e)),jQ m];by_cases n:(Aj b x.next).kind=6
 .rw[jR (u.2 n),jR n];obtain⟨a,f⟩:=c (E 6 (by decide) (by decide) g);exact⟨a,fun _=>⟨rfl,by simp only;omega,rfl,f,rfl,fun e=>jY e (by simp),rfl⟩⟩
 rw[jQ (fun e=>n (u.1 e)),jQ n];by_cases l:(Aj b x.next).kind=17
 .rw[jR (s.2 l),jR l];obtain⟨a,f⟩:=c (E 17 (by decide) (by decide) g);obtain⟨C,M⟩:=c (E 15 (by decide) (by decide) a);exact⟨C,fun _=>⟨rfl,by simp only;omega,f,M,rfl,fun e=>jY e (by simp),rfl⟩⟩
 rw[jQ (fun e=>l (s.1 e)),jQ l];obtain⟨z,K⟩:=c g;have a:=E 15 (by decide) (by decide) z;have N:=QV b b.length (Af b b.length 15 (Af b b.length 1 x));simp only;rcases a with a|⟨p,F,I⟩
 .obtain⟨B,L⟩:=Zs H d {CC j (-1)with p:=(Bo (b.map Ao) 1 y).1} rfl rfl a;refine⟨B,fun i=>?_⟩;have v:=L i;exact⟨v.kind,by simp only;omega,v.p.trans K,v.q,v.args,v.field,v.dD⟩
 .have w:=WF H F;refine⟨.inr ⟨p,w,Qz _ _ I⟩,fun i=>?_⟩;rw[w.1]at i;cases i
end
inductive CQ {A B:Type} (R:A->B->Prop):List A->List B->Prop
 |nil:CQ R [] []
 |cons {a:A} {b:B} {l:List A} {m:List B} (h:R a b) (t:CQ R l m):CQ R (a::l) (b::m)
theorem CQ.mono{c B}{R S:c->B->Prop}{l m}(h:CQ R l m)(k:∀a b,R a b->S a b):CQ S l m:=by
 induction h with
 |nil=>exact .nil
 |cons h _ d=>exact .cons (k _ _ h) d
theorem CQ.append{a B:Type}{R:a->B->Prop}{l b:List a}{m c:List B}(h:CQ R l m)(r:CQ R b c):CQ R (l++b) (m++c):=by
 induction h with
 |nil=>exact r
 |cons h _ d=>exact .cons h d
theorem CQ.length{a B}{R:a->B->Prop}{l m}(h:CQ R l m):l.length=m.length:=by
 induction h with
 |nil=>rfl
 |cons _ _ b=>simp[b]
theorem CQ.get{c B}{R:c->B->Prop}{l m}(h:CQ R l m):∀(i:Nat) (a:i<l.length) (b:i<m.length),R l[i] m[i]:=by
 induction h with
 |nil=>intro i a;simp at a
 |cons h _ d=>
  intro i a b;cases i with
  |zero=>exact h
  |succ i=>exact d i (by simpa using a) (by simpa using b)
def Dw(a:Nat):Nat->List FS->Nat->TS->Prop
 |0,_,_,_=>False
 |d+1,c,i,.mk s e=>∃u,c[i]? =T u/\
   ((e=[]/\SC s u a)\/
    (∃p b,e=[(p,b)]/\s=EK 12/\u.kind=13/\u.dD=a/\u.br=((p:Nat):Int)/\u.dR= -1/\u.other=[]/\CQ (fun j t=>i<j/\Dw a d c j t) u.cT b)\/
    (∃p b,e=[(p,b)]/\s=EK 11/\u.kind=12/\u.dD=a/\u.br=((p:Nat):Int)/\u.dR= -1/\u.other=[]/\CQ (fun j t=>i<j/\Dw a d c j t) u.cT b)\/
    (∃p b f g,e=[(p,b),(f,g)]/\s=EK 11/\u.kind=12/\u.dD=a/\u.br=((p:Nat):Int)/\u.dR=((f:Nat):Int)/\CQ (fun j t=>i<j/\Dw a d c j t) u.cT b/\CQ (fun j t=>i<j/\Dw a d c j t) u.other g))
theorem Dw.up{z:Nat}:∀{d:Nat} {c:List FS} {i:Nat} {t:TS},Dw z d c i t->Dw z (d+1) c i t
 |0,_,_,_,h=>h.elim
 |d+1,c,i,.mk s F,h=>by
  obtain⟨u,B,h⟩:=h;refine⟨u,B,?_⟩;have M:∀(l:List Nat) (m:List TS),CQ (fun j t=>i<j/\Dw z d c j t) l m->CQ (fun j t=>i<j/\Dw z (d+1) c j t) l m:=fun l m q=>q.mono (fun a b r=>⟨r.1,r.2.up⟩)
  rcases h with h|⟨p,y,e,f,g,k,n,v,w,x⟩|⟨p,y,e,f,g,k,n,v,w,x⟩|⟨p,y,C,E,e,f,g,k,n,v,w,x⟩
  .exact .inl h
  .exact .inr (.inl ⟨p,y,e,f,g,k,n,v,w,M _ _ x⟩)
  .exact .inr (.inr (.inl ⟨p,y,e,f,g,k,n,v,w,M _ _ x⟩))
  .exact .inr (.inr (.inr ⟨p,y,C,E,e,f,g,k,n,v,M _ _ w,M _ _ x⟩))
def Kv(a b:List FS):Prop:=a.length<=b.length/\∀i,i<a.length->b[i]? =a[i]?
theorem Kv.refl(a):Kv a a:=⟨gS _,fun _ _=>rfl⟩
theorem Kv.trans{a b c:List FS}(h:Kv a b)(k:Kv b c):Kv a c:=⟨iG h.1 k.1,fun i d=>(k.2 i (iI d h.1)).trans (h.2 i d)⟩
theorem Dw.dV{C k:Nat}:∀{d:Nat} {c B:List FS} {i:Nat} {t:TS},Dw C d c i t->k<=i->(∀j,k<=j->j<c.length->B[j]? =c[j]?)->Dw C d B i t
 |0,_,_,_,_,h,_,_=>h.elim
 |d+1,c,B,i,.mk s N,h,I,F=>by
  obtain⟨u,E,h⟩:=h;have H:i<c.length:=by
   rcases jG i c.length with q|q
   .exact q
   .rw[iS q]at E;cases E
  refine⟨u,by rw[F i I H];exact E,?_⟩;have M:∀(l:List Nat) (m:List TS),CQ (fun j t=>i<j/\Dw C d c j t) l m->CQ (fun j t=>i<j/\Dw C d B j t) l m:=fun l m q=>q.mono (fun a b r=>⟨r.1,r.2.dV (by have:=r.1;omega) F⟩)
  rcases h with h|⟨p,z,e,f,g,n,v,w,x,y⟩|⟨p,z,e,f,g,n,v,w,x,y⟩|⟨p,z,K,L,e,f,g,n,v,w,x,y⟩
  .exact .inl h
  .exact .inr (.inl ⟨p,z,e,f,g,n,v,w,x,M _ _ y⟩)
  .exact .inr (.inr (.inl ⟨p,z,e,f,g,n,v,w,x,M _ _ y⟩))
  .exact .inr (.inr (.inr ⟨p,z,K,L,e,f,g,n,v,w,M _ _ x,M _ _ y⟩))
theorem Dw.pre{c d:Nat}{a b:List FS}{i:Nat}{t:TS}(h:Dw c d a i t)(f:Kv a b):Dw c d b i t:=h.dV (k:=0) (iF _) (fun j _ e=>f.2 j e)
theorem GB(a b z u)(h:Kv (a++[z]) b):Kv a (b.set a.length u)/\(b.set a.length u)[a.length]? =T u/\a.length<(b.set a.length u).length/\(∀j,a.length+1<=j->j<b.length->(b.set a.length u)[j]? =b[j]?):=by
 have c:=h.1;simp only[gW,iM]at c;refine⟨⟨by simp only[jV];omega,fun i d=>?_⟩,?_,by simp only[jV];omega,fun j e f=>?_⟩
 .rw[List.getElem?_set_ne (by omega),h.2 i (by simp;omega),jT d]
 .rw[List.getElem?_set_self (by omega)]
 .rw[List.getElem?_set_ne (by omega)]
def bT(toks:List PT)(x:PS)(y:St):Prop:=Al toks.length x y\/(x.cR=false/\x.next<toks.length/\(Aj toks x.next).kind≠13/\y.cL=T (Aj toks x.next).l7)
section
variable{N:Nat}{toks:List PT}(H:TksOk N toks)(o:DigOk toks)
include H o
omit o in
theorem VB{x:PS}{y:St}(h:bT toks x y):Al toks.length (Af toks toks.length 13 x) (Aw (toks.map Ao) [125] y):=by
 rcases h with h|⟨a,d,b,c⟩
 .exact IF H (k:=13) (by decide) (by decide) h
 .refine .inr ⟨_,?_,DF _ _ c⟩;unfold Af;rw[jQ b];exact⟨rfl,by simp[It,a],rfl⟩
omit H o in
theorem Dg{k}(d:k≠0){x}(h:(Af toks toks.length k x).cR=false):x.cR=false/\(Af toks toks.length k x).next=x.next+1/\(AH toks k x)=Aj toks x.next/\(Aj toks x.next).kind=k:=by obtain⟨a,b,c⟩:=Gq h;exact⟨b,Cf a d,c,a⟩
omit H o in
theorem J2{n x y}(h:Al n x y)(a:y.cL=Z):Lr n x y:=by
 rcases h with h|⟨p,_,h⟩
 .exact h
 .rw[a]at h;cases h
omit H o in
theorem VD{n x y}(h:Al n x y)(a:x.cR=false):Lr n x y:=by
 rcases h with h|⟨p,h,_⟩
 .exact h
 .rw[h.1]at a;cases a
omit H o in
theorem CJ(c f d){y p}(a b)(h:y.cL=T p):AA c f d y a b=(b,y,a):=by
 cases f with
 |zero=>rw[AA]
 |succ f=>rw[AA,jR (.inl (by simp[h]))]
def SK(toks:List PT)(e:Nat):Prop:=∀(b:Nat) (x:PS) (y:St) (c:Nat) (a:List FS) (f:List TS) (d:List Nat),Al toks.length x y->(x.cR=false->2*(toks.length-x.next)+1<=e/\2*(toks.length-x.next)+1<=b)->
 bT toks (AO toks toks.length e x f).2 (AA (toks.map Ao) b c y a d).2.1/\
 ((AA (toks.map Ao) b c y a d).2.1.cL=Z->∃h g,(AO toks toks.length e x f).1=f++h/\(AA (toks.map Ao) b c y a d).1=d++g/\CQ (fun j t=>a.length<=j/\Dw c e (AA (toks.map Ao) b c y a d).2.2 j t) g h/\Kv a (AA (toks.map Ao) b c y a d).2.2)
omit o in
theorem Jd{c f2:Nat}(C:SK toks c){x:PS}{y:St}(b:Nat)(a:List FS)(h:Al toks.length x y)(B:x.cR=false->2*(toks.length-x.next)<=c+1/\2*(toks.length-x.next)<=f2+1):
 Al toks.length (Af toks toks.length 13 (AO toks toks.length c (Af toks toks.length 12 x) []).2) (Aw (toks.map Ao) [125] (AA (toks.map Ao) f2 b (Aw (toks.map Ao) [123] y) a []).2.1)/\
 ((Aw (toks.map Ao) [125] (AA (toks.map Ao) f2 b (Aw (toks.map Ao) [123] y) a []).2.1).cL=Z->
   CQ (fun j t=>a.length<=j/\Dw b c (AA (toks.map Ao) f2 b (Aw (toks.map Ao) [123] y) a []).2.2 j t) (AA (toks.map Ao) f2 b (Aw (toks.map Ao) [123] y) a []).1 (AO toks toks.length c (Af toks toks.length 12 x) []).1/\Kv a (AA (toks.map Ao) f2 b (Aw (toks.map Ao) [123] y) a []).2.2/\(tokAt (toks.map Ao) y.cJ).pos=(AH toks 12 x).l7/\y.cL=Z):=by
 have d:=IF H (k:=12) (by decide) (by decide) h;simp only[Da,Nat.reduceEqDiff,if_true,if_false]at d;obtain⟨s,u⟩:=C f2 (Af toks toks.length 12 x) (Aw (toks.map Ao) [123] y) b a [] [] d (fun e=>by have q:=Dg (k:=12) (by decide) e;have:=B q.1;have:=(VD d e).2.2.2;omega)
 refine⟨VB H s,fun e=>?_⟩;have f:=((A9 (toks.map Ao) [125] _).2.2.2 e).1;have n:(Aw (toks.map Ao) [123] y).cL=Z:=by
  cases m:(Aw (toks.map Ao) [123] y).cL with
  |none=>rfl
  |some p=>rw[CJ _ _ _ _ _ m]at f;simp only[m]at f;cases f
 have r:=((A9 (toks.map Ao) [123] y).2.2.2 n).1;obtain⟨F,E,i,l,v,w⟩:=u f;simp only[jO]at i l;rw[i,l];refine⟨v,w,?_,r⟩;have z:=J2 d n;have g:=J2 h r;rw[(Dg (k:=12) (by decide) z.1).2.2.1,g.2.2.1,Bs];rfl
theorem Ye:∀i:Nat,SK toks i/\
 (∀(j:Nat) (x:PS) (y:St) (d:Nat) (c:List FS),Lr toks.length x y->CZ (Aj toks x.next).kind->2*(toks.length-x.next)<=i->2*(toks.length-x.next)<=j->
   Al toks.length (Bw toks toks.length i x).2 (AK (toks.map Ao) j d y c).2.1/\
   ((AK (toks.map Ao) j d y c).2.1.cL=Z->(AK (toks.map Ao) j d y c).1=c.length/\Dw d i (AK (toks.map Ao) j d y c).2.2 c.length (Bw toks toks.length i x).1/\Kv c (AK (toks.map Ao) j d y c).2.2/\c.length<(AK (toks.map Ao) j d y c).2.2.length)):=by
 have E:=fun(k:Nat) (h3:3<=k) (a5:k<=20) {x:PS} {y:St} (h:Al toks.length x y)=>IF H h3 a5 h
 have TN:=fun(k:Nat) (hk:k≠0) {x:PS} (h:(Af toks toks.length k x).cR=false)=>Dg hk h
 intro i;induction i with
 |zero=>
  refine⟨fun j x y d c b5 b6 h hf=>?_,fun j x y d c h M hf _=>?_⟩
  .rcases h with h|⟨p,M,z⟩
   .have:=(hf h.1).1;have:=h.2.2.2;omega
   .rw[CJ _ _ _ _ _ z];refine⟨.inl (.inr ⟨p,by rw[AO];exact M,z⟩),fun e=>?_⟩;rw[z]at e;cases e
  .have:=h.2.2.2;omega
 |succ i ih=>
  refine⟨fun j x y d c b5 b6 h hf=>?_,fun j x y d c h M hf c5=>?_⟩
  .rcases h with h|⟨p,M,z⟩
   .obtain⟨d0,c5⟩:=hf h.1;have a6:=h.2.2.2;obtain⟨f,a9⟩:∃f,j=f+1:=⟨j-1,by omega⟩;subst a9;have a7:=Ho H (k:=13) (by decide) (by decide) (.inl h:Al toks.length x y);simp only[Da,Nat.reduceEqDiff,if_true,if_false]at a7;by_cases N:CZ (Aj toks x.next).kind
    .have a3:¬(Aj toks x.next).kind=13:=by unfold CZ at N;omega
     have b3:¬(y.cL≠Z\/Bu y.cL (tokAt (toks.map Ao) y.cJ) [125]=true):=by
      rintro(q|q)
      .exact q h.2.1
      .exact a3 (a7.1 q)
     rw[AO,jR N,AA,jQ b3];obtain⟨a1,t⟩:=ih.2 f x y d c h N (by omega) (by omega);have c6:(Bw toks toks.length i x).2.cR=false->x.next+1<=(Bw toks toks.length i x).2.next:=by intro _;obtain⟨X,b9⟩:∃X,i=X+1:=⟨i-1,by omega⟩;subst b9;exact IV H.end_ X a6 N
     obtain⟨u,K⟩:=ih.1 f (Bw toks toks.length i x).2 (AK (toks.map Ao) f d y c).2.1 d (AK (toks.map Ao) f d y c).2.2 (b5++[(Bw toks toks.length i x).1]) (b6++[(AK (toks.map Ao) f d y c).1]) a1 (fun e=>by have:=c6 e;omega);refine⟨u,fun e=>?_⟩;obtain⟨ts,ls,v,m,w,V⟩:=K e;have c9:(AK (toks.map Ao) f d y c).2.1.cL=Z:=by
      cases hq:(AK (toks.map Ao) f d y c).2.1.cL with
      |none=>rfl
      |some p=>rw[CJ _ _ _ _ _ hq]at e;simp only[hq]at e;cases e
     obtain⟨d1,d2,d3,d4⟩:=t c9;refine⟨(Bw toks toks.length i x).1::ts,c.length::ls,by rw[v];simp,by rw[m,d1];simp,.cons ⟨gS _,(d2.pre V).up⟩ (w.mono (fun a b r=>⟨by have:=r.1;omega,r.2.up⟩)),d3.trans V⟩
    .rw[AO,jQ N];by_cases a3:(Aj toks x.next).kind=13
     .rw[AA,jR (.inr (a7.2 a3))];exact⟨.inl (.inl h),fun _=>⟨[],[],by simp,by simp,.nil,Kv.refl _⟩⟩
     .have b3:¬(y.cL≠Z\/Bu y.cL (tokAt (toks.map Ao) y.cJ) [125]=true):=by
       rintro(q|q)
       .exact q h.2.1
       .exact a3 (a7.1 q)
      rw[AA,jQ b3]
      obtain⟨L,c0⟩:∃L,f=L+1:=⟨f-1,by omega⟩
      subst c0
      have l:=fun(k:Nat) (h3:3<=k) (a5:k<=20)=>Hs H h3 a5 h
      have w4:=l 4 (by decide) (by decide)
      have w6:=l 6 (by decide) (by decide)
      have I:=l 7 (by decide) (by decide)
      have S:=l 9 (by decide) (by decide)
      have b7:=l 17 (by decide) (by decide)
      simp only[Da,Nat.reduceEqDiff,if_true,if_false]at w4 w6 I S b7
      unfold CZ at N
      have a8:(AK (toks.map Ao) (L+1) d y c).2.1.cL=T (Aj toks x.next).l7:=by
       rw[AK,jQ (by rw[I,S];omega)];simp only;refine DF _ _ ?_;unfold Bc;rw[jQ (by rw[w4];omega),jQ (by rw[w6];omega),jQ (by rw[b7];omega)];simp only;refine Qz _ _ (DF _ _ ?_);unfold Bo Dl;have hs:¬(y.cL.isNone=true/\(tokAt (toks.map Ao) y.cJ).sort=1):=by rintro⟨_,e⟩;rw[h.2.2.1,Bs]at e;have:=(Ie _).1 e;omega
       simp only[jQ hs];rw[h.2.2.1,Bs,h.2.1];rfl
      rw[CJ _ _ _ _ _ a8]
      refine⟨.inr ⟨h.1,a6,a3,a8⟩,fun e=>?_⟩
      simp only at e
      rw[a8]at e;cases e
   .rw[CJ _ _ _ _ _ z,AO,jQ (by rw[M.2.2,H.end_];decide)];refine⟨.inl (.inr ⟨p,M,z⟩),fun e=>?_⟩;rw[z]at e;cases e
  .have a6:=h.2.2.2;obtain⟨f,a9⟩:∃f,j=f+1:=⟨j-1,by omega⟩;subst a9;have b4:Al toks.length x y:=.inl h;have l:=fun(k:Nat) (h3:3<=k) (a5:k<=20)=>Hs H h3 a5 h
   have I:=l 7 (by decide) (by decide);have S:=l 9 (by decide) (by decide);simp only[Da,Nat.reduceEqDiff,if_true,if_false]at I S;have s:=fun(k:Nat) {x:PS} (hc:x.next<toks.length)=>Ah (n:=toks.length) H.end_ k hc
   by_cases P:(Aj toks x.next).kind=7
   .have hw:=I.2 P;have b0:AG (tokAt (toks.map Ao) y.cJ)=XR\/AG (tokAt (toks.map Ao) y.cJ)=Hm:=.inl hw;rw[Bw,jR P,AK,jR b0];simp only[hw,if_true];have t:=E 20 (by decide) (by decide) (E 7 (by decide) (by decide) b4);simp only[Da,Nat.reduceEqDiff,if_true,if_false]at t;have g1:=s 7 a6;have a0:=g1.trans (s 20 g1.2);generalize Af toks toks.length 20 (Af toks toks.length 7 x)=x2 at*;generalize Aw (toks.map Ao) [63] (Aw (toks.map Ao) [105,102] y)=U at*;obtain⟨u,K⟩:=Jd H ih.1 (f2:=f) d (c++[CC 0 0]) t (fun _=>by have:=a0.1;omega);have g3:=a0.trans (s 12 a0.2);have g4:=g3.trans (BM H.end_ i _ [] g3.2);have g5:=g4.trans (s 13 g4.2);generalize AO toks toks.length i (Af toks toks.length 12 x2) []=r at*;generalize AA (toks.map Ao) f d (Aw (toks.map Ao) [123] U) (c++[CC 0 0]) []=q at*;have n8:=Ho H (k:=8) (by decide) (by decide) u;simp only[Da,Nat.reduceEqDiff,if_true,if_false]at n8;by_cases k8:(Aj toks (Af toks toks.length 13 r.2).next).kind=8
    .rw[jR k8,jR (n8.2 k8)];have a4:=E 8 (by decide) (by decide) u;simp only[Da,Nat.reduceEqDiff,if_true,if_false]at a4;have g6:=g5.trans (s 8 g5.2);have b8:(Aw (toks.map Ao) [101,108,115,101] (Aw (toks.map Ao) [125] q.2.1)).cL=Z->(Aw (toks.map Ao) [125] q.2.1).cL=Z:=fun e=>((A9 (toks.map Ao) [101,108,115,101] _).2.2.2 e).1
     generalize Af toks toks.length 8 (Af toks toks.length 13 r.2)=x4 at*;generalize Aw (toks.map Ao) [101,108,115,101] (Aw (toks.map Ao) [125] q.2.1)=y4 at*;obtain⟨d1,d2⟩:=Jd H ih.1 (f2:=f) d q.2.2 a4 (fun _=>by have:=g6.1;omega);generalize AO toks toks.length i (Af toks toks.length 12 x4) []=r2 at*;generalize AA (toks.map Ao) f d (Aw (toks.map Ao) [123] y4) q.2.2 []=q2 at*;refine⟨d1,fun e=>?_⟩;obtain⟨X,L,e3,e4⟩:=d2 e;obtain⟨v,m,w,V⟩:=K (b8 e4);obtain⟨B,C,F,R⟩:=GB c q2.2.2 (CC 0 0) {CC d (-1)with kind:=12,br:=(tokAt (toks.map Ao) U.cJ).pos,cT:=q.1,dR:=(tokAt (toks.map Ao) y4.cJ).pos,other:=q2.1} (m.trans L);have c7:=m.1;simp only[gW,iM]at c7;refine⟨by trivial,⟨_,C,.inr (.inr (.inr ⟨_,_,_,_,rfl,rfl,rfl,rfl,by simp only;rw[w],by simp only;rw[e3],?_,?_⟩))⟩,B,F⟩
     .refine v.mono (fun a b r=>?_);have Q:=r.1;simp only[gW,iM]at Q;exact⟨by omega,(r.2.pre L).dV (k:=c.length+1) (by omega) R⟩
     .refine X.mono (fun a b r=>?_);have Q:=r.1;exact⟨by omega,r.2.dV (k:=c.length+1) (by omega) R⟩
    .rw[jQ k8,jQ (fun e=>k8 (n8.1 e))];refine⟨u,fun e=>?_⟩;obtain⟨v,m,w,V⟩:=K e;obtain⟨B,C,F,R⟩:=GB c q.2.2 (CC 0 0) {CC d (-1)with kind:=12,br:=(tokAt (toks.map Ao) U.cJ).pos,cT:=q.1} m;refine⟨by trivial,⟨_,C,.inr (.inr (.inl ⟨_,_,rfl,rfl,rfl,rfl,by simp only;rw[w],rfl,rfl,?_⟩))⟩,B,F⟩;refine v.mono (fun a b r=>?_);have Q:=r.1;simp only[gW,iM]at Q;exact⟨by omega,r.2.dV (k:=c.length+1) (by omega) R⟩
   by_cases k9:(Aj toks x.next).kind=9
   .have hw:=S.2 k9;have c8:¬AG (tokAt (toks.map Ao) y.cJ)=[105,102]:=fun e=>P (I.1 e)
    have b0:AG (tokAt (toks.map Ao) y.cJ)=XR\/AG (tokAt (toks.map Ao) y.cJ)=Hm:=.inr hw;rw[Bw,jQ P,jR k9,AK,jR b0,jQ c8];simp only[hw];have t:=E 20 (by decide) (by decide) (E 9 (by decide) (by decide) b4);simp only[Da,Nat.reduceEqDiff,if_true,if_false]at t;have g1:=s 9 a6;have a0:=g1.trans (s 20 g1.2);generalize Af toks toks.length 20 (Af toks toks.length 9 x)=x2 at*;generalize Aw (toks.map Ao) [63] (Aw (toks.map Ao) [119,104,105,108,101] y)=U at*;obtain⟨u,K⟩:=Jd H ih.1 (f2:=f) d (c++[CC 0 0]) t (fun _=>by have:=a0.1;omega);generalize AO toks toks.length i (Af toks toks.length 12 x2) []=r at*;generalize AA (toks.map Ao) f d (Aw (toks.map Ao) [123] U) (c++[CC 0 0]) []=q at*;refine⟨u,fun e=>?_⟩;obtain⟨v,m,w,V⟩:=K e;obtain⟨B,C,F,R⟩:=GB c q.2.2 (CC 0 0) {CC d (-1)with kind:=13,br:=(tokAt (toks.map Ao) U.cJ).pos,cT:=q.1} m;refine⟨by trivial,⟨_,C,.inr (.inl ⟨_,_,rfl,rfl,rfl,rfl,by simp only;rw[w],rfl,rfl,?_⟩)⟩,B,F⟩;refine v.mono (fun a b r=>?_);have Q:=r.1;simp only[gW,iM]at Q;exact⟨by omega,r.2.dV (k:=c.length+1) (by omega) R⟩
   .rw[Bw,jQ P,jQ k9,AK,jQ (fun e=>e.elim (fun e=>P (I.1 e)) (fun e=>k9 (S.1 e)))];simp only;obtain⟨p1,p2⟩:=VE H o d h;have p3:=E 14 (by decide) (by decide) p1;simp only[Da,Nat.reduceEqDiff,if_true,if_false]at p3;refine⟨p3,fun e=>?_⟩;have g:=J2 p3 e;have hg:=(TN 14 (by decide) g.1).1;obtain⟨B,C,F,_⟩:=GB c (c++[CC 0 0]) (CC 0 0) (Bc (toks.map Ao) d y).1 (Kv.refl _);exact⟨by trivial,⟨_,C,.inl ⟨rfl,p2 hg⟩⟩,B,F⟩
end
