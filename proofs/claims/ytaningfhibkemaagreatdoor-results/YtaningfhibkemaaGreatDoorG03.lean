/- Part of the proof: EqA EqB EqC EqD EqE. -/
import Derived.Test.YtaningfhibkemaaGreatDoorG07
namespace Go.Proofs.YtaningfhibkemaaGreatDoor
open Go.Proofs.Tryz
theorem Zr(s k):(s.get! k).toNat=bt s k:=by unfold bt;congr 1;show s.data[k]! =_;rw[getElem!_def];cases s.data[k]? <;>rfl
theorem NZ(s k)(h:s.size<=k):bt s k=0:=by
 unfold bt;have:s.data[k]? =none:=by simp;exact h
 rw[this];rfl
theorem LD(s p k):((decide (p+k<s.size) && (bt s (p+k) / 64==2))=true)↔(128<=bt s (p+k)/\bt s (p+k)<=191):=by
 have b:=Pd s (p+k);simp only[Bool.and_eq_true,jD,beq_iff_eq];constructor
 .rintro⟨_,h⟩;omega
 .intro h;refine⟨?_,Z⟩;by_cases a:p+k<s.size
  .exact a
  .have:=NZ s (p+k) Z;omega
theorem U7(c:Nat):Utf8.valid (c:Int)=true↔(c<55296\/(57344<=c/\c<=1114111)):=by unfold Utf8.valid;simp only[Bool.or_eq_true,Bool.and_eq_true,jD];omega
theorem JW(s p):Utf8.decode s p=
 (if bt s p<128 then(bt s p,1)
  else if bt s p / 32=6/\(128<=bt s (p+1)/\bt s (p+1)<=191)then
   (if 128<=bt s p % 32*64+bt s (p+1) % 64 then(bt s p % 32*64+bt s (p+1) % 64,2)else(65533,1))
  else if bt s p / 16=14/\(128<=bt s (p+1)/\bt s (p+1)<=191)/\(128<=bt s (p+2)/\bt s (p+2)<=191)then
   (if 2048<=bt s p % 16*4096+bt s (p+1) % 64*64+bt s (p+2) % 64/\(bt s p % 16*4096+bt s (p+1) % 64*64+bt s (p+2) % 64<55296\/(57344<=bt s p % 16*4096+bt s (p+1) % 64*64+bt s (p+2) % 64/\bt s p % 16*4096+bt s (p+1) % 64*64+bt s (p+2) % 64<=1114111))
    then(bt s p % 16*4096+bt s (p+1) % 64*64+bt s (p+2) % 64,3)else(65533,1))
  else if bt s p / 8=30/\(128<=bt s (p+1)/\bt s (p+1)<=191)/\(128<=bt s (p+2)/\bt s (p+2)<=191)/\(128<=bt s (p+3)/\bt s (p+3)<=191)then
   (if 65536<=bt s p % 8*262144+bt s (p+1) % 64*4096+bt s (p+2) % 64*64+bt s (p+3) % 64/\(bt s p % 8*262144+bt s (p+1) % 64*4096+bt s (p+2) % 64*64+bt s (p+3) % 64<55296\/(57344<=bt s p % 8*262144+bt s (p+1) % 64*4096+bt s (p+2) % 64*64+bt s (p+3) % 64/\bt s p % 8*262144+bt s (p+1) % 64*4096+bt s (p+2) % 64*64+bt s (p+3) % 64<=1114111))
    then(bt s p % 8*262144+bt s (p+1) % 64*4096+bt s (p+2) % 64*64+bt s (p+3) % 64,4)else(65533,1))
  else(65533,1)):=by
 have a:=LD s p 1;have b:=LD s p 2;have c:=LD s p 3;unfold Utf8.decode;simp only[Zr,gX,Utf8.runeError];generalize d:(decide (p+1<s.size) && (bt s (p+1) / 64==2))=g at*;generalize e:(decide (p+2<s.size) && (bt s (p+2) / 64==2))=h at*;generalize f:(decide (p+3<s.size) && (bt s (p+3) / 64==2))=i at*;clear d e f;simp only[Bool.and_eq_true,beq_iff_eq,jD,a,b,c,ge_iff_le,and_assoc,U7]
theorem JU{s i n b a}(h:(Ej s i n b a).2≠0):∃c,BB s i a (n-1)=some c/\b<=c/\c<=1114111/\(c<55296\/57344<=c)/\Ej s i n b a=(c,n)/\i+n<=s.size:=by
 unfold Ej at h⊢;split at h
 .exact jO rfl h
 .rename_i f;rw[jG f];split at h
  .exact jO rfl h
  .rename_i c e;split at h
   .exact jO rfl h
   .rename_i d;exact⟨c,e,Z,Z,Z,by simp only[jG d],Z⟩
theorem Nc{s i a c}(h:BB s i a 1=some c):128<=bt s (i+1)/\bt s (i+1)<=191/\c=a*64+(bt s (i+1)-128):=by obtain⟨g,b,d,e,f⟩:=Gm (m:=0) h;simp only[BB,gN]at b;subst b;exact⟨d,e,by rw[f];simp only[gX];simp only[gX]at d;omega⟩
theorem Nd{s i a c}(h:BB s i a 2=some c):128<=bt s (i+1)/\bt s (i+1)<=191/\128<=bt s (i+2)/\bt s (i+2)<=191/\c=(a*64+(bt s (i+1)-128))*64+(bt s (i+2)-128):=by obtain⟨l,d,b,e,f⟩:=Gm (m:=1) h;obtain⟨g,j,k⟩:=Nc d;exact⟨g,j,b,e,by rw[f,k];simp only[Nat.add_assoc,Nat.reduceAdd]at b⊢;omega⟩
theorem Pg{s i a c}(h:BB s i a 3=some c):128<=bt s (i+1)/\bt s (i+1)<=191/\128<=bt s (i+2)/\bt s (i+2)<=191/\128<=bt s (i+3)/\bt s (i+3)<=191/\c=((a*64+(bt s (i+1)-128))*64+(bt s (i+2)-128))*64+(bt s (i+3)-128):=by obtain⟨o,d,b,e,f⟩:=Gm (m:=2) h;obtain⟨g,j,k,l,n⟩:=Nd d;exact⟨g,j,k,l,b,e,by rw[f,n];simp only[Nat.add_assoc,Nat.reduceAdd]at b⊢;omega⟩
theorem LC{s i a}(b:128<=bt s (i+1)/\bt s (i+1)<=191):BB s i a 1=some (a*64+(bt s (i+1)-128)):=by rw[El (m:=0) (c:=a) rfl b.1 b.2];simp only[gX];exact congrArg some Z
theorem Iz{s i a}(c:128<=bt s (i+1)/\bt s (i+1)<=191)(b:128<=bt s (i+2)/\bt s (i+2)<=191):BB s i a 2=some ((a*64+(bt s (i+1)-128))*64+(bt s (i+2)-128)):=by rw[El (m:=1) (LC c) b.1 b.2];simp only[Nat.add_assoc,Nat.reduceAdd];exact congrArg some Z
theorem Ob{s i a}(c:128<=bt s (i+1)/\bt s (i+1)<=191)(d:128<=bt s (i+2)/\bt s (i+2)<=191)(b:128<=bt s (i+3)/\bt s (i+3)<=191):BB s i a 3=some (((a*64+(bt s (i+1)-128))*64+(bt s (i+2)-128))*64+(bt s (i+3)-128)):=by rw[El (m:=2) (Iz c d) b.1 b.2];simp only[Nat.add_assoc,Nat.reduceAdd];exact congrArg some Z
theorem Ih{s p}(h:p+3<=s.size):((s.extract p (p+3)).toList=[239,191,189])↔(bt s p=239/\bt s (p+1)=191/\bt s (p+2)=189):=by
 have j:s.data.size=s.size:=rfl;have d:=EB s p Z;have f:=EB s (p+1) Z;have g:=EB s (p+2) Z;have e:(s.extract p (p+3)).toList=[s[p]'Z,s[p+1]'Z,s[p+2]'Z]:=by
  rw[jS,jR];apply List.ext_getElem?;intro i;have q:∀k,(c:p+k<s.size)->s.data[p+k]? =some (s[p+k]'c):=fun k c=>Array.getElem?_eq_getElem (xs:=s.data) c
  have l:min (p+3) s.size-p=3:=Z;rcases i with _|_|_|i
  .have:=q 0 Z;simpa using this
  .have:=q 1 Z;simpa using this
  .have:=q 2 Z;simpa using this
  .simp;omega
 rw[e,d,f,g];simp only[List.cons.injEq,and_true];have u:∀(a b:UInt8),a=b↔a.toNat=b.toNat:=fun a b=>⟨fun h=>by rw[h],fun h=>UInt8.toNat_inj.mp h⟩
 rw[u,u,u];rfl
theorem DR{s p}(a:(A6 s p).2≠0):Utf8.decode s p=A6 s p/\Di s p (A6 s p).1=false:=by
 have u:=Pd s p;rw[JW];unfold A6 at a⊢;split at a
 .rename_i h;simp only[jH h];exact⟨trivial,Lo s p _ Z⟩
 rename_i h;simp only[jG h];split at a
 .rename_i f;simp only[jH f];obtain⟨c,b,l,m,n,d,e⟩:=JU a;obtain⟨i,j,k⟩:=Nc b;rw[d,jH Z,jH Z];exact⟨by simp only[iV,and_true];omega,Lo s p _ kC⟩
 rename_i f;simp only[jG f];split at a
 .rename_i g;simp only[jH g];obtain⟨c,b,l,m,n,d,e⟩:=JU a;obtain⟨i,j,k,r,t⟩:=Nd b;rw[d,jG Z,jH Z,jH Z];refine⟨by simp only[iV,and_true];omega,?_⟩;simp only;unfold Di;by_cases q:c=65533
  .have:=(Ih e).2 Z;simp[this,e]
  .simp[q]
 rename_i g;simp only[jG g];split at a
 .rename_i o;simp only[jH o];obtain⟨c,b,l,m,n,d,e⟩:=JU a;obtain⟨i,j,k,r,t,v,w⟩:=Pg b;rw[d,jG Z,jG Z,jH Z,jH Z];refine⟨by simp only[iV,and_true];omega,?_⟩;simp only;have:(c==65533)=false:=jX;simp[Di,this]
 .exact jO rfl a
theorem LG{s p}(f:(A6 s p).2=0):Di s p (Utf8.decode s p).1=true/\Utf8.decode s p=(65533,1):=by
 have x:=Pd s p;have u:=fun h=>NZ s (p+1) h
 have v:=fun h=>NZ s (p+2) h
 have w:=fun h=>NZ s (p+3) h
 have d:∀n i e c,BB s p e (n-1)=some c->n≠0->p+n<=s.size->A6 s p=Ej s p n i e->¬(c<i\/1114111<c\/(55296<=c/\c<57344))->False:=by intro n i e c m o q r t;rw[r,KY q m t]at f;exact o f
 have j:Utf8.decode s p=(65533,1):=by
  rw[JW];have b:¬bt s p<128:=fun h=>by simp[A6,h]at f
  rw[jG b];split
  .rename_i h;split
   .exfalso;refine d 2 128 (bt s p-192) _ (LC h.2) T ?_ ?_ ?_
    .by_cases a:p+2<=s.size
     .exact a
     .have:=u Z;omega
    .unfold A6;rw[jG b,jH Z]
    .omega
   .rfl
  .split
   .rename_i _ h;split
    .exfalso;refine d 3 2048 (bt s p-224) _ (Iz h.2.1 h.2.2) T ?_ ?_ ?_
     .by_cases a:p+3<=s.size
      .exact a
      .have:=v Z;omega
     .unfold A6;rw[jG b,jG Z,jH Z]
     .omega
    .rfl
   .split
    .rename_i _ h;split
     .exfalso;refine d 4 65536 (bt s p-240) _ (Ob h.2.1 h.2.2.1 h.2.2.2) T ?_ ?_ ?_
      .by_cases a:p+4<=s.size
       .exact a
       .have:=w Z;omega
      .unfold A6;rw[jG b,jG Z,jG Z,jH Z]
      .omega
     .rfl
    .rfl
 refine⟨?_,j⟩;rw[j];unfold Di;by_cases g:p+3<=s.size
 .by_cases l:(s.extract p (p+3)).toList=[239,191,189]
  .exfalso;have k:=(Ih g).1 l;refine d 3 2048 (bt s p-224) _ (Iz Z Z) T g ?_ ?_
   .unfold A6;rw[jG Z,jG Z,jH Z]
   .omega
  .simp[l]
 .simp[g]
def CO(k:Nat):Nat:=if k=0 then 0 else if k=1 then 1 else if k=2 then 3 else if k<=9 then 2 else 4
def Ao(t:PT):Tk:=⟨t.d9,t.l7,CO t.kind⟩
def Ok(s:ByteArray):Nat ⊕ Sc->Nat ⊕ List Tk
 |.inl q=>.inl q
 |.inr x=>.inr ((Dc s s.size x).cL.map Ao)
theorem Jq(r:Nat):Gy (r:Int)=J7 r:=by
 unfold Gy J7;have c:decide ((97:Int)<=r)=decide (97<=r):=decide_eq_decide.mpr Z;have d:decide ((r:Int)<=122)=decide (r<=122):=decide_eq_decide.mpr Z;have e:decide ((224:Int)<=r)=decide (224<=r):=decide_eq_decide.mpr Z;have f:decide ((r:Int)<=255)=decide (r<=255):=decide_eq_decide.mpr Z;have g:((r:Int) !=247)=(r !=247):=by
  by_cases h:r=247
  .subst h;rfl
  .have a:((r:Int) !=247)=true:=jX;have b:(r !=247)=true:=by simp[h]
   rw[a,b]
 rw[c,d,e,f,g]
theorem Kg(r:Nat):G6 (r:Int)=true↔(r=40\/r=41\/r=123\/r=125\/r=59\/r=61\/r=38\/r=42\/r=64\/r=46\/r=63):=by unfold G6;simp only[Bool.or_eq_true,beq_iff_eq];omega
theorem Rx{r:Nat}(h:G6 (r:Int)=true):CO (BN r)=4/\BN r≠0:=by rcases(Kg r).1 h with h|h|h|h|h|h|h|h|h|h|h<;>subst h<;>decide
theorem PR{r}(h:48<=r/\r<=51):CO (BN r)=3/\BN r≠0:=by have:r=48\/r=49\/r=50\/r=51:=Z;rcases this with h|h|h|h<;>subst h<;>decide
theorem Rw{r:Nat}(a:¬G6 (r:Int)=true)(b:¬(48<=r/\r<=51)):BN r=0:=by rw[Kg]at a;unfold BN;simp only[not_or]at a;rw[jG Z];simp[a]
theorem Sm(l):CO (Ec l)=if Vi l=true then 2 else 1:=by
 unfold Ec Vi;simp only[Bool.or_eq_true,beq_iff_eq];by_cases a:l=[102,110]
 .simp[a,CO]
 by_cases b:l=[118,97,114]
 .simp[b,CO]
 by_cases c:l=[110,101,119]
 .simp[c,CO]
 by_cases d:l=[114,101,116,117,114,110]
 .simp[d,CO]
 by_cases e:l=[105,102]
 .simp[e,CO]
 by_cases f:l=[101,108,115,101]
 .simp[f,CO]
 by_cases g:l=[119,104,105,108,101]
 .simp[g,CO]
 simp[a,b,c,d,e,f,g,CO]
theorem Yl{l}(h:Vi l=true):l.length<=6:=by unfold Vi at h;simp only[Bool.or_eq_true,beq_iff_eq]at h;rcases h with(((((h|h)|h)|h)|h)|h)|h<;>subst h<;>decide
theorem DA{s e x}(h:x.cD=0):Dc s e x=x:=by unfold Dc;rw[jG Z];cases x;simp only at h;subst h;rfl
theorem DC{s p x}(h:(A6 s p).2=0):AP s p (Utf8.decode s p).1 x=(x,p,false):=by simp[AP,(LG h).1]
theorem WW(s):∀(n p f g:Nat) (x:Sc),s.size-p<=n->s.size-p<=f->s.size-p<=g->x.rem=true->
 ((FQ s g p).2=false->AE s f p x=.inl (FQ s g p).1)/\
 ((FQ s g p).2=true->∃d,s.size-(FQ s g p).1<=d/\AE s f p x=AE s d (FQ s g p).1 x/\((FQ s g p).1<s.size->bt s (FQ s g p).1=10)):=by
 intro n;induction n with
 |zero=> intro p f g x v c k _;rw[KZ Z];exact⟨fun h=>by simp at h,fun _=>⟨f,c,rfl,fun h=>Z⟩⟩
 |succ n w=>
  intro p f g x v c k i;by_cases a:p<s.size/\bt s p≠10
  .by_cases b:(A6 s p).2=0
   .rw[SD k a.1 a.2 b];refine⟨fun _=>?_,fun h=>by simp at h⟩;rw[Ez c a.1 (by rw[DC b]),DC b]
   .obtain⟨r,u,q⟩:=N8 k a.1 a.2 b;obtain⟨j,t⟩:=DR b;have e:(A6 s p).1≠10:=fun h=>by have:=I4 b Z;omega
    have o:AP s p (Utf8.decode s p).1 x=(x,0,true):=by rw[j];simp only[AP,t,i];cases x;simp only at i;subst i;simp[e]
    obtain⟨d,m,l⟩:=Dz (x:=x) c a.1 (by rw[o]);rw[o,j]at l;rw[j]at m;have:=w (p+(A6 s p).2) d r x Z m u i;rw[q,l];exact this
  .rw[KZ a];exact⟨fun h=>by simp at h,fun _=>⟨f,c,rfl,fun h=>by
    by_cases e:bt s p=10
    .exact e
    .exact jO ⟨h,e⟩ a⟩⟩
theorem WY(s):∀(n p f g:Nat) (x:Sc),s.size-p<=n->s.size-p<=f->s.size-p<=g->x.rem=false->0<x.cD->x.cD<=8->
 (8<(Dt s g p x.cD).2->AE s f p x=.inl x.start)/\
 ((Dt s g p x.cD).2<=8->∃d,s.size-(Dt s g p x.cD).1<=d/\AE s f p x=AE s d (Dt s g p x.cD).1 ⟨x.cL,false,x.start,(Dt s g p x.cD).2⟩/\
   ¬((Dt s g p x.cD).1<s.size/\(A6 s (Dt s g p x.cD).1).2≠0/\Gy (A6 s (Dt s g p x.cD).1).1=true)):=by
 intro n;induction n with
 |zero=> intro p f g x F b v a B C;rw[JI Z];refine⟨fun h=>by simp only at h;omega,fun _=>⟨f,b,?_,fun h=>by simp only at h;omega⟩⟩;cases x;simp only at a;subst a;rfl
 |succ n G=>
  intro p f g x F b v a B C;by_cases l:p<s.size/\(A6 s p).2≠0/\Gy (A6 s p).1=true
  .obtain⟨j,w,i⟩:=l;obtain⟨q,E,m⟩:=OH (k:=x.cD) v j w i;obtain⟨e,t⟩:=DR w;have H:=EY s p j;rw[Jq]at i;by_cases r:8<x.cD+1
   .have I:=IP s q (p+(A6 s p).2) (x.cD+1) Z;rw[m];refine⟨fun _=>?_,fun h=>Z⟩;have c:AP s p (Utf8.decode s p).1 x=(Cr p x,x.start,false):=by rw[e];simp only[AP,t,a,i,jH r];simp only[Cr,jG (Z:¬x.cD=0)];simp
    rw[Ez b j (by rw[c]),c]
   .have c:AP s p (Utf8.decode s p).1 x=(Cr p x,0,true):=by rw[e];simp only[AP,t,a,i,jG r];simp
    obtain⟨d,u,o⟩:=Dz (x:=x) b j (by rw[c])
    rw[c,e]at o
    rw[e]at u
    have:=G (p+(A6 s p).2) d q (Cr p x) Z u E (by simp[Cr,a]) (by simp[Cr]) (by simp only[Cr];omega)
    rw[m,o]
    have y:(Cr p x).cD=x.cD+1:=rfl
    have z:(Cr p x).start=x.start:=by simp only[Cr,jG (Z:¬x.cD=0)]
    have A:(Cr p x).cL=x.cL:=rfl
    rw[y,z,A]at this
    exact this
  .rw[JI l];refine⟨fun h=>by simp only at h;omega,fun _=>⟨f,b,?_,l⟩⟩;cases x;simp only at a;subst a;rfl
theorem WX(s e f y)(m:e<=s.size)(n:s.size-e<=f)(l:y.rem=false)(i:¬(e<s.size/\(A6 s e).2≠0/\Gy (A6 s e).1=true)):
 Ok s (AE s f e y)=Ok s (AE s f e (Dc s e y)):=by
 by_cases a:e<s.size
 .have d:(AP s e (Utf8.decode s e).1 y).2=(AP s e (Utf8.decode s e).1 (Dc s e y)).2/\((AP s e (Utf8.decode s e).1 y).2.2=true->AP s e (Utf8.decode s e).1 y=AP s e (Utf8.decode s e).1 (Dc s e y)):=by
   by_cases b:(A6 s e).2=0
   .rw[DC b,DC b];exact⟨rfl,fun h=>by simp at h⟩
   .obtain⟨j,g⟩:=DR b;have k:J7 (A6 s e).1=false:=by
     have:¬Gy (A6 s e).1=true:=fun h=>i ⟨a,b,h⟩
     rw[Jq]at this;simpa using this
    have c:AP s e (Utf8.decode s e).1 y=AP s e (Utf8.decode s e).1 (Dc s e y):=by rw[j];simp only[AP,g,l,k,VO,DA (D9 s e y)];simp
    exact⟨by rw[c],fun _=>c⟩
  cases f with
  |zero=>omega
  |succ f=>
   simp only[AE,jH a];rw[<-d.1];split
   .rename_i h;rw[<-d.2 h]
   .rfl
 .have:e=s.size:=Z;subst this;rw[DV a,DV a];simp only[Ok,DA (D9 s s.size y)]
theorem Wi(s):∀(n p f g:Nat) (x:Sc),s.size-p<=n->s.size-p<=f->s.size-p<=g->x.rem=false->x.cD=0->
 BA s g p (x.cL.map Ao)=Ok s (AE s f p x):=by
 intro n;induction n with
 |zero=> intro p f g x hn C v A m;rw[Gp Z,DV Z];simp only[Ok,DA m]
 |succ n R=>
  intro p f g x hn C v A m;by_cases a:p<s.size
  case neg=> rw[Gp a,DV a];simp only[Ok,DA m]
  by_cases b:(A6 s p).2=0
  .rw[Dv (p:=p) v a (by simp[A9,b]),Ez C a (by rw[DC b]),DC b];rfl
  obtain⟨l,L⟩:=DR b;have b4:=EY s p a;by_cases i:(A6 s p).1=32\/(A6 s p).1=9\/(A6 s p).1=10
  .obtain⟨_,u⟩:=I4 b Z;obtain⟨K,E,z⟩:=CH (acc:=x.cL.map Ao) (t:=none) (j:=p+1) v a (by simp only[A9,jG b,jH i]);have y:J7 (A6 s p).1=false:=by rcases i with h|h|h<;>rw[h]<;>decide
   have d:AP s p (Utf8.decode s p).1 x=(x,0,true):=by rw[l];simp only[AP,L,A,y,DA m,DK,jH i];simp
   obtain⟨B,r,c⟩:=Dz (x:=x) C a (by rw[d]);rw[d,l,u]at c;rw[l,u]at r;rw[z,c];simp only[Option.toList,iP];exact R (p+1) B K x Z r E A m
  by_cases o:(A6 s p).1=35
  .obtain⟨b3,u⟩:=I4 b Z;have y:J7 (A6 s p).1=false:=by rw[o];decide
   have d:AP s p (Utf8.decode s p).1 x=(⟨x.cL,true,x.start,x.cD⟩,0,true):=by rw[l];simp only[AP,L,A,y,DA m,DK,jG i,jH o];simp
   obtain⟨B,r,c⟩:=Dz (x:=x) C a (by rw[d]);rw[d,l,u]at c;rw[l,u]at r;obtain⟨k,F,I⟩:=N8 (f:=s.size) Z a Z b;rw[u]at F I;have hw:=Lx s k (p+1) Z;obtain⟨G,H⟩:=WW s n (p+1) B k ⟨x.cL,true,x.start,x.cD⟩ Z r F rfl;by_cases Y:(FQ s k (p+1)).2=true
   .obtain⟨f2,U,S,a2⟩:=H Y;obtain⟨K,E,z⟩:=CH (acc:=x.cL.map Ao) (t:=none) (j:=(FQ s k (p+1)).1) v a (by simp only[A9,jG b,jG i,jH o,I,jH Y]);rw[z,c,S];simp only[Option.toList,iP];generalize (FQ s k (p+1)).1=q at*;by_cases P:q<s.size
    .have a2:=a2 P;have M:A6 s q=(10,1):=by unfold A6;rw[jH Z,a2]
     have b2:(A6 s q).2≠0:=by rw[M];decide
     obtain⟨a0,a7⟩:=DR b2;have a4:AP s q (Utf8.decode s q).1 ⟨x.cL,true,x.start,x.cD⟩=(⟨x.cL,false,x.start,x.cD⟩,0,true):=by rw[a0];simp only[AP,a7];simp[M]
     obtain⟨f3,a3,e3⟩:=Dz (x:=⟨x.cL,true,x.start,x.cD⟩) U P (by rw[a4]);obtain⟨g3,a8,a6⟩:=CH (acc:=x.cL.map Ao) (t:=none) (j:=q+1) E P (by simp[A9,M]);rw[a6,e3,a4,a0,M];rw[a0,M]at a3;simp only[Option.toList,iP];exact R (q+1) f3 g3 ⟨x.cL,false,x.start,x.cD⟩ Z a3 a8 rfl m
    .rw[Gp P,DV P];simp only[Ok];rw[DA (by exact m)]
   .have X:(FQ s k (p+1)).2=false:=by simpa using Y
    rw[c,G X,Dv (p:=(FQ s k (p+1)).1) v a (by simp only[A9,jG b,jG i,jH o,I,jG Y])];rfl
  by_cases w:Gy (A6 s p).1=true
  .have y:=w;rw[Jq]at y;have d:AP s p (Utf8.decode s p).1 x=(⟨x.cL,false,p,1⟩,0,true):=by rw[l];simp only[AP,L,A,y,Cr,m];simp
   obtain⟨B,r,c⟩:=Dz (x:=x) C a (by rw[d]);rw[d,l]at c;rw[l]at r;obtain⟨k,F,I⟩:=OH (f:=s.size) (k:=0) Z a b w;have hw:=IP s k (p+(A6 s p).2) (0+1) Z;have b5:=IP s s.size p 0 Z;obtain⟨G,H⟩:=WY s n (p+(A6 s p).2) B k ⟨x.cL,false,p,1⟩ Z r F rfl Nat.one_pos kC;rw[<-I]at hw;simp only at G H;rw[show(1:Nat)=0+1 from rfl,<-I]at G H;have a9:Vi (s.extract p (Dt s s.size p 0).1).toList=true->(Dt s s.size p 0).2<=8:=by intro h;have:=Yl h;rw[jS]at this;simp at this;have e:s.data.size=s.size:=rfl;omega
   by_cases h8:8<(Dt s s.size p 0).2
   .rw[c,G h8,Dv (p:=p) v a (by simp only[A9,jG b,jG i,jG o,jH w];rw[jG (fun h=>by have:=a9 h;omega),jH h8])]
    rfl
   .obtain⟨f2,U,S,X⟩:=H Z;rw[c,S];rw[WX s _ f2 _ hw.2.1 U rfl X];have hm:0<(Dt s s.size p 0).2:=Z;have hE:Dc s (Dt s s.size p 0).1 ⟨x.cL,false,p,(Dt s s.size p 0).2⟩=⟨x.cL++[⟨Ec (s.extract p (Dt s s.size p 0).1).toList,s.extract p (Dt s s.size p 0).1,p⟩],false,p,0⟩:=by simp only[Dc,jH hm]
    rw[hE];have V:A9 s p=.inr (some (Ao ⟨Ec (s.extract p (Dt s s.size p 0).1).toList,s.extract p (Dt s s.size p 0).1,p⟩),(Dt s s.size p 0).1):=by
     simp only[A9,jG b,jG i,jG o,jH w,Ao,Sm];by_cases F:Vi (s.extract p (Dt s s.size p 0).1).toList=true
     .simp only[jH F]
     .simp only[jG F,jG h8]
    obtain⟨K,E,z⟩:=CH (acc:=x.cL.map Ao) v a V;rw[z];have b1:s.size-(Dt s s.size p 0).1<=n:=by clear G H R c S X z V;omega
    have:=R (Dt s s.size p 0).1 f2 K ⟨x.cL++[⟨Ec (s.extract p (Dt s s.size p 0).1).toList,s.extract p (Dt s s.size p 0).1,p⟩],false,p,0⟩ b1 U E rfl rfl;rw[<-this];simp
  have y:J7 (A6 s p).1=false:=by rw[Jq]at w;simpa using w
  have a5:BN (A6 s p).1≠0->(A6 s p).1<128->A9 s p=.inr (some (Ao ⟨BN (A6 s p).1,s.extract p (p+1),p⟩),p+1)->BA s g p (x.cL.map Ao)=Ok s (AE s f p x):=by
   intro a1 b0 V;obtain⟨_,u⟩:=I4 b b0;have d:AP s p (Utf8.decode s p).1 x=(⟨x.cL++[⟨BN (A6 s p).1,s.extract p (p+1),p⟩],x.rem,x.start,x.cD⟩,0,true):=by rw[l];simp only[AP,L,A,y,DA m,DK,jG i,jG o,jG a1];simp
   obtain⟨B,r,c⟩:=Dz (x:=x) C a (by rw[d]);rw[d,l,u]at c;rw[l,u]at r;obtain⟨K,E,z⟩:=CH (acc:=x.cL.map Ao) v a V;rw[z,c];have:=R (p+1) B K ⟨x.cL++[⟨BN (A6 s p).1,s.extract p (p+1),p⟩],x.rem,x.start,x.cD⟩ Z r E A m;rw[<-this];simp
  by_cases N:48<=(A6 s p).1/\(A6 s p).1<=51
  .obtain⟨m1,m2⟩:=PR N;exact a5 m2 Z (by simp only[A9,jG b,jG i,jG o,jG w,jH N,Ao,m1])
  by_cases Q:G6 (A6 s p).1=true
  .obtain⟨m1,m2⟩:=Rx Q;exact a5 m2 (by rcases(Kg _).1 Q with h|h|h|h|h|h|h|h|h|h|h<;>omega) (by simp only[A9,jG b,jG i,jG o,jG w,jG N,jH Q,Ao,m1])
  .have a1:=Rw Q N;have d:AP s p (Utf8.decode s p).1 x=(x,p,false):=by rw[l];simp only[AP,L,A,y,DA m,DK,jG i,jG o,jH a1];simp
   rw[Dv (p:=p) v a (by simp only[A9,jG b,jG i,jG o,jG w,jG N,jG Q]),Ez C a (by rw[d]),d];rfl
theorem Ku(s):BA s s.size 0 []=Ok s (AE s s.size 0 ⟨[],false,0,0⟩):=
 Wi s s.size 0 s.size s.size ⟨[],false,0,0⟩ Z Z Z rfl rfl
def CW(k:Nat):List UInt8:=
 if k=3 then[102,110]else if k=4 then[118,97,114]else if k=5 then[110,101,119]else if k=6 then[114,101,116,117,114,110]else if k=7 then[105,102]else if k=8 then[101,108,115,101]else if k=9 then[119,104,105,108,101]
 else if k=10 then[40]else if k=11 then[41]else if k=12 then[123]else if k=13 then[125]else if k=14 then[59]else if k=15 then[61]else if k=16 then[38]else if k=17 then[42]else if k=18 then[64]else if k=19 then[46]else if k=20 then[63]else[]
def XJ(t:PT):Prop:=t.kind<=20/\(3<=t.kind->t.d9.toList=CW t.kind)
theorem PM:∀a,a<=20->3<=a->∀b,b<=20->3<=b->CW a=CW b->a=b:=by
 intro a e c b f d h;have:∀a b:Fin 21,3<=a.val->3<=b.val->CW a=CW b->a=b:=by decide+kernel
 have:=this ⟨a,Z⟩ ⟨b,Z⟩ c d h;exact congrArg Fin.val this
theorem Vd(l):Ec l<=20/\Ec l≠0/\(3<=Ec l->l=CW (Ec l)):=by
 unfold Ec;repeat' split
 all_goals(refine⟨T,T,fun h=>?_⟩)
 all_goals first|(rename_i e;rw[e];rfl)|omega
theorem Wn(r):BN r<=20:=by
 unfold BN;repeat' split
 all_goals decide
theorem Uo{s p}(a:p<s.size)(h:3<=BN (Utf8.decode s p).1):(s.extract p (p+1)).toList=CW (BN (Utf8.decode s p).1):=by
 have k:(Utf8.decode s p).1<128:=by
  generalize (Utf8.decode s p).1=r at*;by_cases f:r<128
  .exact f
  .exfalso;unfold BN at h;rw[jG Z,jG Z,jG Z,jG Z,jG Z,jG Z,jG Z,jG Z,jG Z,jG Z,jG Z,jG Z]at h;omega
 have g:(s[p]'a).toNat<128:=by
  by_cases d:(s[p]'a).toNat<128
  .exact d
  .have:=(decode_high s p a Z).1;omega
 have e:(s.extract p (p+1)).toList=[s[p]'a]:=by
  rw[jS,jR];have j:p<s.data.size:=a;apply List.ext_getElem?;intro i;rcases i with _|i
  .have:s.data[p]? =some (s[p]'a):=Array.getElem?_eq_getElem j;simpa using this
  .simp;omega
 have b:(Utf8.decode s p).1=(s[p]'a).toNat:=by rw[decode_ascii s p a g]
 rw[b]at h⊢;rw[e];generalize s[p]'a=c at*;have:∀n:Fin 256,3<=BN n->[UInt8.ofNat n]=CW (BN n):=by decide+kernel
 have:=this ⟨c.toNat,c.toNat_lt⟩ h;simpa using this
structure Vq(s:ByteArray)(p:Nat)(x:Sc):Prop where
 lit:∀t,t∈x.cL->XJ t/\t.kind≠0/\t.d9.size<=s.size
 eF:x.cL.Pairwise (fun a b=>a.l7<b.l7)
 top:∀t,t∈x.cL->t.l7<(if 0<x.cD then x.start else p)
 st:0<x.cD->x.start<p
theorem Vq.more{s p q x}(h:Vq s p x)(c:p<=q):Vq s q x:=
 ⟨h.lit,h.eF,fun t b=>by have:=h.top t b;split at this<;>split<;>omega,fun a=>by have:=h.st a;omega⟩
theorem LH(s:ByteArray)(a b:Nat):(s.extract a b).size<=s.size:=by
 have:(s.extract a b).data.size<=s.data.size:=by rw[jR];simp;omega
 exact this
theorem Vq.dH{s p x}(h:Vq s p x):Vq s p (Dc s p x):=by
 have d:=h.top;unfold Proofs.YtaningfhibkemaaGreatDoor.Dc;split
 .rename_i e;have f:=h.st e;simp only[jH e]at d;obtain⟨j,k,l⟩:=Vd (s.extract x.start p).toList;refine⟨fun t c=>?_,?_,fun t c=>?_,fun q=>jO q jY⟩
  .rcases iM.1 c with q|q
   .exact h.lit t q
   .rw[iB.1 q];exact⟨⟨j,l⟩,k,LH _ _ _⟩
  .refine List.pairwise_append.2 ⟨h.eF,jY,fun a g b i=>?_⟩;rw[iB.1 i];exact d a g
  .simp only[Nat.lt_irrefl,if_false];rcases iM.1 c with q|q
   .have:=d t q;omega
   .rw[iB.1 q];exact f
 .rename_i e;simp only[jG e]at d;exact⟨h.lit,h.eF,fun t c=>by simp only[Nat.lt_irrefl,if_false];exact d t c,fun q=>jO q jY⟩
theorem Xj{s p x}(u:p<s.size)(h:Vq s p x)(f:(AP s p (Utf8.decode s p).1 x).2.2=true):Vq s (p+1) (AP s p (Utf8.decode s p).1 x).1:=by
 unfold AP at f⊢;split
 .rename_i c;simp[c]at f
 .split
  .have:=h.more (Nat.le_succ p);exact⟨this.lit,this.eF,this.top,this.st⟩
  .split
   .rename_i c m l;simp only[c,m,l,if_true]at f;split
    .rename_i n;simp[n]at f
    .refine⟨h.lit,h.eF,fun t e=>?_,fun _=>?_⟩
     .have:=h.top t e;simp only[Cr,Nat.zero_lt_succ,if_true];by_cases k:x.cD=0
      .simp only[k,if_true];rw[k]at this;exact this
      .simp only[jG k];rwa [jH Z]at this
     .simp only[Cr];split
      .omega
      .have:=h.st Z;omega
   .rename_i c m l;simp only[c,m,l]at f;have d:=h.dH;have j:=D9 s p x;have i:=d.top;rw[j]at i;simp only[Nat.lt_irrefl,if_false]at i;unfold DK;split
    .exact d.more Z
    .split
     .have:=d.more (Nat.le_succ p);exact⟨this.lit,this.eF,this.top,this.st⟩
     .split
      .exact d.more Z
      .rename_i r;refine⟨fun t e=>?_,?_,fun t e=>?_,fun q=>?_⟩
       .rcases iM.1 e with q|q
        .exact d.lit t q
        .rw[iB.1 q];exact⟨⟨Wn _,fun g=>Uo u g⟩,r,LH _ _ _⟩
       .refine List.pairwise_append.2 ⟨d.eF,jY,fun a o b c=>?_⟩;rw[iB.1 c];exact i a o
       .simp only[j,Nat.lt_irrefl,if_false];rcases iM.1 e with q|q
        .have:=i t q;omega
        .rw[iB.1 q];exact Nat.lt_succ_self p
       .simp only[j]at q;omega
theorem TV(s p)(a:p<s.size):p+(Utf8.decode s p).2<=s.size:=by
 by_cases b:(A6 s p).2=0
 .rw[(LG b).2];exact a
 .rw[(DR b).1];exact(EY s p a).1
theorem Mp(s:ByteArray):∀(f p:Nat) (x y:Sc),p<=s.size->Vq s p x->AE s f p x=.inr y->Vq s s.size y
 |0,p,x,y,b,h,e=>by have:=Sum.inr.inj e;subst this;exact h.more b
 |f+1,p,x,y,b,h,e=>by
  unfold AE at e;split at e
  .rename_i a;have d:=Gn s p a;split at e
   .rename_i c;exact Mp s f _ _ y (TV s p a) ((Xj a h c).more Z) e
   .cases e
  .have:=Sum.inr.inj e;subst this;exact h.more b
structure TksOk(N:Nat)(l:List PT):Prop where
 pos:0<l.length
 lit:∀t,t∈l->XJ t
 len:∀t,t∈l->t.d9.size<=N/\t.l7<=N
 eF:l.Pairwise (fun a b=>a.l7<b.l7)
 last:∃t,l[l.length-1]? =some t/\t.kind=0/\t.d9=ByteArray.empty/\t.l7=N
 d8:∀i t,i<l.length-1->l[i]? =some t->t.kind≠0
theorem Je(s:ByteArray):s.extract s.size s.size=ByteArray.empty:=by
 apply ByteArray.ext;rw[jR];have:s.data.size=s.size:=rfl;apply Array.ext
 .simp
 .intro i a b;simp at a
theorem RU{s y}(h:AE s s.size 0 ⟨[],false,0,0⟩=.inr y):TksOk s.size (Av s y):=by
 have n:Vq s s.size y:=Mp s _ 0 _ _ (gV _) ⟨jY,jY,jY,jY⟩ h;have c:=n.dH;have k:=D9 s s.size y;have d:=c.top;rw[k]at d;simp only[Nat.lt_irrefl,if_false]at d;unfold Av;rw[Je];refine⟨jY,fun t e=>?_,fun t e=>?_,?_,?_,fun i t j f=>?_⟩
 .rcases iM.1 e with q|q
  .exact(c.lit t q).1
  .rw[iB.1 q];exact⟨gV _,fun g=>jO (show 3<=0 from g) T⟩
 .rcases iM.1 e with q|q
  .exact⟨(c.lit t q).2.2,Nat.le_of_lt (d t q)⟩
  .rw[iB.1 q];exact⟨gV _,gI _⟩
 .refine List.pairwise_append.2 ⟨c.eF,jY,fun a l b m=>?_⟩;rw[iB.1 m];exact d a l
 .exact⟨⟨0,ByteArray.empty,s.size⟩,jY,rfl,rfl,rfl⟩
 .simp only[gM,iC,Nat.add_sub_cancel]at j;rw[jJ j]at f;exact(c.lit t (List.mem_of_getElem? f)).2.1
theorem Bq(l i):tokAt (l.map Ao) i=Ao (Aj l i):=by unfold tokAt Aj;rw[iL];cases l[i]? <;>rfl
theorem GT{l i}(h:i<l.length):Aj l i∈l:=by unfold Aj;rw[gL h];exact gQ h
theorem TksOk.end_{N l}(h:TksOk N l):(Aj l (l.length-1)).kind=0:=by obtain⟨t,a,b,_⟩:=h.last;unfold Aj;rw[a];exact b
theorem Hu(k):CO k=1↔k=1:=by
 unfold CO;repeat' split
 all_goals omega
theorem QC(k):CO k=3↔k=2:=by
 unfold CO;repeat' split
 all_goals omega
theorem Sd(k):CO k=0↔k=0:=by
 unfold CO;repeat' split
 all_goals omega
theorem Ms(k):(CO k=2\/CO k=4)↔3<=k:=by
 unfold CO;repeat' split
 all_goals omega
theorem Uk:∀k,3<=k->k<=20->CW k≠[]:=by
 intro k a b;have:∀k:Fin 21,3<=k.val->CW k≠[]:=by decide+kernel
 exact this ⟨k,Z⟩ a
theorem PC{t}(h:XJ t){k}(b:3<=k)(a:k<=20):Pz (Ao t) (CW k)=true↔t.kind=k:=by
 unfold Pz Ao;simp only[Bool.and_eq_true,beq_iff_eq,Bool.or_eq_true];rw[Ms];constructor
 .rintro⟨e,g⟩;exact PM _ h.1 g _ a b ((h.2 g).symm.trans e)
 .intro e;exact⟨by rw[<-e];exact h.2 Z,Z⟩
theorem Sn{t}(h:XJ t){k}(b:3<=k)(a:k<=20):AF (Ao t)=CW k↔t.kind=k:=by
 unfold AF Ao;simp only[Ms];split
 .rename_i g;exact⟨fun e=>PM _ h.1 g _ a b ((h.2 g).symm.trans e),fun e=>by rw[<-e];exact h.2 g⟩
 .rename_i g;exact⟨fun e=>jO e.symm (Uk k b a),fun e=>Z⟩
def Lg(n:Nat)(x:PS)(y:St):Prop:=x.cH=false/\y.cB=none/\y.bZ=x.next/\x.next<n
def NQ(n:Nat)(x:PS)(p:Nat):Prop:=x.cH=true/\x.cW=p/\x.next=n-1
def Al(n:Nat)(x:PS)(y:St):Prop:=Lg n x y\/∃p,NQ n x p/\y.cB=some p
section
variable{N:Nat}{j:List PT}(H:TksOk N j)
include H
theorem ES{k:Nat}(f:k≠0){x:PS}{p:Nat}(h:NQ j.length x p):NQ j.length (Af j j.length k x) p:=by obtain⟨b,c,d⟩:=h;have a:=H.end_;unfold Af;rw[d,a,jG (fun e=>f e.symm)];exact⟨rfl,by simp[Ii,b,c],rfl⟩
theorem Me{x:PS}{p:Nat}(h:NQ j.length x p)(f:Nat)(a:List PT):DH j f x a=(a,x):=
 Ho (by rw[h.2.2,H.end_];decide)
theorem Md{x:PS}{p:Nat}(h:NQ j.length x p):NQ j.length (Br j j.length x).2 p:=by unfold Br;have a:=ES H (k:=10) T h;simp only[Me H a];exact ES H T a
theorem Wu{x:PS}{p:Nat}(h:NQ j.length x p):NQ j.length (Cm j j.length x).2 p:=by
 have a:=fun(k:Nat) (b:k≠0) {x:PS} (h:NQ j.length x p)=>ES H b h
 unfold Cm;split
 .exact a 5 T h
 .split
  .unfold EX;simp only;split
   .exact a 2 T (a 19 T (a 1 T (a 16 T h)))
   .exact a 1 T (a 16 T h)
  .split
   .exact a 1 T (a 17 T h)
   .split
    .exact a 1 T (a 18 T h)
    .split
     .exact Md H (a 11 T (a 1 T (a 17 T (a 10 T h))))
     .split
      .exact Md H (a 1 T h)
      .exact a 1 T h
omit H in
theorem Dy(a L){y p}(h:y.cB=some p):(Aw a L y).cB=some p:=by unfold Aw E8;simp[Bs,h,Fv]
omit H in
theorem Jx(a k){y p}(h:y.cB=some p):(Bm a k y).2.cB=some p:=by unfold Bm De;simp[h,Fv]
omit H in
theorem Qp(c f b p a):DG c f b (some p) a=(a,b,some p):=Ge jY
omit H in
theorem Hr(a){y p}(h:y.cB=some p):(BQ a y).2.cB=some p:=by unfold BQ CM;simp only[h,Qp];simp[E8,Bs,Fv]
omit H in
theorem Qq(a){y p}(s)(h:y.cB=some p):(C0 a y s).2.cB=some p:=by
 have E:=fun(L:List UInt8) {y:St} (h:y.cB=some p)=>Dy a L h
 have G:=fun(k:Nat) {y:St} (h:y.cB=some p)=>Jx a k h
 have I:=fun{y:St} (h:y.cB=some p)=>Hr a h
 unfold C0;split
 .exact E _ h
 .split
  .simp only;split
   .exact G _ (E _ (G _ (E _ h)))
   .exact G _ (E _ h)
  .split
   .exact G _ (E _ h)
   .split
    .exact G _ (E _ h)
    .split
     .exact I (y:=⟨_,_,_,_⟩) (E _ (E _ (G _ (E _ (E _ h)))))
     .simp only;split
      .exact I (E _ (G _ h))
      .exact G _ h
theorem Iw{k:Nat}(l:3<=k)(i:k<=20){x:PS}{y:St}(h:Al j.length x y):Al j.length (Af j j.length k x) (Aw (j.map Ao) (CW k) y):=by
 rcases h with⟨d,b,m,n⟩|⟨p,o,r⟩
 .have q:=H.lit _ (GT n);have f:=PC q l i;have g:=H.end_;unfold Af Aw E8;rw[m,Bq];by_cases a:(Aj j x.next).kind=k
  .have c:Bs y.cB (Ao (Aj j x.next)) (CW k)=true:=by simp[Bs,b,f.2 a]
   rw[jH a,jG Z,jH c];have s:x.next≠j.length-1:=fun e=>by rw[e,g]at a;omega
   exact .inl ⟨d,b,rfl,kC⟩
  .have c:¬Bs y.cB (Ao (Aj j x.next)) (CW k)=true:=by simp only[Bs,Bool.and_eq_true,not_and];intro _ e;exact a (f.1 e)
   rw[jG a,jG c]
   exact .inr ⟨(Aj j x.next).l7,⟨rfl,by simp[Ii,d],rfl⟩,by simp[Fv,b,Ao]⟩
 .exact .inr ⟨p,ES H Z o,Dy _ _ r⟩
theorem NU{k so:Nat}(n:(k=1/\so=1)\/(k=2/\so=3)){x:PS}{y:St}(h:Al j.length x y):Al j.length (Af j j.length k x) (Bm (j.map Ao) so y).2/\(Bm (j.map Ao) so y).1=Ao (AG j k x):=by
 rcases h with⟨d,b,m,o⟩|⟨p,f,i⟩
 .have g:CO (Aj j x.next).kind=so↔(Aj j x.next).kind=k:=by
   rcases n with⟨rfl,rfl⟩|⟨rfl,rfl⟩
   .exact Hu _
   .exact QC _
  have l:=H.end_
  unfold Af Bm De AG
  rw[m,Bq]
  by_cases a:(Aj j x.next).kind=k
  .have c:y.cB.isNone=true/\(Ao (Aj j x.next)).sort=so:=⟨by simp[b],g.2 a⟩
   simp only[jH a,jH c];rw[jG Z];have q:x.next≠j.length-1:=fun e=>by rw[e,l]at a;omega
   exact⟨.inl ⟨d,b,rfl,kC⟩,trivial⟩
  .have c:¬(y.cB.isNone=true/\(Ao (Aj j x.next)).sort=so):=fun e=>a (g.1 e.2)
   simp only[jG a,jG c];exact⟨.inr ⟨(Aj j x.next).l7,⟨rfl,by simp[Ii,d],rfl⟩,by simp[Fv,b,Ao]⟩,rfl⟩
 .refine⟨.inr ⟨p,ES H Z f,Jx _ _ i⟩,?_⟩;unfold Bm De AG;rw[jG (by simp[i]),jG (by rw[f.2.2,H.end_];omega)];rfl
theorem Hf{k:Nat}(c:3<=k)(b:k<=20){x:PS}{y:St}(h:Al j.length x y):Bs y.cB (tokAt (j.map Ao) y.bZ) (CW k)=true↔(Aj j x.next).kind=k:=by
 rcases h with⟨i,a,d,e⟩|⟨p,f,g⟩
 .rw[d,Bq,<-PC (H.lit _ (GT e)) c b];simp[Bs,a]
 .rw[f.2.2,H.end_];simp[Bs,g];omega
theorem Hj{k:Nat}(b:3<=k)(a:k<=20){x:PS}{y:St}(h:Lg j.length x y):AF (tokAt (j.map Ao) y.bZ)=CW k↔(Aj j x.next).kind=k:=by obtain⟨e,f,c,d⟩:=h;rw[c,Bq];exact Sn (H.lit _ (GT d)) b a
theorem V7:∀(m f g:Nat) (x:PS) (a:List PT),j.length-1-x.next<=m->j.length-1-x.next<=f->j.length-1-x.next<=g->x.next<j.length->
 DG (j.map Ao) g x.next none (a.map Ao)=((DH j f x a).1.map Ao,(DH j f x a).2.next,none)/\(DH j f x a).2.cH=x.cH/\(DH j f x a).2.cW=x.cW/\(DH j f x a).2.next<j.length:=by
 intro m;induction m with
 |zero=> intro f g x a s h i b;have e:x.next=j.length-1:=Z;have d:=H.end_;rw[<-e]at d;rw[Ho (by rw[d];decide),Ge (by rw[Bq];simp[Ao,d,CO])];exact⟨rfl,rfl,rfl,b⟩
 |succ m v=>
  intro f g x a s h i b;by_cases c:(Aj j x.next).kind=1
  .obtain⟨k,q,l,n⟩:=Tb (acc:=a) h b H.end_ c;have u:(tokAt (j.map Ao) ((j.length)-1)).sort=0:=by rw[Bq];simp[Ao,H.end_,CO]
   have t:(tokAt (j.map Ao) x.next).sort=1:=by rw[Bq];exact(Hu _).2 c
   obtain⟨_,r,o,p⟩:=S3 (acc:=a.map Ao) i b u ⟨rfl,t⟩;rw[n,p];have:=v q r ⟨x.next+1,x.cH,x.cW⟩ (a++[Aj j x.next]) kC l o k;rw[jP,List.map_singleton,<-Bq]at this;exact this
  .rw[Ho c,Ge (by rw[Bq];intro e;exact c ((Hu _).1 e.2))];exact⟨rfl,rfl,rfl,b⟩
theorem NW{x:PS}{y:St}(h:Al j.length x y):Al j.length (Af j j.length 11 (DH j j.length x []).2) (BQ (j.map Ao) y).2/\(BQ (j.map Ao) y).1=(DH j j.length x []).1.map Ao:=by
 rcases h with⟨i,l,m,n⟩|⟨p,f,g⟩
 .obtain⟨a,b,c,d⟩:=V7 H j.length j.length j.length x [] Z Z Z n;have e:=Iw H (k:=11) T T (x:=(DH j j.length x []).2) (y:=⟨(DH j j.length x []).2.next,none,y.pl,y.ca⟩) (.inl ⟨by rw[b,i],rfl,rfl,d⟩);unfold BQ CM;rw[m,l];simp only[iJ];rw[List.map_nil]at a;rw[a];exact⟨e,rfl⟩
 .refine⟨.inr ⟨p,?_,Hr _ g⟩,?_⟩
  .rw[Me H f];exact ES H T f
  .rw[Me H f];unfold BQ CM;simp only[g,Qp];rfl
end
def Du(k:Nat):Nat:=if k=4 then 6 else if k=5 then 5 else k+1
structure VC(v:VS)(u s:FS):Prop where
 kind:u.kind=Du v.kind
 q:u.q=Ao v.sr
 args:u.args=v.args.map Ao
 field:v.kind=3->u.field=v.field
 p:u.p=s.p
 cJ:u.cJ=s.cJ
 other:u.other=s.other
 br:u.br=s.br
 dG:u.dG=s.dG
 cS:u.cS=s.cS
theorem TW{t}(h:Zb t)(f:t.kind=2)(a):Pj t.d9.toList a 4=JX t:=by
 have e:∀c:UInt8,(⟨#[c]⟩:ByteArray).toList=[c]:=fun c=>by rw[jS]
 rcases h f with q|q|q|q<;>(unfold JX;rw[q,e];simp[Pj])
section
variable{N:Nat}{b:List PT}(H:TksOk N b)(d:DigOk b)
include H d
omit H d in
theorem Gg{k x}(h:(Af b b.length k x).cH=false):(Aj b x.next).kind=k/\x.cH=false/\AG b k x=Aj b x.next:=by
 unfold Af at h;split at h
 .rename_i a;refine⟨a,?_,by unfold AG;rw[jH a]⟩;split at h<;>exact h
 .simp[Ii]at h
theorem Zh{x:PS}{y:St}(s:FS)(j:s.args=[])(hq:s.q=My)(h:Lg b.length x y):
 Al b.length (Cm b b.length x).2 (C0 (b.map Ao) y s).2/\((Cm b b.length x).2.cH=false->VC (Cm b b.length x).1 (C0 (b.map Ao) y s).1 s):=by
 have A:Al b.length x y:=.inl h;have l:=fun(k:Nat) (B:3<=k) (z:k<=20)=>Hj H B z h
 have N:=l 5 T T;have K:=l 16 T T;have L:=l 17 T T;have M:=l 18 T T;have I:=l 10 T T;have E:=fun(k:Nat) (B:3<=k) (z:k<=20) {x:PS} {y:St} (h:Al b.length x y)=>Iw H B z h
 have G:=fun{x:PS} {y:St} (h:Al b.length x y)=>NU H (k:=1) (so:=1) T h
 simp only[CW,Nat.reduceEqDiff,if_true,if_false]at N K L M I;unfold C0 Cm;by_cases u:(Aj b x.next).kind=5
 .rw[jH (N.2 u),jH u];have c:=E 5 T T A;refine⟨?_,fun _=>⟨rfl,hq,j,fun e=>jO e jY,rfl,rfl,rfl,rfl,rfl,rfl⟩⟩;rcases c with a|a
  .exact .inl a
  .exact .inr a
 rw[jG (fun e=>u (N.1 e)),jG u];by_cases o:(Aj b x.next).kind=16
 .rw[jH (K.2 o),jH o];have c:=E 16 T T A;obtain⟨f,i⟩:=G c;have F:=Hf H (k:=19) T T f;simp only[CW,Nat.reduceEqDiff,if_true,if_false]at c f i F;unfold EX;by_cases t:(Aj b (Af b b.length 1 (Af b b.length 16 x)).next).kind=19
  .simp only[jH (F.2 t),jH t];have g:=E 19 T T f;obtain⟨P,S⟩:=NU H (k:=2) (so:=3) T g;simp only[CW,Nat.reduceEqDiff,if_true,if_false]at g P S;refine⟨P,fun hg=>⟨rfl,i,j,fun _=>?_,rfl,rfl,rfl,rfl,rfl,rfl⟩⟩;obtain⟨g1,g2,U⟩:=Gg hg;rw[S];simp only[Ao];have a0:(Af b b.length 19 (Af b b.length 1 (Af b b.length 16 x))).next<b.length:=by
    rcases g with a|⟨p,a,_⟩
    .exact a.2.2.2
    .have:=a.2.2;have:=H.pos;omega
   exact TW (by rw[U];exact d _ (GT a0)) (by rw[U];exact g1) _
  .simp only[jG (fun e=>t (F.1 e)),jG t];exact⟨f,fun _=>⟨rfl,i,j,fun e=>jO e jY,rfl,rfl,rfl,rfl,rfl,rfl⟩⟩
 rw[jG (fun e=>o (K.1 e)),jG o];by_cases q:(Aj b x.next).kind=17
 .rw[jH (L.2 q),jH q];have c:=E 17 T T A;obtain⟨f,i⟩:=G c;exact⟨f,fun _=>⟨rfl,i,j,fun e=>jO e jY,rfl,rfl,rfl,rfl,rfl,rfl⟩⟩
 rw[jG (fun e=>q (L.1 e)),jG q];by_cases r:(Aj b x.next).kind=18
 .rw[jH (M.2 r),jH r];have c:=E 18 T T A;obtain⟨f,i⟩:=G c;exact⟨f,fun _=>⟨rfl,i,j,fun e=>jO e jY,rfl,rfl,rfl,rfl,rfl,rfl⟩⟩
 rw[jG (fun e=>r (M.1 e)),jG r];by_cases n:(Aj b x.next).kind=10
 .rw[jH (I.2 n),jH n];have f:=E 17 T T (E 10 T T A);obtain⟨g,w⟩:=G f;have Q:=E 10 T T (E 11 T T g);unfold IY Br;generalize a8:Aw (b.map Ao) (CW 10) (Aw (b.map Ao) (CW 11) (Bm (b.map Ao) 1 (Aw (b.map Ao) (CW 17) (Aw (b.map Ao) (CW 10) y))).2)=m at Q;have a9:Aw (b.map Ao) [40] (Aw (b.map Ao) [41] (Bm (b.map Ao) 1 (Aw (b.map Ao) [42] (Aw (b.map Ao) [40] y))).2)=m:=a8;simp only;rw[a9];have V:Al b.length (Af b b.length 10 (Af b b.length 11 (Af b b.length 1 (Af b b.length 17 (Af b b.length 10 x))))) ⟨m.bZ,m.cB,m.pl,m.ca+1⟩:=Q;obtain⟨X,Y⟩:=NW H V;exact⟨X,fun _=>⟨rfl,w,Y,fun e=>jO e jY,rfl,rfl,rfl,rfl,rfl,rfl⟩⟩
 rw[jG (fun e=>n (I.1 e)),jG n];obtain⟨c,R⟩:=G A;have C:=Hf H (k:=10) T T c;simp only[CW,Nat.reduceEqDiff,if_true,if_false]at C;by_cases v:(Aj b (Af b b.length 1 x).next).kind=10
 .simp only[jH (C.2 v),jH v];have f:=E 10 T T c;obtain⟨g,w⟩:=NW H f;unfold Br;exact⟨g,fun _=>⟨rfl,R,w,fun e=>jO e jY,rfl,rfl,rfl,rfl,rfl,rfl⟩⟩
 .simp only[jG (fun e=>v (C.1 e)),jG v];exact⟨c,fun _=>⟨rfl,R,j,fun e=>jO e jY,rfl,rfl,rfl,rfl,rfl,rfl⟩⟩
structure SC(v:VS)(u:FS)(inn:Nat):Prop where
 kind:u.kind=Du v.kind
 cR:v.kind<=10
 p:u.p=Ao v.tg
 q:u.q=Ao v.sr
 args:u.args=v.args.map Ao
 field:v.kind=3->u.field=v.field
 cS:u.cS=inn
omit H d in
theorem QL(b n x):1<=(Cm b n x).1.kind/\(Cm b n x).1.kind<=8:=by
 unfold Cm;split
 .simp
 .split
  .unfold EX;simp only;split<;>simp
  .split
   .simp
   .split
    .simp
    .split
     .simp[IY]
     .split<;>simp
theorem Vu{x:PS}{y:St}(g:Nat)(h:Lg b.length x y):
 Al b.length (AS b b.length x).2 (Ba (b.map Ao) g y).2/\((AS b b.length x).2.cH=false->SC (AS b b.length x).1 (Ba (b.map Ao) g y).1 g):=by
 have A:Al b.length x y:=.inl h;have m:=fun(k:Nat) (o:3<=k) (n:k<=20)=>Hj H o n h
 have r:=m 4 T T;have s:=m 6 T T;have q:=m 17 T T;have E:=fun(k:Nat) (o:3<=k) (n:k<=20) {x:PS} {y:St} (h:Al b.length x y)=>Iw H o n h
 have G:=fun{x:PS} {y:St} (h:Al b.length x y)=>NU H (k:=1) (so:=1) T h
 simp only[CW,Nat.reduceEqDiff,if_true,if_false]at r s q;unfold Ba AS;by_cases j:(Aj b x.next).kind=4
 .rw[jH (r.2 j),jH j];obtain⟨a,c⟩:=G (E 4 T T A);exact⟨a,fun _=>⟨rfl,kC,c,rfl,rfl,fun e=>jO e jY,rfl⟩⟩
 rw[jG (fun e=>j (r.1 e)),jG j];by_cases l:(Aj b x.next).kind=6
 .rw[jH (s.2 l),jH l];obtain⟨a,c⟩:=G (E 6 T T A);exact⟨a,fun _=>⟨rfl,kC,rfl,c,rfl,fun e=>jO e jY,rfl⟩⟩
 rw[jG (fun e=>l (s.1 e)),jG l];by_cases i:(Aj b x.next).kind=17
 .rw[jH (q.2 i),jH i];obtain⟨a,c⟩:=G (E 17 T T A);obtain⟨z,K⟩:=G (E 15 T T a);exact⟨z,fun _=>⟨rfl,kC,c,K,rfl,fun e=>jO e jY,rfl⟩⟩
 rw[jG (fun e=>i (q.1 e)),jG i];obtain⟨u,F⟩:=G A;have a:=E 15 T T u;have L:=QL b b.length (Af b b.length 15 (Af b b.length 1 x));simp only;rcases a with a|⟨p,B,C⟩
 .obtain⟨w,I⟩:=Zh H d {Cv g (-1)with p:=(Bm (b.map Ao) 1 y).1} rfl rfl a;refine⟨w,fun f=>?_⟩;have v:=I f;exact⟨v.kind,kC,v.p.trans F,v.q,v.args,v.field,v.cS⟩
 .have t:=Wu H B;refine⟨.inr ⟨p,t,Qq _ _ C⟩,fun f=>?_⟩;rw[t.1]at f;cases f
end
