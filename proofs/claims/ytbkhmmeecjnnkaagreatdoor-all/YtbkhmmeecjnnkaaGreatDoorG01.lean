/- Part of the proof. -/
import Derived.Test.YtbkhmmeecjnnkaaGreatDoorG00
import Derived.Below
import Derived.Laws.RangeAny
import Derived.Laws.Strings
import Derived.Test.YtbkhmmeecjnnkaaGreatDoorProg
import Derived.WalkKit
import Derived.WalkSpells
import Derived.WalkLawsBesides
import Derived.RegionTactic
import Derived.ChangeAlike
import Derived.BigRegion
import Derived.Deep.QuietTactic
import Derived.BigQuiet
import Derived.Deep.RegionLaw
import Derived.Deep.DeepCutAuto
import Derived.Lib.OthersKept
import Derived.Deep.RegionWith
set_option maxRecDepth 100000
set_option maxHeartbeats 2000000
namespace Go.Proofs.YtbkhmmeecjnnkaaGreatDoor
open Go.Proofs.Tryz Go.RowKit
open Option renaming none->Z,some->T
open Value renaming int->G,slice->Y,pointer->Z',string->Y',tuple->P',bool->O',agg->N',ownBlock->L'
open IntKind renaming i64->A
open Ending renaming returned->T'
open Obj renaming cells->R'
open List renaming length->L
open World renaming cell?->K',ownsRow->J'
open Go renaming World->I',Value->H',Calls->F',maxLen->E',Addr->A',results->zz
open Go.Proofs.Tryz renaming prog->zy
open Go.RowKit renaming Below->zx,intOf->zm
open _root_ renaming Nat->M,Int->zw,False->zv,rfl->Q,decide->zu
open Bool renaming true->zt,false->zr
open Or renaming inl->zo,inr->zn
variable {u4:Act}{z5:Array Oper}{q1:Cg}{u0:Cd}{q8:Int}{v9:List (Ci)}{y1:Ci}{B C R X o1 p0 v0:Nat}{z1:Nat->Prop}{p3:Oper}{q4:Program}{n8 q0:TypeId}{V o3 o4 r4 s0 t3 u1 v2 v3 x2 x3 y3 y4 z0 z3 z4:Value}{P v1 y0:World}{p8:World->Prop}
def bt(s:Cd)(i:M):M:=(s.data[i]?.getD 0).toNat
theorem gN(s i):bt s i<256:=by grind[bt,UInt8.toNat_lt]
theorem II(s i)(h:i<s.size):bt s i=(s[i]'h).toNat:=by unfold bt;have a:i<s.data:=h;rw[Array.getElem?_eq_getElem a];rfl
def Eo(s:Cd)(i:M)(a:M):M->Option M
 |0=>T a
 |m+1=>match Eo s i a m with
  |none=>Z
  |some c=>if bt s (i+1+m)<128\/191<bt s (i+1+m)then Z else T (c*64+bt s (i+1+m)-128)
theorem QA(h:Eo u0 B C R=Z):∀k,Eo u0 B C (R+k)=Z
 |0=>h
 |k+1=>by show Eo u0 B C ((R+k)+1)=Z;simp only[Eo,QA h k]
theorem JZ(h:Eo u0 B C R=Z)(a:R<=X):Eo u0 B C X=Z:=by have:=QA h<|X-R;grind
theorem Oi(h:Eo u0 B C R=T X)(a:bt u0 (B+1+R)<128\/191<bt u0 (B+1+R)):Eo u0 B C (R+1)=Z:=by grind[Eo]
theorem Ik{m c}(h:Eo u0 B C m=T c)(a:128<=bt u0 (B+1+m))(b:bt u0 (B+1+m)<=191):Eo u0 B C (m+1)=T (c*64+bt u0 (B+1+m)-128):=by grind[Eo]
theorem MC(h:Eo u0 B C (R+1)=T X):∃a,Eo u0 B C R=T a/\128<=bt u0 (B+1+R)/\bt u0 (B+1+R)<=191/\X=a*64+bt u0 (B+1+R)-128:=by grind[Eo]
theorem SN:∀{m c:M},Eo u0 B C m=c->c+1<=(C+1)*64 ^ m
 |0,c,h=>by grind[Eo]
 |m+1,c,h=>by obtain⟨a,b,e,f,g⟩:=MC h;have d:=SN b;have:(a+1)*64<=(C+1)*64 ^ m*64:=Nat.mul_le_mul_right 64 d;rw[Nat.pow_succ,<-Nat.mul_assoc];omega
def Qu:M:=8388607
theorem Qz(d:C<=31)(b:R<=3)(h:Eo u0 B C R=T X):X<=Qu:=by have e:=SN h;have a:64 ^ R<=64 ^ 3:=Nat.pow_le_pow_right (by omega) b;have f:(C+1)*64 ^ R<=32*64 ^ 3:=Nat.mul_le_mul (by omega) a;grind[Qu]
def Ij(s:Cd)(i n b a:M):M×M:=
 if s<i+n then(0,0)else
 match Eo s i a (n-1)with
 |none=>(0,0)
 |some c=>if c<b\/1114111<c\/(55296<=c/\c<57344)then(0,0)else(c,n)
theorem MB(h:u0.size<B+C):Ij u0 B C R X=(0,0):=by grind[Ij]
theorem Oe(h:Eo u0 B X (C-1)=Z):Ij u0 B C R X=(0,0):=by grind[Ij]
theorem Qt(h:Eo u0 B X (C-1)=T v0)(a:v0<R\/1114111<v0\/(55296<=v0/\v0<57344)):Ij u0 B C R X=(0,0):=by grind[Ij]
theorem PO(b:B+C<=u0.size)(h:Eo u0 B X (C-1)=T v0)(a:¬(v0<R\/1114111<v0\/(55296<=v0/\v0<57344))):Ij u0 B C R X=(v0,C):=by grind[Ij]
def DR(s:Cd)(i:M):M×M:=
 if bt s i<128 then(bt s i,1)
 else if 194<=bt s i/\bt s i<224 then Ij s i 2 128 (bt s i-192)
 else if 224<=bt s i/\bt s i<240 then Ij s i 3 2048 (bt s i-224)
 else if 240<=bt s i/\bt s i<245 then Ij s i 4 65536 (bt s i-240)
 else(0,0)
theorem ZA(s i n a b):Ij s i n a b=(0,0)\/∃c,Ij s i n a b=(c,n)/\i+n<=s/\a<=c/\c<=1114111:=by grind[Ij]
theorem JY(s i)(a:i<s.size):i+(DR s i).2<=s/\(DR s i).2<=4/\(DR s i).1<=1114111:=by grind[DR,ZA]
structure PT where
 e:M
 a:Cd
 t9:M
abbrev Dw:=List PT
structure Sc where
 tZ:Dw
 rem:Bool
 xC:M
 K:M
variable {v4:Sc}
def Hx(l:Cj):M:=
 if l=[102,110]then 3 else if l=[118,97,114]then 4 else if l=[110,101,119]then 5 else if l=[114,101,116,117,114,110]then 6 else if l=[105,102]then 7 else if l=[101,108,115,101]then 8 else if l=[119,104,105,108,101]then 9 else 1
def Ey(r:M):M:=
 if r=48\/r=49\/r=50\/r=51 then 2 else if r=40 then 10 else if r=41 then 11 else if r=123 then 12 else if r=125 then 13 else if r=59 then 14 else if r=61 then 15 else if r=38 then 16 else if r=42 then 17 else if r=64 then 18 else if r=46 then 19 else if r=63 then 20 else 0
def PH(r:M):Bool:=(zu (97<=r) && zu (r<=122))||(zu (224<=r) && zu (r<=255) && (r !=247))
def Gm(s:Cd)(p r:M):Bool:=r==65533 && !(zu (p+3<=s.size) && (s.extract p<|p+3).toList==[239,191,189])
def Gh(s:Cd)(e:M)(x:Sc):Sc:=
 if 0<x.K then⟨x.tZ++[⟨Hx (s.extract x.xC e).toList,s.extract x.xC e,x.xC⟩],x.rem,x.xC,0⟩else⟨x.tZ,x.rem,x.xC,0⟩
def Fm(p:M)(x:Sc):Sc:=⟨x.tZ,x.rem,if x.K=0 then p else x.xC,x.K+1⟩
def GQ(s:Cd)(p r:M)(x:Sc):Sc×M×Bool:=
 if r=32\/r=9\/r=10 then(x,0,zt)
 else if r=35 then(⟨x.tZ,zt,x.xC,x.K⟩,0,zt)
 else if Ey r=0 then(x,p,zr)
 else(⟨x.tZ++[⟨Ey r,s.extract p<|p+1,p⟩],x.rem,x.xC,x.K⟩,0,zt)
def DC(s:Cd)(p r:M)(x:Sc):Sc×M×Bool:=
 if Gm s p r then(x,p,zr)
 else if x.rem then(⟨x.tZ,r !=10,x.xC,x.K⟩,0,zt)
 else if PH r then(if 8<x.K+1 then(Fm p x,(Fm p x).xC,zr)else(Fm p x,0,zt))
 else GQ s p r (Gh s p x)
def Dg(s:Cd):M->M->Sc->M ⊕ Sc
 |0,_,x=>.inr x
 |f+1,p,x=>if p<s then
   (if (DC s p (Utf8.decode s p).1 x).2.2 then Dg s f (p+(Utf8.decode s p).2) (DC s p (Utf8.decode s p).1 x).1
    else .inl (DC s p (Utf8.decode s p).1 x).2.1)
  else .inr x
def C2(s:Cd)(x:Sc):Dw:=(Gh s s x).tZ++[⟨0,s.extract s s,s⟩]
theorem JS(h:¬C<u0.size):Dg u0 B C v4=.inr v4:=by
 cases B with
 |zero=>rfl
 |succ B=>simp only[Dg,Ba h]
theorem IB{x}(b:u0.size-C<=B)(h:C<u0.size)(a:(DC u0 C (Utf8.decode u0 C).1 x).2.2=zr):Dg u0 B C x=.inl (DC u0 C (Utf8.decode u0 C).1 x).2.1:=by
 cases B with
 |zero=>omega
 |succ B=>simp[Dg,Bb h,a]
theorem Kx(s p)(h:p<s.size):1<=(Utf8.decode s p).2:=by grind[decode_ascii,decode_high]
theorem GD{x}(c:u0.size-C<=B)(h:C<u0.size)(d:(DC u0 C (Utf8.decode u0 C).1 x).2.2=zt):
 ∃a,u0-(C+(Utf8.decode u0 C).2)<=a/\Dg u0 B C x=Dg u0 a (C+(Utf8.decode u0 C).2) (DC u0 C (Utf8.decode u0 C).1 x).1:=by
 have b:=Kx u0 C h;cases B with
 |zero=>omega
 |succ B=>exact⟨B,by omega,by grind[Dg]⟩
structure Pz(p:M)(x:Sc):Prop where
 xC:x.xC<=p
 K:x.K<=8
 many:x.tZ+x.K<=p
theorem Pz.more(h:Pz B v4)(a:B<=C):Pz C v4:=⟨As h.xC a,h.K,As h.many a⟩
theorem Pz.yA{s}(h:Pz B v4):Pz B<|Gh s B v4:=by have a:=h.xC;have b:=h.many;unfold Proofs.YtbkhmmeecjnnkaaGreatDoor.Gh;split;exact⟨a,by simp,by simp;omega⟩;exact⟨a,by simp,by simp;omega⟩
theorem Hq(s p x):(Gh s p x).K=0:=by grind[Gh]
theorem gY(s p x):(Gh s p x).rem=x.rem:=by grind[Gh]
theorem lY{s r}(h:Pz B v4)(b:(DC s B r v4).2.2=zt):Pz (B+1) (DC s B r v4).1:=by have j:=h.xC;have k:=h.many;have l:=h.K;unfold DC at b|-;split;grind;rename_i d;simp only[d]at b;split;exact⟨by simp;omega,by simp;omega,by simp;omega⟩;rename_i f;simp only[f]at b;split;rename_i e;simp only[e,BD]at b;split;grind;exact⟨by grind[Fm],by grind[Fm],by grind[Fm]⟩;have a:=h.yA (s:=s);have g:=a.xC;have i:=a.many;have c:=Hq s B v4;unfold GQ;split;exact a.more (by omega);split;exact⟨by simp;omega,by simp[c],by simp;omega⟩;split;exact a.more (by omega);exact⟨by simp;omega,by simp[c],by simp;omega⟩
theorem Qp(s p r)(h:r<65533):Gm s p r=zr:=by grind[Gm]
theorem sD(s k):(s.get! k).toNat=bt s k:=by unfold bt;congr 1;show s.data[k]! =_;rw[getElem!_def];cases s.data[k]? <;>rfl
theorem Ua(s k)(h:s.size<=k):bt s k=0:=by
 unfold bt;have:s.data[k]? =Z:=by simp;exact h
 rw[this];rfl
theorem QC(s p k):((zu (p+k<s.size) && (bt s (p+k) / 64==2))=zt)↔(128<=bt s (p+k)/\bt s (p+k)<=191):=by grind[Ua]
theorem eX(c:M):Utf8.valid (c:zw)=zt↔(c<55296\/(57344<=c/\c<=1114111)):=by grind[Utf8.valid]
theorem Oj(s p):Utf8.decode s p=
 (if bt s p<128 then(bt s p,1)
  else if bt s p / 32=6/\(128<=bt s (p+1)/\bt s (p+1)<=191)then
   (if 128<=bt s p % 32*64+bt s (p+1) % 64 then(bt s p % 32*64+bt s (p+1) % 64,2)else(65533,1))
  else if bt s p / 16=14/\(128<=bt s (p+1)/\bt s (p+1)<=191)/\(128<=bt s (p+2)/\bt s (p+2)<=191)then
   (if 2048<=bt s p % 16*4096+bt s (p+1) % 64*64+bt s (p+2) % 64/\(bt s p % 16*4096+bt s (p+1) % 64*64+bt s (p+2) % 64<55296\/(57344<=bt s p % 16*4096+bt s (p+1) % 64*64+bt s (p+2) % 64/\bt s p % 16*4096+bt s (p+1) % 64*64+bt s (p+2) % 64<=1114111))
    then(bt s p % 16*4096+bt s (p+1) % 64*64+bt s (p+2) % 64,3)else(65533,1))
  else if bt s p / 8=30/\(128<=bt s (p+1)/\bt s (p+1)<=191)/\(128<=bt s (p+2)/\bt s (p+2)<=191)/\(128<=bt s (p+3)/\bt s (p+3)<=191)then
   (if 65536<=bt s p % 8*262144+bt s (p+1) % 64*4096+bt s (p+2) % 64*64+bt s (p+3) % 64/\(bt s p % 8*262144+bt s (p+1) % 64*4096+bt s (p+2) % 64*64+bt s (p+3) % 64<55296\/(57344<=bt s p % 8*262144+bt s (p+1) % 64*4096+bt s (p+2) % 64*64+bt s (p+3) % 64/\bt s p % 8*262144+bt s (p+1) % 64*4096+bt s (p+2) % 64*64+bt s (p+3) % 64<=1114111))
    then(bt s p % 8*262144+bt s (p+1) % 64*4096+bt s (p+2) % 64*64+bt s (p+3) % 64,4)else(65533,1))
  else(65533,1)):=by
 have a:=QC s p 1;have b:=QC s p 2;have c:=QC s p 3;unfold Utf8.decode;simp only[sD,Au,Utf8.runeError];grind[eX]
theorem Og(h:(Ij u0 B C R X).2≠0):∃c,Eo u0 B X (C-1)=T c/\R<=c/\c<=1114111/\(c<55296\/57344<=c)/\Ij u0 B C R X=(c,C)/\B+C<=u0:=by grind[Ij]
theorem SO(h:Eo u0 B C 1=T R):128<=bt u0 (B+1)/\bt u0 (B+1)<=191/\R=C*64+(bt u0 (B+1)-128):=by grind[Eo]
theorem SP(h:Eo u0 B C 2=T R):128<=bt u0 (B+1)/\bt u0 (B+1)<=191/\128<=bt u0 (B+2)/\bt u0 (B+2)<=191/\R=(C*64+(bt u0 (B+1)-128))*64+(bt u0 (B+2)-128):=by grind[MC,SO]
theorem Vo(h:Eo u0 B C 3=T R):128<=bt u0 (B+1)/\bt u0 (B+1)<=191/\128<=bt u0 (B+2)/\bt u0 (B+2)<=191/\128<=bt u0 (B+3)/\bt u0 (B+3)<=191/\R=((C*64+(bt u0 (B+1)-128))*64+(bt u0 (B+2)-128))*64+(bt u0 (B+3)-128):=by grind[MC,SP]
theorem QB(a:128<=bt u0 (B+1)/\bt u0 (B+1)<=191):Eo u0 B C 1=(C*64+(bt u0 (B+1)-128)):=by rw[Ik (m:=0) (c:=C) Q a.1 a.2];grind
theorem MD(b:128<=bt u0 (B+1)/\bt u0 (B+1)<=191)(a:128<=bt u0 (B+2)/\bt u0 (B+2)<=191):Eo u0 B C 2=((C*64+(bt u0 (B+1)-128))*64+(bt u0 (B+2)-128)):=by rw[Ik (m:=1) (QB b) a.1 a.2];grind
theorem Ug(b:128<=bt u0 (B+1)/\bt u0 (B+1)<=191)(c:128<=bt u0 (B+2)/\bt u0 (B+2)<=191)(a:128<=bt u0 (B+3)/\bt u0 (B+3)<=191):Eo u0 B C 3=(((C*64+(bt u0 (B+1)-128))*64+(bt u0 (B+2)-128))*64+(bt u0 (B+3)-128)):=by rw[Ik (m:=2) (MD b c) a.1 a.2];grind
theorem Mp(h:B+3<=u0.size):((u0.extract B<|B+3).toList=[239,191,189])↔(bt u0 B=239/\bt u0 (B+1)=191/\bt u0 (B+2)=189):=by
 have j:u0.data.size=u0:=Q;have d:=II u0 B (by omega);have f:=II u0 (B+1) (by omega);have g:=II u0 (B+2) (by omega);have e:(u0.extract B<|B+3).toList=[u0[B]'(by omega),u0[B+1]'(by omega),u0[B+2]'(by omega)]:=by
  rw[Br,Bq];apply List.ext_getElem?;intro i;have q:∀k,(c:B+k<u0.size)->u0.data[B+k]? =(u0[B+k]'c):=λk c=>Array.getElem?_eq_getElem (xs:=u0.data) c
  have l:min (B+3) u0-B=3:=by omega
  rcases i with _|_|_|i
  have:=q 0 (by omega);grind;grind;grind;grind
 rw[e,d,f,g];simp only[List.cons.injEq,and_true];have u:∀(a b:UInt8),a=b↔a.toNat=b.toNat:=λa b=>⟨λh=>by rw[h],λh=>UInt8.toNat_inj.mp h⟩
 rw[u,u,u];rfl
theorem GZ(a:(DR u0 B).2≠0):Utf8.decode u0 B=DR u0 B/\Gm u0 B (DR u0 B).1=zr:=by have c:=gN u0 B;rw[Oj];unfold DR at a|-;split at a;grind[Qp];rename_i h;simp only[Ba h];split at a;grind[Og,SO,Qp];rename_i b;simp only[Ba b];split at a;grind[Og,SP,Gm,Mp];grind[Og,Vo,Gm]
theorem QF(f:(DR u0 B).2=0):Gm u0 B (Utf8.decode u0 B).1=zt/\Utf8.decode u0 B=(65533,1):=by
 have x:=gN u0 B;have u:=λh=>Ua u0 (B+1) h
 have v:=λh=>Ua u0 (B+2) h
 have w:=λh=>Ua u0 (B+3) h
 have d:∀n i e c,Eo u0 B e (n-1)=T c->n≠0->B+n<=u0.size->DR u0 B=Ij u0 B n i e->¬(c<i\/1114111<c\/(55296<=c/\c<57344))->zv:=by intro n i e c m o q r t;rw[r,PO q m t]at f;exact o f
 have j:Utf8.decode u0 B=(65533,1):=by
  rw[Oj];have b:¬bt u0 B<128:=λh=>by simp[DR,h]at f
  rw[Ba b];split;rename_i h;split;exfalso;refine d 2 128 (bt u0 B-192) _ (QB h.2) nofun ?_ ?_ ?_;by_cases a:B+2<=u0.size;exact a;have:=u (by omega);omega;unfold DR;rw[Ba b,Bb<|by omega];omega;rfl;split;rename_i _ h;split;exfalso;refine d 3 2048 (bt u0 B-224) _ (MD h.2.1 h.2.2) nofun ?_ ?_ ?_;by_cases a:B+3<=u0.size;exact a;have:=v (by omega);omega;unfold DR;rw[Ba b,Ba<|by omega,Bb<|by omega];omega;rfl;split;rename_i _ h;split;exfalso;refine d 4 65536 (bt u0 B-240) _ (Ug h.2.1 h.2.2.1 h.2.2.2) nofun ?_ ?_ ?_;by_cases a:B+4<=u0.size;exact a;have:=w (by omega);omega;unfold DR;rw[Ba b,Ba<|by omega,Ba<|by omega,Bb<|by omega];omega;rfl;rfl
 refine⟨?_,j⟩;rw[j];unfold Gm;by_cases g:B+3<=u0.size;by_cases l:(u0.extract B<|B+3).toList=[239,191,189];exfalso;have k:=(Mp g).1 l;refine d 3 2048 (bt u0 B-224) _ (MD (by omega)<|by omega) nofun g ?_ ?_;unfold DR;rw[Ba<|by omega,Ba<|by omega,Bb<|by omega];omega;simp[l];simp[g]
theorem Iq{a b}(h:a=b):T' (O' a)=T' (O' b):=by rw[h]
theorem lP{k b}(h:q8=b):T' (.int k q8)=Value.int k b:=by rw[h]
theorem Ni(r:M)(w:I'):
 F' zy 130 #[.int .i32 r] w λe b=>e=(PH r)/\b=w:=by
 by_cases h:(r:zw)=247
 .have a:r=247:=by omega
  subst a;go_in;go_wp2;go_ret;exact⟨Q,Q⟩
 .have a:(((r:M):zw)==247)=zr:=by simpa using h
  go_in;go_wp2;all_goals
   go_ret;exact⟨Iq<|by rw[Bool.eq_iff_iff];simp[PH];omega,Q⟩
theorem Yn(a:B≠48)(h:B≠49)(i:B≠50)(j:B≠51)(k:B≠40)(l:B≠41)(m:B≠123)(n:B≠125)(o:B≠59)(b:B≠61)(c:B≠38)(d:B≠42)(e:B≠64)(f:B≠46)(g:B≠63):Ey B=0:=by simp[Ey, *]
theorem Nq(r:M)(w:I'):
 F' zy 163 #[.int .i32 r] w λe d=>e=P' #[(Ey r),(Ey r !=0)]/\d=w:=by
 generalize b:Ey r=m;have c:D<|Ey r=m:=b;clear b;go_in;go_wp2;all_goals
  go_ret2;refine⟨?_,Q⟩;have b:=c.o;simp only[BQ,AZ,ne_eq]at*;first
   |(have a:r=48:=by omega
     subst a;subst b;rfl)
   |(have a:r=49:=by omega
     subst a;subst b;rfl)
   |(have a:r=50:=by omega
     subst a;subst b;rfl)
   |(have a:r=51:=by omega
     subst a;subst b;rfl)
   |(have a:r=40:=by omega
     subst a;subst b;rfl)
   |(have a:r=41:=by omega
     subst a;subst b;rfl)
   |(have a:r=123:=by omega
     subst a;subst b;rfl)
   |(have a:r=125:=by omega
     subst a;subst b;rfl)
   |(have a:r=59:=by omega
     subst a;subst b;rfl)
   |(have a:r=61:=by omega
     subst a;subst b;rfl)
   |(have a:r=38:=by omega
     subst a;subst b;rfl)
   |(have a:r=42:=by omega
     subst a;subst b;rfl)
   |(have a:r=64:=by omega
     subst a;subst b;rfl)
   |(have a:r=46:=by omega
     subst a;subst b;rfl)
   |(have a:r=63:=by omega
     subst a;subst b;rfl)
   |(have e:m=0:=by rw[<-b];exact Yn (by omega) (by omega) (by omega) (by omega) (by omega) (by omega) (by omega) (by omega) (by omega) (by omega) (by omega) (by omega) (by omega) (by omega)<|by omega
     subst e;rfl)
theorem UQ(s w):
 F' zy 133 #[Y' s] w λe a=>e=T' (G A<|Hx s.toList)/\a=w:=by
 go_in;go_wp2;all_goals
  go_ret;refine⟨lP ?_,Q⟩;first
   |(simp[Hx, *];done)
   |(simp_all [Hx];done)
structure O(X:Ce)(w w':I'):Prop where
 os:w'.os=w.os
 tape:w'.tape=w.tape
 output:w'.output=w.output
 size:(w:M)<=(w':M)
 block:∀k,k<(w:M)->¬X k->w'.heap[k]? =w.heap[k]?
theorem O.refl(X w):O X w w:=⟨Q,Q,Q,Ad _,λ_ _ _=>Q⟩
theorem O.trans{X:Ce}{a b:I'}(h:O X a b)(k:O X b P):O X a P:=
 ⟨k.os.trans h.os,k.tape.trans h.tape,k.output.trans h.output,As h.size k.size,λi d e=>(k.block i (Av d h.size) e).trans<|h.block i d e⟩
theorem O.mono{X:Ce}{a}(h:O X a P)(d:∀k,k<a.heap.size->X k->z1 k):O z1 a P:=
 ⟨h.os,h.tape,h.output,h.size,λk c e=>h.block k c λq=>e<|d k c q⟩
theorem O.drew{X:Ce}{a}(h:O X a P):O X a P.drew:=⟨h.os,h.tape,h.output,h.size,h.block⟩
theorem O.drewN{X:Ce}{a}(h:O X a P)(n):O X a<|P.drewN n:=h.trans ⟨Q,Q,Q,Ad _,λ_ _ _=>Q⟩
theorem O.alloc{X:Ce}{a}(h:O X a P)(o):O X a<|P.alloc o:=
 h.trans ⟨Q,Q,Q,by simp,λk b _=>Ao _ _ _ b⟩
instance {X:Ce} {w}:Nonempty<|O X w w:=⟨O.refl X w⟩
instance {X:Ce} {a w} [h:Nonempty<|O X a w]:Nonempty<|O X a w.drew:=⟨h.elim (·.drew)⟩
instance {X:Ce} {a w n} [h:Nonempty<|O X a w]:Nonempty<|O X a<|w.drewN n:=⟨h.elim (·.drewN n)⟩
instance {X:Ce} {a w o} [h:Nonempty<|O X a w]:Nonempty<|O X a<|w.alloc o:=⟨h.elim (·.alloc o)⟩
theorem oq{p:Prop}[h:Nonempty p]:p:=h.elim id
theorem Ed{X:Ce}(k)(_:z1 k)(h:X k):X k:=h
theorem Io{d e f:Sort _}{P:d->e->f->Prop}(a:d)(b:e)(c:f)(h:P a b c):P a b c:=h
theorem LH{p:Prop}[Decidable p](h:p):decide p=zt:=decide_eq_true h
theorem Hz{p:Prop}[Decidable p](h:¬p):decide p=zr:=decide_eq_false h
theorem wR(a b:zw)(h:a=b):(a==b)=zt:=by simpa using h
theorem Ka(a b:zw)(h:a≠b):(a==b)=zr:=by simpa using h
theorem qO(a b:zw)(h:a≠b):(a !=b)=zt:=by simpa using h
theorem CT(X w):O X w w:=O.refl X w
theorem O.setCell{X:Ce}{a}(h:O X a P){p}(b:X p.block\/a.heap.size<=p.block)(u):O X a<|P.setCell p u:=by
 refine⟨h.os,h.tape,h.output,by have:=h.size;simpa[World.setCell]using this,λk d c=>?_⟩;rw[Below.heap_setCell _ _ _ _ ?_];exact h.block k d c;intro e;subst e;rcases b with b|b
 exact c b;omega
theorem O.wS{a}(h:O (λk=>k=B) a P)(i u):O (λk=>k=B) a<|P.setCell ⟨B,i,Z⟩ u:=h.setCell (zo Q) u
theorem O.xB{X:Ce}{b a}(h:O X a P)(i u)(c:a.heap.size<=b):O X a<|P.setCell ⟨b,i,Z⟩ u:=h.setCell (zn c) u
theorem O.below{X:Ce}{a}(h:O X a P)(d:∀k,X k->a.heap.size<=k):zx a.heap.size a P:=
 ⟨h.os,h.tape,h.output,h.size,λk c=>h.block k c λq=>by have:=d k q;omega⟩
theorem O.xL{X:Ce}{B a}(h:O X a P)(d:B<=a.heap.size)(c:∀k,X k->B<=k):zx B a P:=
 ⟨h.os,h.tape,h.output,h.size,λk e=>h.block k (by omega) λq=>by have:=c k q;omega⟩
theorem O.xA{X:Ce}{a f}(h:O X a P)(b:P.grownBy y0 f)(g:∀k,f=T k->X k\/a.heap.size<=k):O X a y0:=by
 refine⟨b.os.trans h.os,b.tape.trans h.tape,b.output.trans h.output,As h.size b.size,λk c d=>?_⟩;rw[b.block k (Av c h.size) ?_];exact h.block k c d;intro e;rcases g k e.symm with q|q
 exact d q;omega
theorem Jh{a:M×M}(h:P.heap[B]? =T (R' q1 q0 a))(i):K' P ⟨B,i,Z⟩=q1[i]? :=by simp[K',h]
theorem CZ(h:P.heap[B]? =T (R' q1 q0 (0,0)))(i):P.frozen? ⟨B,i,Z⟩=zr:=by simp[World.frozen?,h]
theorem Cz{o:Obj}(h:P.heap[B]? =T o):B<(P:M):=(Array.getElem?_eq_some_iff.1 h).1
theorem JT{w:I'}{a:M×M}(h:w.heap[B]? =T (R' q1 q0 a))(i u):(w.setCell ⟨B,i,Z⟩ u).heap[B]? =T (R' (q1.setIfInBounds i u) q0 a):=by simp[World.setCell,Array.getElem?_modify,h]
theorem Cx{w}{X:Ce}(h:J' w B q0 C V R y1)(j:O X w P)(l:∀k,L' V=T k->¬X k):J' P B q0 C V R y1:=by
 refine⟨h.1,?_⟩;rcases h.2 with f|⟨g,c,d,b,i,a,r⟩
 exact zo f;refine zn ⟨g,c,d,b,i,?_,r⟩;rw[j.block g (Cz a)<|l g<|by rw[b];rfl];exact a
def W(b:M)(a:Cg)(t:TypeId)(w:I'):Prop:=w.heap[b]? =T (R' a t (0,0))
theorem W.j{X:Ce}{w w'}(h:W B q1 q0 w)(a:O X w w')(c:¬X B):W B q1 q0 w':=by unfold W at h|-;rw[a.block B (Cz h) c];exact h
theorem W.set{w}(h:W B q1 q0 w)(i u):W B (q1.setIfInBounds i u) q0<|w.setCell ⟨B,i,Z⟩ u:=JT h i u
theorem W.xH{c w}(h:W B q1 q0 w)(i u)(a:B≠c):W B q1 q0<|w.setCell ⟨c,i,Z⟩ u:=by unfold W at h|-;rw[Below.heap_setCell _ _ _ _ a];exact h
theorem W.alloc{w}(h:W B q1 q0 w)(o):W B q1 q0<|w.alloc o:=by have:=Cz h;unfold W at h|-;rw[Ao _ _ _ this];exact h
theorem W.new(w:I')(a:Cg)(t:TypeId):W (w:M) a t<|w.alloc<|R' a t:=BB w _
theorem W.z{w}(h:W B q1 q0 w)(i):K' w ⟨B,i,Z⟩=q1[i]? :=Jh h i
theorem W.e2{w}(h:W B q1 q0 w)(a c):K' w ⟨B,a,Z⟩=q1[a]? /\K' w ⟨B,c,Z⟩=q1[c]? :=⟨h.z _,h.z _⟩
theorem W.e3{w}(h:W B q1 q0 w)(a c d):K' w ⟨B,a,Z⟩=q1[a]? /\K' w ⟨B,c,Z⟩=q1[c]? /\K' w ⟨B,d,Z⟩=q1[d]? :=⟨h.z _,h.z _,h.z _⟩
theorem W.e4{w}(h:W B q1 q0 w)(a c d e):K' w ⟨B,a,Z⟩=q1[a]? /\K' w ⟨B,c,Z⟩=q1[c]? /\K' w ⟨B,d,Z⟩=q1[d]? /\K' w ⟨B,e,Z⟩=q1[e]? :=⟨h.z _,h.z _,h.z _,h.z _⟩
theorem W.e8{w}(h:W B q1 q0 w)(a c d e f g i j):K' w ⟨B,a,Z⟩=q1[a]? /\K' w ⟨B,c,Z⟩=q1[c]? /\K' w ⟨B,d,Z⟩=q1[d]? /\K' w ⟨B,e,Z⟩=q1[e]? /\K' w ⟨B,f,Z⟩=q1[f]? /\K' w ⟨B,g,Z⟩=q1[g]? /\K' w ⟨B,i,Z⟩=q1[i]? /\K' w ⟨B,j,Z⟩=q1[j]? :=⟨h.z _,h.z _,h.z _,h.z _,h.z _,h.z _,h.z _,h.z _⟩
theorem W.e15{w}(h:W B q1 q0 w)(a c j k l m n o p q d e f g i):K' w ⟨B,a,Z⟩=q1[a]? /\K' w ⟨B,c,Z⟩=q1[c]? /\K' w ⟨B,j,Z⟩=q1[j]? /\K' w ⟨B,k,Z⟩=q1[k]? /\K' w ⟨B,l,Z⟩=q1[l]? /\K' w ⟨B,m,Z⟩=q1[m]? /\K' w ⟨B,n,Z⟩=q1[n]? /\K' w ⟨B,o,Z⟩=q1[o]? /\K' w ⟨B,p,Z⟩=q1[p]? /\K' w ⟨B,q,Z⟩=q1[q]? /\K' w ⟨B,d,Z⟩=q1[d]? /\K' w ⟨B,e,Z⟩=q1[e]? /\K' w ⟨B,f,Z⟩=q1[f]? /\K' w ⟨B,g,Z⟩=q1[g]? /\K' w ⟨B,i,Z⟩=q1[i]? :=⟨h.z _,h.z _,h.z _,h.z _,h.z _,h.z _,h.z _,h.z _,h.z _,h.z _,h.z _,h.z _,h.z _,h.z _,h.z _⟩
theorem W.wV{w}(h:W B q1 q0 w)(i):w.frozen? ⟨B,i,Z⟩=zr:=CZ h i
theorem W.ne{c:Cg}{w:I'}(h:W B q1 q0 w)(k:W C c n8 w)(d:q0≠n8):B≠C:=by rintro rfl;unfold W at h k;rw[h]at k;simp only[Ai,Aq]at k;exact d k.2.1
theorem CA(h:J' P B q0 C V R y1):∃a l c,V=Y a l c:=by
 rcases h.2 with⟨b,_⟩|⟨g,f,i,d,_⟩
 exact⟨_,_,_,b⟩;exact⟨_,_,_,d⟩
theorem CN{B':M}(h:J' P B q0 C V R y1)(d:B'<=B):J' P B' q0 C V R y1:=by
 refine⟨h.1,?_⟩;rcases h.2 with c|⟨g,a,b,i,f,r⟩
 exact zo c;exact zn ⟨g,a,b,i,As d f,r⟩
theorem J{p}(h:p):D p:=h
theorem Dq{a b c:Prop}(d:a)(e:b)(f:c):D a/\D b/\D c:=⟨d,e,f⟩
theorem F8{a b c d:Prop}(e:a)(f:b)(g:c)(h:d):D a/\D b/\D c/\D d:=⟨e,f,g,h⟩
theorem Ix{a b c d e:Prop}(f:a)(g:b)(h:c)(i:d)(j:e):D a/\D b/\D c/\D d/\D e:=⟨f,g,h,i,j⟩
theorem QS{a b c d e f:Prop}(g:a)(h:b)(i:c)(j:d)(k:e)(l:f):D a/\D b/\D c/\D d/\D e/\D f:=⟨g,h,i,j,k,l⟩
theorem qU{a b c d e f g:Prop}(h:a)(i:b)(j:c)(k:d)(l:e)(m:f)(n:g):D a/\D b/\D c/\D d/\D e/\D f/\D g:=⟨h,i,j,k,l,m,n⟩
theorem Pe{a b c d e f g h:Prop}(i:a)(j:b)(k:c)(l:d)(m:e)(n:f)(o:g)(p:h):D a/\D b/\D c/\D d/\D e/\D f/\D g/\D h:=⟨i,j,k,l,m,n,o,p⟩
theorem O.tr{a}(h:O (λk=>k=B\/k=C) a P)(k:O (λk=>k=B) P y0):O (λk=>k=B\/k=C) a y0:=h.trans<|k.mono λ_ _ q=>zo q
theorem O.xV{X:Ce}{a}(h:O X a P)(k:O Cb P y0):O X a y0:=h.trans<|k.mono λ_ _ q=>q.elim
theorem CD(h:J' P B q0 C V R y1)(l:O z1 P y0)(o:∀k c f,z1 k->P.heap[k]? ≠T (R' c q0 f)):J' y0 B q0 C V R y1:=by
 refine⟨h.1,?_⟩;rcases h.2 with i|⟨g,b,d,m,j,a,r⟩
 exact zo i;refine zn ⟨g,b,d,m,j,?_,r⟩;rw[l.block g (Cz a) λq=>o g _ _ q a];exact a
theorem M3{P:Program}(H t l e)(i:TypeInfo)(z)(x:P.underlying t=T (.slice e))(p:P.info? e=T i)(F:i.zero=T z)
 (v)(n)(y)(r:J' y0 H e i.size v n y)
 (a)(m c)(d:Ci)(h:L d=m*i.size)(q:∀j u,d[j]? =T u->K' y0 (a.add j)=T u)(I:∀u∈d,u.oneCell'=zt)
 (U:0<m)(K:n+m<=E')(C:(n+m)*i.bytes<=140737488355328)(s:(Builtin.append_ #[t,t] l #[v,Y (T a) m c]).run P y0=.ok V v1):
 ∀k,L' V=T k->L' v=T k\/(y0:M)<=k:=by
 intro k f;have a0:n+m<=9223372036854775807:=by simp only[E']at K;omega
 rcases r.2 with⟨rfl,rfl⟩|⟨g,o,B,rfl,_,S,a2,a1,N,a3⟩
 have b:=run_append_nil (P:=P) y0 t l e i z x p F a m c d h q U (by omega) (by simp only[AM]at C;omega);rw[s]at b;simp only[Result.ok.injEq]at b;rw[b.1]at f;simp[L']at f;exact zn (by omega);by_cases E:n+m<=o;have R:n*i.size+d<=B:=by rw[h,N,<-Nat.add_mul];exact Nat.mul_le_mul_right _ E
 have b:=run_append_room (P:=P) y0 t l e i x p g n o B S a m c d h q I E R;rw[s]at b;simp only[Result.ok.injEq]at b;rw[b.1]at f;exact zo (by simpa[L']using f);have X:∀j u,y[j]? =T u->y0 ((g:A').add j)=T u:=r.cells (g:=g) Q;have b:=run_append_grow (P:=P) y0 t l e i z x p F g n o y r.1 X a m c d h q (by omega) (by omega)<|growslice_fits (by omega) C;rw[s]at b;simp only[Result.ok.injEq]at b;rw[b.1]at f;simp[L']at f;exact zn<|by omega
theorem C7{P:Program}{K:Act->I'->Prop}{X:Exit->Act->I'->Prop}{E:Prop}
 (hg:p3.guard=Z)(s x:Operand)(t)(a1:p3.op=Op.call {callee:=Callee.builtin Builtin.append,args:=#[s,x],argTypes:=#[t,t]})
 (g)(e)(i:TypeInfo)(z)(b q)(B:P.underlying t=T (.slice e))(F:P.info? e=T i)(H:i.zero=T z)(I:i.size=b)(N:i.bytes=q)(h6:z.cells.size=b)(h7:0<b)
 (v)(n)(p)(hs:u4.eval s=v)(U:J' y0 g e b v n p)
 (l)(m c)(d)(hx:u4.eval x=Y (T l) m c)(S:L d=m*b)(R:∀j u,d[j]? =T u->K' y0 (l.add j)=T u)(C:∀u∈d,u.oneCell'=zt)
 (hm:0<m)(r:n+m<=E')(y:(n+m)*q<=140737488355328)(a0:g<=(y0:M))
 (hK:∀f h,J' h g e b f (n+m) (p++d)->y0.grownBy h (L' v)->(∀k,L' f=T k->L' v=T k\/(y0:M)<=k)->K (u4.put p3.dst f) h):
 if Region.wanted p3 (yielded z5 u4.tmps)=zt then Oper.wp P p3 u4 y0 K X else E:=by
 have hw:Region.wanted p3 (yielded z5 u4.tmps)=zt:=by simp[Region.wanted,hg]
 rw[Bb hw];have⟨f,h,V,r1,r2,_⟩:=run_append_own (P:=P) y0 g t p3.type e i z b q B F H I N h6 h7 v n p U l m c d S R C r y a0;have r3:∀k,L' f=T k->L' v=T k\/(y0:M)<=k:=by subst I;subst N;exact M3 g t p3.type e i z B F H v n p U l m c d S R C hm r y V
 unfold Oper.wp;simp[execOp,a1,resolve,invoke,builtin,hs,hx,V,Result.andThen];exact hK f h r1 r2 r3
theorem C3(e:B=(P:M))(a t):∀j u,a.toList[j]? =T u->K' (P.alloc<|R' a t) ((⟨B,0,Z⟩:A').add j)=T u:=by
 intro j u h;subst e;have d:=(W.new P a t).z j;have c:((P:M):A').add j=(P,j):=by simp only[Addr.add];split;rename_i b;subst b;rfl;simp
 rw[c,d];simpa using h
theorem CL(h:J' P B q0 C V R y1){d:M×M}(g:P.heap[X]? =T (R' q1 n8 d))(i:n8≠q0):∀k,L' V=T k->k≠X:=by
 intro k a q0;subst q0;rcases h.2 with⟨f,_⟩|⟨o,l,m,j,_,c,_⟩
 rw[f]at a;simp[L']at a;rw[j]at a;simp[L']at a;subst a;rw[g]at c;simp only[Ai,Aq]at c;exact i c.2.1
theorem CU{a:Ch}(h:J' P B q0 C (Y a R X) v0 y1):R=v0:=by
 rcases h.2 with⟨b,d⟩|⟨_,_,_,b,_⟩
 simp at b;omega;simp at b;omega
theorem CB(h:J' P B q0 C V R y1):∃a c,V=Y a R c:=by obtain⟨a,l,c,rfl⟩:=CA h;cases CU h;exact⟨_,_,Q⟩
theorem CH{a:Ch}(h:J' P B q0 C (Y a R X) v0 y1)(g:0<v0):∃b,a=T ⟨b,0,Z⟩:=by
 rcases h.2 with⟨_,f⟩|⟨b,_,_,d,_⟩
 omega;simp only[BU]at d;exact⟨b,d.1⟩
theorem E0(h:J' P B q0 C (Y (T ⟨R,0,Z⟩) X v0) p0 y1):∃b,P.heap[R]? =T (R' b q0 (0,0)):=by
 rcases h.2 with⟨a,_⟩|⟨f,_,b,a,_,d,_⟩
 simp at a;simp only[BU,Ai,Addr.mk.injEq]at a;rw[a.1.1];exact⟨b,d⟩
theorem Tryz.infoInt:(Tryz.prog.info? 3).map (λi=>(i.zero,i.size,i.bytes))=T (T<|G A 0,1,8):=by kernel_rfl
theorem Dp{P}(w){a0}{y:Exit->Act->I'->Prop}(a2:p3.guard=Z)(s x t)
 (ho:p3.op=.call {callee:=.builtin .append,args:=#[s,x],argTypes:=#[t,t]})
 (g e i z b r)(V:P.underlying t=T (.slice e))(H:P.info? e=T i)(X:i.zero=T z)
 (U:i.size=b)(E:i.bytes=r)(a4:z.cells.size=b)(a3:0<b)
 (v n q)(hs:u4.eval s=v)(R:J' w g e b v n q)
 (p m c d)(hx:u4.eval x=Y (T p) m c)(I:L d=m*b)(N:∀j u,d[j]? =T u->K' w (p.add j)=T u)(B:∀u∈d,u.oneCell'=zt)
 (hm:0<m)(C:n+m<=E')(F:(n+m)*r<=140737488355328)(a1:g<=w.heap.size)
 (h:∀f l,J' l g e b f (n+m) (q++d)->w.grownBy l (L' v)->(∀k,L' f=T k->L' v=T k\/w.heap.size<=k)->wpList P z5 y a0 (u4.put p3.dst f) l):wpList P z5 y (p3::a0) u4 w:=
 wpList_plain a2 λK hK=>by
  obtain⟨f,l,S,r1,r2,_⟩:=run_append_own (P:=P) w g t p3.type e i z b r V H X U E a4 a3 v n q R p m c d I N B C F a1;have r3:∀k,L' f=T k->L' v=T k\/w.heap.size<=k:=by subst U;subst E;exact M3 g t p3.type e i z V H X v n q R p m c d I N B hm C F S
  unfold Oper.wp;simp[execOp,ho,resolve,invoke,builtin,hs,hx,S,Result.andThen];exact hK _ _<|h f l r1 r2 r3
theorem Fp(h:W B q1 q0 P)(f:q0≠n8):∀k a c,k=B->P.heap[k]? ≠T (R' a n8 c):=by intro k a c d q;subst d;unfold W at h;rw[h]at q;simp only[Ai,Aq]at q;exact f q.2.1
theorem Ht(h:J' P B q0 C V R y1)(g:q0≠n8):∀k b c,L' V=T k->P.heap[k]? ≠T (R' b n8 c):=by
 intro k b c a q;rcases h.2 with⟨d,_⟩|⟨m,j,l,i,_,f,_⟩
 rw[d]at a;simp[L']at a;rw[i]at a;simp[L']at a;subst a;rw[f]at q;simp only[Ai,Aq]at q;exact g q.2.1
theorem GW{i:Ci}(h:J' P B q0 R V v0 y1)(a:J' P C n8 X z0 p0 i)(f:q0≠n8):∀k,L' V=T k->¬L' z0=T k:=by
 intro k d q;rcases a.2 with⟨b,_⟩|⟨o,j,l,g,_,c,_⟩
 rw[b]at q;simp[L']at q;rw[g]at q;simp[L']at q;subst q;exact Ht h f _ _ _ d c
def K6(R:Act->I'->Prop):Exit->Act->I'->Prop
 |.normal,a,w=>R a w
 |_,_,_=>zv
theorem Fu{c}{b:Exit->Act->I'->Prop}(h:Code.wp q4 c (K6 λu4 P=>b .normal u4 P) u4 P):Code.wp q4 c b u4 P:=
 Code.wp_mono (λe u4 P h=>by cases e<;>first|exact h|exact h.elim) h
theorem O.thn{X Y:Ce}{a:I'}(h:O X a P)(k:O Y P y0)(f:∀j,j<(a:M)->Y j->X j):O X a y0:=
 ⟨k.os.trans h.os,k.tape.trans h.tape,k.output.trans h.output,As h.size k.size,λj d e=>(k.block j (Av d h.size) λq=>e<|f j d q).trans<|h.block j d e⟩
def rE:Code->M->Option Code
 |.region i o d,n=>cond (Nat.beq i n) (T<|.region i o d) Z
 |.seq a b,n=>(rE a n).or<|rE b n
 |.cond _ a b,n=>(rE a n).or<|rE b n
 |.block _ a,n=>rE a n
 |.loop a,n=>rE a n
 |.scope a,n=>rE a n
 |_,_=>Z
def rg(f:Func)(n:M):Code:=(f.body.bind λc=>rE c n).getD .skip
theorem Dv{b:Sort _}(a:b):∃y,a=y:=⟨a,Q⟩
theorem JG{c d:Type _}(p:c×d):∃a b,p=(a,b):=⟨p.1,p.2,Q⟩
theorem iA{d e f:Type _}(p:d×e×f):∃a b c,p=(a,b,c):=⟨p.1,p.2.1,p.2.2,Q⟩
theorem FC{f:FuncId}{r:Ending}{c:Ending->I'->Prop}(h:F' q4 f q1 P λe d=>e=r/\d=P)(k:c r P):F' q4 f q1 P c:=h.mono λ_ _ ⟨a,b⟩=>by subst a;subst b;exact k
theorem W.j0{w}(h:W B (List.toArray (V::y1)) q0 w):K' w ⟨B,0,Z⟩=T V:=by simpa using h.z 0
theorem W.j1{w}(h:W B (List.toArray (V::z0::y1)) q0 w):K' w ⟨B,1,Z⟩=T z0:=by simpa using h.z 1
theorem W.j2{w}(h:W B (List.toArray (V::z0::s0::y1)) q0 w):K' w ⟨B,2,Z⟩=T s0:=by simpa using h.z 2
theorem W.j3{w}(h:W B (List.toArray (V::z0::s0::u1::y1)) q0 w):K' w ⟨B,3,Z⟩=T u1:=by simpa using h.z 3
theorem W.j4{w}(h:W B (List.toArray (V::z0::s0::u1::x2::y1)) q0 w):K' w ⟨B,4,Z⟩=T x2:=by simpa using h.z 4
theorem W.j5{w}(h:W B (List.toArray (V::z0::s0::u1::x2::v2::y1)) q0 w):K' w ⟨B,5,Z⟩=T v2:=by simpa using h.z 5
theorem W.j6{w}(h:W B (List.toArray (V::z0::s0::u1::x2::v2::z3::y1)) q0 w):K' w ⟨B,6,Z⟩=T z3:=by simpa using h.z 6
theorem W.j7{w}(h:W B (List.toArray (V::z0::s0::u1::x2::v2::z3::y3::y1)) q0 w):K' w ⟨B,7,Z⟩=T y3:=by simpa using h.z 7
theorem W.j8{w}(h:W B (List.toArray (V::z0::s0::u1::x2::v2::z3::y3::x3::y1)) q0 w):K' w ⟨B,8,Z⟩=T x3:=by simpa using h.z 8
theorem W.j9{w}(h:W B (List.toArray (V::z0::s0::u1::x2::v2::z3::y3::x3::v3::y1)) q0 w):K' w ⟨B,9,Z⟩=T v3:=by simpa using h.z 9
theorem W.j10{w}(h:W B (List.toArray (V::z0::s0::u1::x2::v2::z3::y3::x3::v3::t3::y1)) q0 w):K' w ⟨B,10,Z⟩=T t3:=by simpa using h.z 10
theorem W.j11{w}(h:W B (List.toArray (V::z0::s0::u1::x2::v2::z3::y3::x3::v3::t3::o3::y1)) q0 w):K' w ⟨B,11,Z⟩=T o3:=by simpa using h.z 11
theorem W.j12{w}(h:W B (List.toArray (V::z0::s0::u1::x2::v2::z3::y3::x3::v3::t3::o3::z4::y1)) q0 w):K' w ⟨B,12,Z⟩=T z4:=by simpa using h.z 12
theorem W.j13{w}(h:W B (List.toArray (V::z0::s0::u1::x2::v2::z3::y3::x3::v3::t3::o3::z4::y4::y1)) q0 w):K' w ⟨B,13,Z⟩=T y4:=by simpa using h.z 13
theorem W.j14{w}(h:W B (List.toArray (V::z0::s0::u1::x2::v2::z3::y3::x3::v3::t3::o3::z4::y4::r4::y1)) q0 w):K' w ⟨B,14,Z⟩=T r4:=by simpa using h.z 14
theorem W.k2{w}(h:W B (List.toArray (V::z0::y1)) q0 w):K' w ⟨B,0,Z⟩=T V/\K' w ⟨B,1,Z⟩=T z0:=⟨h.j0,h.j1⟩
theorem W.k3{w}(h:W B (List.toArray (V::z0::s0::y1)) q0 w):K' w ⟨B,0,Z⟩=T V/\K' w ⟨B,1,Z⟩=T z0/\K' w ⟨B,2,Z⟩=T s0:=⟨h.j0,h.j1,h.j2⟩
theorem W.k4{w}(h:W B (List.toArray (V::z0::s0::u1::y1)) q0 w):K' w ⟨B,0,Z⟩=T V/\K' w ⟨B,1,Z⟩=T z0/\K' w ⟨B,2,Z⟩=T s0/\K' w ⟨B,3,Z⟩=T u1:=⟨h.j0,h.j1,h.j2,h.j3⟩
theorem W.k5{w}(h:W B (List.toArray (V::z0::s0::u1::x2::y1)) q0 w):K' w ⟨B,0,Z⟩=T V/\K' w ⟨B,1,Z⟩=T z0/\K' w ⟨B,2,Z⟩=T s0/\K' w ⟨B,3,Z⟩=T u1/\K' w ⟨B,4,Z⟩=T x2:=⟨h.j0,h.j1,h.j2,h.j3,h.j4⟩
theorem W.k6{w}(h:W B (List.toArray (V::z0::s0::u1::x2::v2::y1)) q0 w):K' w ⟨B,0,Z⟩=T V/\K' w ⟨B,1,Z⟩=T z0/\K' w ⟨B,2,Z⟩=T s0/\K' w ⟨B,3,Z⟩=T u1/\K' w ⟨B,4,Z⟩=T x2/\K' w ⟨B,5,Z⟩=T v2:=⟨h.j0,h.j1,h.j2,h.j3,h.j4,h.j5⟩
theorem W.k7{w}(h:W B (List.toArray (V::z0::s0::u1::x2::v2::z3::y1)) q0 w):K' w ⟨B,0,Z⟩=T V/\K' w ⟨B,1,Z⟩=T z0/\K' w ⟨B,2,Z⟩=T s0/\K' w ⟨B,3,Z⟩=T u1/\K' w ⟨B,4,Z⟩=T x2/\K' w ⟨B,5,Z⟩=T v2/\K' w ⟨B,6,Z⟩=T z3:=⟨h.j0,h.j1,h.j2,h.j3,h.j4,h.j5,h.j6⟩
theorem W.k8{w}(h:W B (List.toArray (V::z0::s0::u1::x2::v2::z3::y3::y1)) q0 w):K' w ⟨B,0,Z⟩=T V/\K' w ⟨B,1,Z⟩=T z0/\K' w ⟨B,2,Z⟩=T s0/\K' w ⟨B,3,Z⟩=T u1/\K' w ⟨B,4,Z⟩=T x2/\K' w ⟨B,5,Z⟩=T v2/\K' w ⟨B,6,Z⟩=T z3/\K' w ⟨B,7,Z⟩=T y3:=⟨h.j0,h.j1,h.j2,h.j3,h.j4,h.j5,h.j6,h.j7⟩
theorem W.k9{w}(h:W B (List.toArray (V::z0::s0::u1::x2::v2::z3::y3::x3::y1)) q0 w):K' w ⟨B,0,Z⟩=T V/\K' w ⟨B,1,Z⟩=T z0/\K' w ⟨B,2,Z⟩=T s0/\K' w ⟨B,3,Z⟩=T u1/\K' w ⟨B,4,Z⟩=T x2/\K' w ⟨B,5,Z⟩=T v2/\K' w ⟨B,6,Z⟩=T z3/\K' w ⟨B,7,Z⟩=T y3/\K' w ⟨B,8,Z⟩=T x3:=⟨h.j0,h.j1,h.j2,h.j3,h.j4,h.j5,h.j6,h.j7,h.j8⟩
theorem W.k10{w}(h:W B (List.toArray (V::z0::s0::u1::x2::v2::z3::y3::x3::v3::y1)) q0 w):K' w ⟨B,0,Z⟩=T V/\K' w ⟨B,1,Z⟩=T z0/\K' w ⟨B,2,Z⟩=T s0/\K' w ⟨B,3,Z⟩=T u1/\K' w ⟨B,4,Z⟩=T x2/\K' w ⟨B,5,Z⟩=T v2/\K' w ⟨B,6,Z⟩=T z3/\K' w ⟨B,7,Z⟩=T y3/\K' w ⟨B,8,Z⟩=T x3/\K' w ⟨B,9,Z⟩=T v3:=⟨h.j0,h.j1,h.j2,h.j3,h.j4,h.j5,h.j6,h.j7,h.j8,h.j9⟩
theorem W.k15{w}(h:W B (List.toArray (V::z0::s0::u1::x2::v2::z3::y3::x3::v3::t3::o3::z4::y4::r4::y1)) q0 w):K' w ⟨B,0,Z⟩=T V/\K' w ⟨B,1,Z⟩=T z0/\K' w ⟨B,2,Z⟩=T s0/\K' w ⟨B,3,Z⟩=T u1/\K' w ⟨B,4,Z⟩=T x2/\K' w ⟨B,5,Z⟩=T v2/\K' w ⟨B,6,Z⟩=T z3/\K' w ⟨B,7,Z⟩=T y3/\K' w ⟨B,8,Z⟩=T x3/\K' w ⟨B,9,Z⟩=T v3/\K' w ⟨B,10,Z⟩=T t3/\K' w ⟨B,11,Z⟩=T o3/\K' w ⟨B,12,Z⟩=T z4/\K' w ⟨B,13,Z⟩=T y4/\K' w ⟨B,14,Z⟩=T r4:=⟨h.j0,h.j1,h.j2,h.j3,h.j4,h.j5,h.j6,h.j7,h.j8,h.j9,h.j10,h.j11,h.j12,h.j13,h.j14⟩
abbrev s8(V:I')(a:M)(b c d e f g h i:H'):World:=(((((((V.setCell ⟨a,0,Z⟩ b).setCell ⟨a,1,Z⟩ c).setCell ⟨a,2,Z⟩ d).setCell ⟨a,3,Z⟩ e).setCell ⟨a,4,Z⟩ f).setCell ⟨a,5,Z⟩ g).setCell ⟨a,6,Z⟩ h).setCell ⟨a,7,Z⟩ i
theorem vW{V:I'}{rb:M}{d0 d1 d2 d3 d4 d5 d6 d7:H'}:O (λk=>k=rb) V<|s8 V rb d0 d1 d2 d3 d4 d5 d6 d7:=((((((((O.refl _ V).wS _ _).wS _ _).wS _ _).wS _ _).wS _ _).wS _ _).wS _ _).wS _ _
theorem wQ(h:W B #[V,z0,s0,u1,x2,v2,z3,y3] q0 P):W B #[x3,v3,t3,o3,z4,y4,r4,o4] q0<|s8 P B x3 v3 t3 o3 z4 y4 r4 o4:=by have k:=(((((((h.set 0 x3).set 1 v3).set 2 t3).set 3 o3).set 4 z4).set 5 y4).set 6 r4).set 7 o4;simp only[Bu,Bv,Bw]at k;exact k
def oJ(s p:Cd):Bool:=zu (p.size<=s) && ((s.extract 0 p).toList==p.toList)
theorem QO(s p:Cd)(_hs:s.size<=4001)(_hp:p.size<=4001)(w:I'):
 F' zy 184 #[s,p] w λe d=>e=(oJ s p)/\d=w:=by
 generalize c:oJ s p=v;have a:D<|oJ s p=v:=c;clear c;by_cases h:p.size<=s
 .cases b:((s.extract 0 p).toList==p.toList)with
  |true=> go_in;go_wp2;go_ret;exact⟨Iq<|by rw[<-a.o];simp only[oJ,b];simp[h],Q⟩
  |false=> go_in;go_wp2;go_ret;exact⟨Iq<|by rw[<-a.o];simp only[oJ,b];simp,Q⟩
 .have f:s.size<p:=by omega
  go_in;go_wp2;go_ret;exact⟨Iq<|by rw[<-a.o];simp[oJ,h],Q⟩
theorem Sl(s p)(b:s.size<=4001)(a:p.size<=4001)(w):
 F' zy 162 #[Y' s,Y' p] w λe c=>e=T' (O'<|oJ s p)/\c=w:=by
 go_in;go_wp2_with(go_at_call 184;apply FC<|QO _ _ b a _);go_ret;exact⟨Q,Q⟩
theorem iR(s:Cd)(p:M)(b:p<=s):oJ (s.extract p s) {data:=#[239,191,189]}=(zu (p+3<=s.size) && (s.extract p<|p+3).toList==[239,191,189]):=by
 have a:(s.extract p s)=s-p:=by simp
 grind[ByteArray.size,ByteArray.toList_eq,oJ,ByteArray.extract_extract]
theorem IP(s:Cd)(p r:M)(i:s.size<=4000)(f:p<=s)(w:I'):
 F' zy 129 #[s,p,.int .i32 r] w λe g=>e=(Gm s p r)/\g=w:=by
 have c:=J<|iR s p f;generalize b:Gm s p r=v;have a:D<|Gm s p r=v:=b;clear b;by_cases h:r=65533
 .have d:=wR ((r:M):zw) 65533 (by omega);go_in;go_wp2_with(go_at_call 162;refine FC (Sl _ _ (by simp;omega) (by decide) _) ?_);go_ret;exact⟨Iq<|by rw[<-a.o,c.o];simp[Gm,h],Q⟩
 .have d:=Ka ((r:M):zw) 65533 (by omega);go_in;go_wp2;go_ret;exact⟨Iq<|by rw[<-a.o];simp[Gm,h],Q⟩
def Nv(t:PT):Ci:=[G A t.e,t.a,t.t9]
def Gb(l:Dw):Ci:=l.flatMap Nv
theorem Sq(l t):Gb (l++[t])=Gb l++Nv t:=by simp[Gb]
def PN(B b:M)(s:Cd)(v:H')(x:Sc)(w:I'):Prop:=
 W b #[s,v,x.rem,x.xC,x.K] 192 w/\J' w B 256 3 v x.tZ (Gb x.tZ)
structure Fr(b:M)(v v':H')(w w':I'):Prop where
 j:O (λk=>k=b\/v.ownBlock=T k) w w'
 own:∀k,v'.ownBlock=T k->v.ownBlock=T k\/(w:M)<=k
theorem Fr.refl(b v w):Fr b v v w w:=⟨oq,λ_ h=>zo h⟩
theorem Fr.trans{b:M}(h:Fr b V z0 P y0)(k:Fr b z0 s0 y0 v1):Fr b V s0 P v1:=by
 refine⟨⟨k.j.os.trans h.j.os,k.j.tape.trans h.j.tape,k.j.output.trans h.j.output,As h.j.size k.j.size,λi a c=>?_⟩,λi a=>?_⟩;rw[k.j.block i (Av a h.j.size) ?_];exact h.j.block i a c;rintro(q|q);exact c<|zo q;rcases h.own i q with q|q
 exact c<|zn q;omega;rcases k.own i a with q|q
 exact h.own i q;exact zn<|As h.j.size q
theorem Fr.drew(h:Fr B V z0 P y0):Fr B V z0 P y0.drew:=⟨h.j.drew,h.own⟩
theorem Fr.drewN(h:Fr B V z0 P y0)(n):Fr B V z0 P<|y0.drewN n:=⟨h.j.drewN n,h.own⟩
theorem Fr.alloc(h:Fr B V z0 P y0)(o):Fr B V z0 P<|y0.alloc o:=⟨h.j.alloc o,h.own⟩
theorem Fr.set{w}(h:Fr B V z0 w P)(i u):Fr B V z0 w<|P.setCell ⟨B,i,Z⟩ u:=⟨h.j.setCell (zo<|zo Q) u,h.own⟩
theorem PN.ne(h:PN B C u0 V v4 P):∀k,L' V=T k->k≠C:=CL h.2 h.1<|by decide
theorem PN.j{w w'}(h:PN B C u0 V v4 w)(a:O Cb w w'):PN B C u0 V v4 w':=
 ⟨h.1.j a id,Cx h.2 a Ed⟩
def Nw(x:Sc)(t:PT):Sc:=⟨x.tZ++[t],x.rem,x.xC,x.K⟩
theorem Tryz.infoPT:(Tryz.prog.info? 256).map (λi=>(i.zero,i.size,i.bytes))=T (T<|N' #[G A 0,Y' ByteArray.empty,G A 0],3,32):=by kernel_rfl
theorem fX{t}(h:PN B C u0 V v4 P)(d:O Cb P y0)(l:J' v1 B 256 3 z0 (L v4.tZ+1)<|Gb v4.tZ++Nv t)(e:y0.grownBy v1<|L' V)(i:∀k,L' z0=T k->L' V=T k\/P.heap.size<=k):
 PN B C u0 z0 (Nw v4 t) (v1.setCell (C,1) z0)/\Fr C V z0 P (v1.setCell (C,1) z0):=by
 have g:=h.ne;have c:O (λk=>L' V=T k) P v1:=O.xA (d.mono λ_ _ q=>q.elim) e λk f=>zo f;have a:=h.1.j c λq=>g C q Q;have j:=(CT (λk=>k=C) v1).wS 1 z0;have m:∀k,L' z0=T k->k≠C:=CL l a (by decide);refine⟨⟨?_,?_⟩,?_,i⟩;have:=a.set 1 z0;grind[Nw];grind[Cx,Nw,Sq];exact(c.mono λk _ q=>zn q).trans (j.mono λk _ q=>zo q)
theorem TX(B b s v x)(f a c:M)(w:I')(_hs:s.size<=4000)(h:PN B b s v x w)(hB:B<=w)(a1:a<=c)(a0:c<=s)(hm:L x.tZ<=4001):
 F' zy 87 #[Z' b,f,a,c] w λe n=>e=P' #[]/\∃g,PN B b s g (Nw x ⟨f,s.extract a c,a⟩) n/\Fr b v g w n:=by
 have⟨N,y,H,I,K⟩:=Bx Tryz.infoPT;have⟨c0,r⟩:=h.1.k2;have t:=h.1.wV 1;have⟨P,S,R,F⟩:=CA h.2;subst F;have m:=Cz h.1;have E:=h.2;have i:=J h.ne;have p:=J h;clear h;go_in;go_region_law(refine C7 Q _ _ 78 Q B 256 N (N' #[G A 0,ByteArray.empty,G A 0]) 3 32 underlying78 y H I K Q (by decide) _ _ _ Q (E.alloc _) w 1 1 [G A f,(s.extract a c),a] Q Q (C3 Q _ _) (λu l=>by simp at l;rcases l with rfl|rfl|rfl<;>rfl) (by decide) (by unfold E';omega) (by omega) (by simp;omega) ?_;intro g o j d C;have q1:o (b,1)=Y P S R:=(Ae<|d.block b (by simp;omega) λh=>i.o b h.symm Q).trans (by rw[<-r];exact Ae<|Ao _ _ _ m);have q2:o.frozen? (b,1)=zr:=(Aj<|d.block b (by simp;omega) λh=>i.o b h.symm Q).trans (by rw[<-t];exact Aj<|Ao _ _ _ m);obtain⟨U,X,V,rfl⟩:=CA j);all_goals
  go_wp2_with fail;go_end0;refine⟨Q,Y U X V,?_⟩;exact fX p.o (((CT _ _).alloc _).drew) j d λk z=>(C k z).imp id λq=>by simp at q;omega
theorem Pb(B b s v x a w)(C:s.size<=4000)(h:PN B b s v x w)(t:B<=w)(u:a<=s.size)(g:Pz a x):
 F' zy 86 #[Z' b,a] w λe n=>e=P' #[]/\∃d,PN B b s d (Gh s a x) n/\Fr b v d w n:=by
 obtain⟨E,-,-,F,q⟩:=h.1.k5;have r:=h.1.wV 4;have K:=Cz h.1;have z:=g.xC;have H:=g.K;have I:=g.many;have f:=J h;clear h g;by_cases m:0<x.K
 .have j:Gh s a x=⟨x.tZ++[⟨Hx (s.extract x.xC a).toList,s.extract x.xC a,x.xC⟩],x.rem,x.xC,0⟩:=by simp[Gh,m]
  rw[j];have y:=LH (p:=(0:zw)<x.K) (by omega);go_in;go_wp2;go_cut[] (λo=>∃d,PN B b s d (Nw x ⟨Hx (s.extract x.xC a).toList,s.extract x.xC a,x.xC⟩) o/\Fr b v d w o)
  .go_region_with(first
    |(go_at_call 133;apply FC<|UQ _ _)
    |(go_at_call 87;apply(TX B b s v x (Hx (s.extract x.xC a).toList) x.xC a _ C (f.o.j oq) (by simpa using t) z u<|by omega).mono;rintro e N ⟨rfl,l,c,i⟩))
   all_goals
    go_wp2_with fail;go_meet;exact⟨l,c,Fr.trans ⟨oq,λ_ h=>zo h⟩ i⟩
  have⟨l,c,i⟩:=hcut;have r:=c.1.wV 4;have q:=c.1.j4;go_wp2;go_end0;refine⟨Q,l,⟨?_,?_⟩,i.set 4 _⟩;have:=c.1.set 4<|G A 0;simpa[Nw]using this;exact Cx c.2 ((CT (λk=>k=b) _).wS 4 _) c.ne
 .have j:Gh s a x=⟨x.tZ,x.rem,x.xC,0⟩:=by simp[Gh,m]
  rw[j];have y:=Hz (p:=(0:zw)<x.K) (by omega);go_in;go_wp2;go_end0;refine⟨Q,v,⟨?_,?_⟩,(Fr.refl _ _ _).set 4 _⟩;have:=f.o.1.set 4<|G A 0;simpa using this;exact Cx f.o.2 ((CT (λk=>k=b) _).wS 4 _) f.o.ne
theorem RI(B b:M)(s:Cd)(v:H')(x:Sc)(p:M)(w:I')(h:PN B b s v x w)(m:x.K<=8):
 F' zy 131 #[Z' b,p] w λe l=>e=P' #[((if 8<x.K+1 then(Fm p x).xC else 0:M):zw),(!zu (8<x.K+1))]/\PN B b s v (Fm p x) l/\Fr b v v w l:=by
 obtain⟨-,-,-,n,g⟩:=h.1.k5;have o:=h.1.wV;have r:=Cz h.1;have a:=J h;clear h;by_cases c:x.K=0
 .have d:((x.K:zw)==0)=zt:=by simp[c]
  have f:Fm p x=⟨x.tZ,x.rem,p,1⟩:=by simp[Fm,c]
  rw[f,c];rw[c]at g;clear c d;go_in;go_wp2;go_ret2;refine⟨Q,⟨?_,?_⟩,((Fr.refl _ _ _).set 3 _).set 4 _⟩;have:=(a.o.1.set 3 p).set 4<|G A 1;simpa using this;exact Cx a.o.2 (((CT (λk=>k=b) _).wS 3 _).wS 4 _) a.o.ne
 .have d:((x.K:zw)==0)=zr:=by simp[c]
  have f:Fm p x=⟨x.tZ,x.rem,x.xC,x.K+1⟩:=by simp[Fm,c]
  rw[f];by_cases i:x.K=8
  .rw[i];rw[i]at g;clear c d m;go_in;go_wp2;go_ret2;refine⟨Q,⟨?_,?_⟩,(Fr.refl _ _ _).set 4 _⟩;have:=a.o.1.set 4<|G A 9;simpa using this;exact Cx a.o.2 ((CT (λk=>k=b) _).wS 4 _) a.o.ne
  .have q:=Hz (p:=(8:zw)<(x.K:zw)+1) (by omega);have j:¬8<x.K+1:=by omega
   simp only[j,BE,decide_false,Bool.not_false];clear j;go_in;go_wp2;go_ret2;refine⟨Q,⟨?_,?_⟩,(Fr.refl _ _ _).set 4 _⟩;have:=a.o.1.set 4<|G A<|(x.K:zw)+1;simpa using this;exact Cx a.o.2 ((CT (λk=>k=b) _).wS 4 _) a.o.ne
theorem UH(B b s v x)(p r:M)(w:I')(H:s.size<=4000)(h:PN B b s v x w)(F:B<=w)(S:p<s)(R:L x.tZ<=4000):
 F' zy 132 #[Z' b,p,.int .i32 r] w λe i=>e=P' #[(GQ s p r x).2.1,(GQ s p r x).2.2]/\∃q,PN B b s q (GQ s p r x).1 i/\Fr b v q w i:=by
 have K:=h.1.z;have P:=h.1.wV;have U:=Cz h.1;have d:=J h;clear h;by_cases a:r=32\/r=9\/r=10
 .have c:GQ s p r x=(x,0,zt):=by simp[GQ,a]
  rw[c];rcases a with a|a|a
  all_goals
   subst a;go_in;go_wp2;go_ret2;exact⟨Q,v,d.o,Fr.refl _ _ _⟩
 .have u:=Ka r 32 (by omega);have y:=Ka r 9 (by omega);have z:=Ka r 10 (by omega);by_cases f:r=35
  .have c:GQ s p r x=(⟨x.tZ,zt,x.xC,x.K⟩,0,zt):=by simp[GQ,f]
   rw[c];subst f;clear u y z;go_in;go_wp2;go_ret2;refine⟨Q,v,⟨?_,?_⟩,(Fr.refl _ _ _).set 2 _⟩;have:=d.o.1.set 2<|O' zt;simpa using this;exact Cx d.o.2 ((CT (λk=>k=b) _).wS 2 _) d.o.ne
  .have N:=Ka r 35 (by omega);by_cases g:Ey r=0
   .have c:GQ s p r x=(x,p,zr):=by simp[GQ,a,f,g]
    rw[c];have j:D<|Ey r=0:=g;clear a f g;go_in;go_wp2_with(go_at_call 163;apply(Nq _ _).mono;rw[j.o];rintro e i ⟨rfl,o⟩;cases o.symm);go_ret2;exact⟨Q,v,d.o,Fr.refl _ _ _⟩
   .have c:GQ s p r x=(Nw x ⟨Ey r,s.extract p<|p+1,p⟩,0,zt):=by simp[GQ,a,f,g,Nw]
    rw[c];have l:(Ey r !=0)=zt:=by simp[g]
    have⟨m,n⟩:=Dv<|Ey r;rw[n]at l|-;have t:=J n;have j:=J l;clear a f g l n;go_in;go_wp2_with(first
     |(go_at_call 163;apply(Nq _ _).mono;rw[t.o,j.o];rintro e i ⟨rfl,o⟩;cases o.symm)
     |(go_at_call 87;apply(TX B b s v x m p (p+1) _ H d.o F (by omega) (by omega)<|by omega).mono;rintro e V ⟨rfl,I,C,E⟩))
    go_ret2;exact⟨Q,I,C,E⟩
theorem Xg(B b s v x)(p r:M)(w:I')(m:s.size<=4000)(h:PN B b s v x w)(V:B<=w)(X:p<s)(F:Pz p x):
 F' zy 85 #[Z' b,p,.int .i32 r] w λe i=>e=P' #[(DC s p r x).2.1,(DC s p r x).2.2]/\∃I,PN B b s I (DC s p r x).1 i/\Fr b v I w i:=by
 obtain⟨c0,-,E⟩:=h.1.k3;have ff:=h.1.wV;have lb:=Cz h.1;have j:=J h;have y:=J F;clear h F;cases c:Gm s p r with
 |true=>
  have f:DC s p r x=(x,p,zr):=by simp[DC,c]
  rw[f];have n:=J c;clear c;go_in;go_wp2_with(first|(go_at_call 129;apply(IP _ _ _ m (by omega) _).mono;rw[n.o];rintro e i ⟨rfl,a⟩;cases a.symm));go_ret2;exact⟨Q,v,j.o,Fr.refl _ _ _⟩
 |false=>
  have n:=J c;cases g:x.rem with
  |true=>
   have f:DC s p r x=(⟨x.tZ,r !=10,x.xC,x.K⟩,0,zt):=by simp[DC,c,g]
   rw[f];rw[g]at E;have H:((r:zw) !=10)=(r !=10):=by rw[Bool.eq_iff_iff];simp;omega
   have P:=J H;clear c g H;go_in;go_wp2_with(first|(go_at_call 129;apply(IP _ _ _ m (by omega) _).mono;rw[n.o];rintro e i ⟨rfl,a⟩;cases a.symm));go_ret2;refine⟨Q,v,⟨?_,?_⟩,(Fr.refl _ _ _).set 2 _⟩;have:=j.o.1.set 2<|(r:zw) !=10;rw[P.o]at this|-;simpa using this;exact Cx j.o.2 ((CT (λk=>k=b) _).wS 2 _) j.o.ne
  |false=>
   rw[g]at E;cases l:PH r with
   |true=>
    have u:=J l;have f:DC s p r x=(Fm p x,(if 8<x.K+1 then(Fm p x).xC else 0),!zu (8<x.K+1)):=by simp only[DC,c,g,l];by_cases U:8<x.K+1<;>simp[U]
    rw[f];clear c g l f;have⟨q,t⟩:=Dv<|(if 8<x.K+1 then(Fm p x).xC else 0);have⟨d,C⟩:=Dv<|(!zu (8<x.K+1));have N:=J t;have K:=J C;rw[t,C];clear t C;go_in;go_wp2_with(first|(go_at_call 129;apply(IP _ _ _ m (by omega) _).mono;rw[n.o];rintro e i ⟨rfl,a⟩;cases a.symm)|(go_at_call 130;apply(Ni _ _).mono;rw[u.o];rintro e i ⟨rfl,a⟩;cases a.symm)|(go_at_call 131;apply(RI B b s v x p _ j.o y.o.K).mono;rw[N.o,K.o];rintro e w1 ⟨rfl,z,o⟩));go_ret2;exact⟨Q,v,z,o⟩
   |false=>
    have u:=J l;have f:DC s p r x=GQ s p r (Gh s p x):=by simp[DC,c,g,l]
    rw[f];clear c g l f;go_in;go_wp2_with(first|(go_at_call 129;apply(IP _ _ _ m (by omega) _).mono;rw[n.o];rintro e i ⟨rfl,a⟩;cases a.symm)|(go_at_call 130;apply(Ni _ _).mono;rw[u.o];rintro e i ⟨rfl,a⟩;cases a.symm)|(go_at_call 86;apply(Pb B b s v x p _ m j.o V (by omega) y.o).mono;rintro e w1 ⟨rfl,v1,z,o⟩;have hz:=o.j.size;have t:=(y.o.yA (s:=s)).many)|(go_at_call 132;apply(UH B b s v1 (Gh s p x) p r _ m z (by omega) X<|by omega).mono;rintro e w2 ⟨rfl,v2,R,S⟩));go_ret2;exact⟨Q,v2,R,o.trans S⟩
abbrev x0:Sc:=⟨[],zr,0,0⟩
def sS(w:I')(s:Cd)(V:M ⊕ Sc)(e:Ending)(a:I'):Prop:=
 match V with
 |.inl p=>e=P' #[Y Z 0 0,G A 2,p]/\zx w w a
 |.inr x=>∃v,e=P' #[v,G A 0,G A 0]/\J' a w 256 3 v (C2 s x) (Gb<|C2 s x)/\L (C2 s x)<=4001/\zx w w a
theorem VW(h:P.heap[B]? =T (.stringIter u0 C)):P.iterPos B=C:=by grind[World.iterPos]
theorem Pk(w k s p):O (λj=>j=k) w<|w.iterAt k s p:=by have h:=Lib.below_iterAt (Below.refl 0 w) (k:=k) (Ar _) s p;exact⟨h.os,h.tape,h.output,h.size,λj _ a=>Lib.iterAt_other _ _ _ _ _ λe=>a e⟩
theorem Wr(h:J' P B q0 C V R y1)(f:P.heap[X]? =T (.stringIter u0 v0)):∀k,L' V=T k->k≠X:=by
 rintro k a rfl;rcases h.2 with⟨d,_⟩|⟨l,i,j,g,_,c,_⟩
 rw[d]at a;simp[L']at a;rw[g]at a;simp[L']at a;subst a;rw[f]at c;cases c
theorem PN.iter{t q}(h:PN B C u0 V v4 P)(c:P.heap[R]? =T (.stringIter t X))(a:C≠R):PN B C u0 V v4<|P.iterAt R t q:=
 ⟨h.1.j (Pk _ _ _ _) a,Cx h.2 (Pk _ _ _ _)<|Wr h.2 c⟩
theorem Fr.iter{t}(h:Fr B V z0 P y0)(c:PN R B u0 V v4 P)(a:P.heap[C]? =T (.stringIter t X))(d:B≠C):y0.heap[C]? =T (.stringIter t X):=by rw[h.j.block C (Cz a) ?_];exact a;rintro(q|q);omega;exact Wr c.2 a C q Q
theorem Fr.below(h:Fr B V z0 P y0)(d:PN C B u0 V v4 P)(a:C<=P)(f:C<=B):zx C P y0:=
 h.j.xL a (λk c=>c.elim (λe=>by omega) λq=>(d.2.lt k q).1)
theorem Xi(s)(c:4000<s.size)(a:s.size<=E')(w):
 F' zy 49 #[Y' s] w λe b=>e=T' (P' #[Y Z 0 0,G A 1,G A 0])/\b=w:=by
 unfold E' at a;go_in;go_wp2;go_ret3;exact⟨Q,Q⟩
theorem KL(s)(t:s.size<=4000)(w):
 F' zy 49 #[Y' s] w λe w'=>sS w s (Dg s s.size 0 x0) e w':=by
 generalize I:Dg s s.size 0 x0=V;have H:D<|Dg s s 0 x0=V:=I;clear I;go_in;go_wp2;go_loopw[6,7,8,9] (λ_ _ _ _ wr=>∃(a q f:M) (v:H') (x:Sc),wr.heap[(w:M)+1]? =T (.stringIter s a)/\PN w w s v x wr/\zx w w wr/\s-a<=f/\Pz q x/\q<=a/\q<=s/\D (Dg s f a x=V)) (λ_ _ _ _ wr=>s-wr.iterPos ((w:M)+1));refine⟨0,0,s,Y Z 0 0,x0,?_,?_,?_,by omega,⟨Ad _,by simp,by simp⟩,Ad _,Ar _,H⟩;have:=World.iter_heap (w.alloc<|R' #[s,Y Z 0 0,O' zr,G A 0,G A 0] 192) s 0;simpa using this;exact⟨(W.new w #[s,Y Z 0 0,O' zr,G A 0,G A 0] 192).alloc _,An _ _ _ _⟩;exact((Below.refl _ _).alloc (Ad _) _).alloc (by simp) _;have⟨a,q,f,v,x,h,u,m,N,p,a6,a7,o⟩:=hrel;clear H;have a5:=VW h;have a0:=m.size;by_cases d:a<s
 .have a3:∀i,(Instr.next (Z'<|T ⟨(w:M)+1,0,Z⟩) zt i).run zy wr=_:=λi=>Lib.run_next_any_at wr ((w:M)+1) s a i h d
  have P:=Lib.iterAt_heap wr ((w:M)+1) s a (a+(Utf8.decode s a).2) h;have C:=Lib.below_iterAt m (k:=w+1) (by omega) s<|a+(Utf8.decode s a).2;have X:=u.iter (q:=a+(Utf8.decode s a).2) h (by omega);have a9:=Kx s a d;have S:=p.more a6;generalize wr.iterAt ((w:M)+1) s (a+(Utf8.decode s a).2)=W1 at*;have z:=C.size;have⟨y,hy⟩:=Dv<|DC s a (Utf8.decode s a).1 x;have c:=J hy;have j:=J S;have b:=X;have a1:=J P;have n:=C;clear h u m p S X P C hy;have⟨y1,y2,y3⟩:=y;cases y3 with
  |true=>
   go_wp2_with(go_at_call 85;apply(Xg w w s v x a (Utf8.decode s a).1 _ t b z d j.o).mono;rw[c.o];rintro e w2 ⟨rfl,F,l,g⟩);have⟨f',a2,K⟩:=GD (x:=x) N d (by rw[c.o]);rw[c.o]at K;have a4:Pz (a+1) y1:=by have:=lY (s:=s) (r:=(Utf8.decode s a).1) j.o (by rw[c.o]);rw[c.o]at this;exact this
   have R:=g.iter b a1.o (by omega);go_roundw;exact⟨a+(Utf8.decode s a).2,a+1,f',F,y1,R,l,n.trans<|g.below b z<|Ad _,a2,a4,by omega,by omega,by show _=_;rw[<-K];exact o.o⟩;rw[VW R,a5];omega
  |false=>
   go_wp2_with(go_at_call 85;apply(Xg w w s v x a (Utf8.decode s a).1 _ t b z d j.o).mono;rw[c.o];rintro e w2 ⟨rfl,F,l,g⟩);go_ret3;have E:V=.inl y2:=by have:=IB (x:=x) N d (by rw[c.o]);rw[c.o]at this;rw[<-o.o,this]
   subst E;exact⟨Q,n.trans<|g.below b z<|Ad _⟩
 .have a3:∀i,(Instr.next (Z'<|T ⟨(w:M)+1,0,Z⟩) zt i).run zy wr=_:=λi=>Lib.run_next_end_at wr ((w:M)+1) s a i h d
  have E:V=.inr x:=by rw[<-o.o,JS d]
  subst E;have b:=u;have n:=m;have U:=p.more a7;have j:=J U;clear h u m p o U;have a8:=(j.o.yA (s:=s)).many;go_wp2_with(first
   |(go_at_call 86;apply(Pb w w s v x s _ t b a0 (Ad _) j.o).mono;rintro e w1 ⟨rfl,v1,l,g⟩;have b0:=g.j.size)
   |(go_at_call 87;apply(TX w w s v1 (Gh s s x) 0 s s _ t l (by omega) (Ad _) (Ad _)<|by omega).mono;rintro e w2 ⟨rfl,F,B,h4⟩;have c1:=B.1.z;obtain⟨va,vl,vc,rfl⟩:=CA B.2))
  go_ret3;refine⟨_,Q,?_,?_,?_⟩;have:=B.2;simpa[C2,Nw]using this;simp[C2];omega;exact(n.trans<|g.below b a0<|Ad _).trans (h4.below l (by omega)<|Ad _)
def rL(t:PT):Prop:=t.e=2->t.a=⟨#[48]⟩\/t.a=⟨#[49]⟩\/t.a=⟨#[50]⟩\/t.a=⟨#[51]⟩
def He(l:Dw):Prop:=∀t,t∈l->rL t
theorem He.snoc{l t}(h:He l)(c:rL t):He<|l++[t]:=by
 intro u b;rcases AJ.1 b with a|a
 exact h u a;grind
theorem mK(l):Hx l≠2:=by grind[Hx]
theorem He.yA{s e}(h:He v4.tZ):He (Gh s e v4).tZ:=by unfold Proofs.YtbkhmmeecjnnkaaGreatDoor.Gh;split;exact h.snoc λa=>Bm a<|mK _;exact h
theorem cL(h:Ey B=2):B=48\/B=49\/B=50\/B=51:=by
 unfold Ey at h;split at h;assumption
 .exfalso;revert h;repeat' split
  all_goals decide
theorem XX(a:B<u0.size)(h:Ey (Utf8.decode u0 B).1=2):u0.extract B (B+1)=⟨#[48]⟩\/u0.extract B (B+1)=⟨#[49]⟩\/u0.extract B (B+1)=⟨#[50]⟩\/u0.extract B (B+1)=⟨#[51]⟩:=by
 have c:=cL h;have g:(u0[B]'a).toNat<128:=by grind[decode_high]
 rw[decode_ascii u0 B a g]at c;have d:u0.extract B (B+1)=⟨#[u0[B]'a]⟩:=by
  apply ByteArray.ext;rw[Bq];have m:B<u0.data:=a;apply Array.ext;simp;omega;intro i j k;have f:i=0:=by grind
  subst f;simp;rfl
 have b:∀n:M,n<256->(u0[B]'a).toNat=n->u0[B]'a=UInt8.ofNat n:=by intro n l e;rw[<-e];simp
 rw[d];rcases c with q|q|q|q
 exact zo (by rw[b _ (by decide) q];rfl);exact zn (zo<|by rw[b _ (by decide) q];rfl);exact zn (zn<|zo<|by rw[b _ (by decide) q];rfl);exact zn<|zn<|zn<|by rw[b _ (by decide) q];rfl
theorem eN{s}(c:B<s.size)(h:He v4.tZ):He (DC s B (Utf8.decode s B).1 v4).1.tZ:=by unfold DC;split;exact h;split;exact h;split;split;exact h;exact h;have a:=h.yA (s:=s) (e:=B);unfold GQ;split;exact a;split;exact a;split;exact a;exact a.snoc λb=>XX c b
theorem Ps(s):∀(f p:M) (x y:Sc),He x.tZ->Dg s f p x=.inr y->He y.tZ
 |0,_,x,y,h,e=>by have:=Sum.inr.inj e;grind
 |f+1,p,x,y,h,e=>by
  unfold Dg at e;split at e
  .rename_i a;split at e
   .exact Ps s f _ _ y (eN a h) e
   .cases e
  grind
theorem JR(h:Dg u0 u0 0 ⟨[],zr,0,0⟩=.inr v4):He<|C2 u0 v4:=
 (Ps u0 _ _ _ _ (λ_ b=>Bm b<|by simp) h).yA.snoc (λa=>Bm (show(0:M)=2 from a) nofun)
structure PS where
 q:M
 H:Bool
 xN:M
def Fg:PT:=⟨0,ByteArray.empty,0⟩
def CJ(l:Dw)(i:M):PT:=l[i]?.getD Fg
def Mq(a:Dw)(n:M)(x:PS):PS:=⟨n-1,zt,if x.H then x.xN else(CJ a x.q).t9⟩
def CC(a:Dw)(n k:M)(x:PS):PS:=if (CJ a x.q).e=k then(if k=0 then x else⟨x.q+1,x.H,x.xN⟩)else Mq a n x
def Di(a:Dw)(k:M)(x:PS):PT:=if (CJ a x.q).e=k then CJ a x.q else Fg
def DA(b g n a:M)(x:PS)(w:I'):Prop:=W b #[Y g n a,x.q,x.H,x.xN] 198 w
def DM(g n b:M)(a:Dw)(w:I'):Prop:=J' w 0 256 3 (Y g n b) n (Gb a)/\n=a/\n<=4001/\He a
theorem WB{l i}(h:i<L l):(Gb l)[i*3]? =T (G A (CJ l i).e)/\(Gb l)[i*3+1]? =T (Y' (CJ l i).a)/\(Gb l)[i*3+2]? =T (G A (CJ l i).t9):=by
 induction l generalizing i with
 |nil=>simp at h
 |cons t l a=>
  cases i with
  |zero=>simp[Gb,Nv,CJ]
  |succ i=> have:=a (i:=i) (by simpa using h);simp only[Gb,List.flatMap_cons,CJ,Ab]at this|-;grind[Nv]
theorem DM.cells{g a}(h:DM g B C a P){i}(c:i<B):
 P (g,i*3)=(CJ a i).e/\P (g,i*3+1)=(CJ a i).a/\P (g,i*3+2)=(CJ a i).t9:=by
 have d:=h.2.1;have b:=WB (l:=a) (i:=i) (by omega);exact⟨by rw[h.1.cellAt _<|by omega];exact b.1,by rw[h.1.cellAt _<|by omega];exact b.2.1,by rw[h.1.cellAt _<|by omega];exact b.2.2⟩
theorem DM.j{a}{X:Ce}{w w'}(h:DM B C R a w)(b:O X w w')(d:¬X B):DM B C R a w':=
 ⟨Cx h.1 b λk c=>by grind[L'],h.2⟩
theorem DM.ne{f}(h:DM B C R f P){a}(c:P.heap[X]? =T (R' q1 q0 a))(d:q0≠256):B≠X:=λe=>CL h.1 c d B Q e
theorem DM.lt{a}(h:DM B C R a P):B<P:=(h.1.lt B Q).2
theorem Gx(b g n d x c w)(f:DA b g n d x w)(a:DM g n d c w)(h:x.q<n):
 F' zy 135 #[Z' b] w λe i=>e=(CJ c x.q).e/\O Cb w i:=by
 have⟨o,p,q⟩:=a.cells h;have j:=a.2.2.1;have m:=W.z f;have l:=Cz f;have k:=a.lt;generalize CJ c x.q=t at*;go_in;go_wp2;go_region;go_wp2;go_ret;exact⟨Q,oq⟩
theorem dC(b g n f x h w)(a:DA b g n f x w)(d:DM g n f h w)(q:x.q<n):
 F' zy 167 #[Z' b] w λe p=>e=P' #[]/\DA b g n f (Mq h n x) p/\O (λk=>k=b) w p:=by
 have⟨E,F,H⟩:=d.cells q;have s:=d.2.2.1;have z:=W.j0 a;have B:=W.j1 a;have o:=W.j2 a;have C:=W.j3 a;have r:=λi=>CZ a i
 have y:=Cz a;have v:=d.lt;have u:=d.ne a (by decide);clear d;have m:((n:zw)-1)=((n-1:M):zw):=by omega
 have l:=J m;clear m;unfold Mq;generalize CJ h x.q=t at*;cases c:x.H with
 |true=> rw[c]at o;have j:=J c;clear c;go_in;go_wp2;go_end0;refine⟨Q,?_,(CT _ _).wS 1 _⟩;have:=W.set a 1<|G A<|(n:zw)-1;rw[l.o]at this|-;simpa[DA,j.o]using this
 |false=> rw[c]at o;have j:=J c;clear c;go_in;go_wp2;go_region;go_wp2;go_end0;refine⟨Q,?_,?_⟩;have:=W.j (((W.set (w:=w) a 2<|O' zt).set 3<|G A t.t9).set 1<|G A<|(n:zw)-1) ((CT Cb _).drew) id;rw[l.o]at this|-;simpa[DA]using this;exact(((((CT (λk=>k=b) w).drew).wS 2 _).wS 3 _).wS 1 _)
def fM(t:PT):Value:=N' #[t.e,t.a,t.t9]
theorem Ek(b g n o k:M)(x:PS)(a:Dw)(w:I')(f:DA b g n o x w)(m:DM g n o a w)(q:x.q<n):
 F' zy 136 #[Z' b,k] w λe r=>e=(fM<|Di a k x)/\DA b g n o (CC a n k x) r/\O (λk=>k=b) w r:=by
 have⟨V,t1,t2⟩:=m.cells q;have K:=m.2.2.1;have U:=W.z f;have H:=λi=>CZ f i
 have S:=Cz f;have R:=m.lt;have N:=m.ne f (by decide);by_cases c:(CJ a x.q).e=k
 .have l:Di a k x=CJ a x.q:=by simp[Di,c]
  rw[l];have C:(((CJ a x.q).e:zw) !=(k:zw))=zr:=by simp[c]
  by_cases h:k=0
  .have d:CC a n k x=x:=by simp[CC,c,h]
   rw[d];have B:((k:zw) !=0)=zr:=by simp[h]
   clear l d c h;generalize CJ a x.q=t at*;go_in;go_wp2;go_region;go_wp2;refine Ak (v:=fM t) (by simp[zz,results136,go_sem,fM]) Q ⟨Q,?_,?_⟩;exact W.j (X:=Cb) f oq id;exact oq
  .have d:CC a n k x=⟨x.q+1,x.H,x.xN⟩:=by simp[CC,c,h]
   rw[d];have B:((k:zw) !=0)=zt:=by simp[h]
   clear l d c h;generalize CJ a x.q=t at*;go_in;go_wp2;go_region;go_wp2;refine Ak (v:=fM t) (by simp[zz,results136,go_sem,fM]) Q ⟨Q,?_,?_⟩;have:=W.j (X:=Cb) (W.set f 1<|G A<|(x.q:zw)+1) ((((CT _ _).alloc<|R' #[G A t.e,Y' t.a,G A t.t9] 256).alloc<|R' #[G A t.e,Y' t.a,G A t.t9] 256).drew) id;simpa[DA]using this;exact(((((CT (λk=>k=b) w).wS 1 _).alloc _).alloc _).drew)
 .have l:Di a k x=Fg:=by simp[Di,c]
  have d:CC a n k x=Mq a n x:=by simp[CC,c]
  rw[l,d];have C:=qO ((CJ a x.q).e:zw) k (by omega);clear l d c;generalize CJ a x.q=t at*;go_in;go_wp2;go_region;go_wp2_with fail;refine(dC b g n o x a _ ?_ ?_ q).mono ?_;exact W.j (X:=Cb) f oq id;exact m.j (X:=Cb) oq id;rintro e F ⟨rfl,E,p⟩;have j:F.heap[(w:M)]? =T (R' #[G A 0,Y' {data:=#[]},G A 0] 256 (0,0)):=by rw[p.block w (by simp;omega)<|by omega];exact(Ao _ _ _<|by simp).trans (BB w _)
  have u:=W.j0 j;have y:=W.j1 j;have z:=W.j2 j;have I:=λi=>CZ j i
  have P:=Cz j;have s:=(((CT (λk=>k=b) w).alloc _).alloc _).drew.trans p;clear p j;go_wp2;refine Ak (v:=fM Fg) (by simp[zz,results136,go_sem,fM,Fg,u,y,z];rfl) Q ⟨Q,?_,?_⟩;exact W.j (X:=λk=>k=(w:M)) E (by repeat(first|exact oq|refine O.drew ?_|refine O.alloc ?_ _|refine O.wS ?_ _ _)) (by omega);repeat(first|exact s|refine O.drew ?_|refine O.alloc ?_ _|refine O.xB ?_ _ _ (Ad _))
def Qa(t:PT):Value:=N' #[t.a,t.t9]
def JM(t:PT):Ci:=[Y' t.a,t.t9]
def Ej(l:Dw):Ci:=l.flatMap JM
theorem Sp(l t):Ej (l++[t])=Ej l++JM t:=by simp[Ej]
theorem Q7(b g n d x a w)(h:DA b g n d x w)(m:DM g n d a w)(z:x.q<n):
 F' zy 164 #[Z' b] w λe o=>e=(Qa<|Di a 1 x)/\DA b g n d (CC a n 1 x) o/\O (λk=>k=b) w o:=by
 have H:=Cz h;have⟨t,j⟩:=Dv<|Di a 1 x;have⟨y,l⟩:=Dv<|CC a n 1 x;rw[j,l];have q:=J j;have r:=J l;clear j l;go_in;go_wp2_with fail;apply(Ek b g n d 1 x a _ (W.alloc h _) (m.j ((CT Cb _).alloc _) id) z).mono;rw[q.o,r.o];rintro e E ⟨rfl,B,f⟩;have c:E.heap[(w:M)]? =T (R' #[Y' {data:=#[]},G A 0] 145 (0,0)):=by rw[f.block w (by simp)<|by omega];exact BB w _
 have s:=W.j0 c;have u:=W.j1 c;have F:=λi=>CZ c i
 have C:=Cz c;have p:=((CT (λk=>k=b) w).alloc _).trans f;clear f c h m;unfold fM;go_wp2;refine Ak (v:=Qa t) (by simp[zz,results164,go_sem,Qa,s,u,C]) Q ⟨Q,?_,?_⟩;exact W.j (X:=λk=>k=(w:M)) B (by repeat(first|exact oq|refine O.drew ?_|refine O.alloc ?_ _|refine O.wS ?_ _ _)) (by omega);repeat(first|exact p|refine O.drew ?_|refine O.alloc ?_ _|refine O.xB ?_ _ _ (Ad _))
def GM(b:Dw):M->PS->Dw->Dw×PS
 |0,x,a=>(a,x)
 |f+1,x,a=>if (CJ b x.q).e=1 then GM b f ⟨x.q+1,x.H,x.xN⟩ (a++[CJ b x.q])else(a,x)
theorem LV{b x a}(h:¬(CJ b x.q).e=1):GM b B x a=(a,x):=by
 cases B with
 |zero=>rfl
 |succ B=>simp only[GM,Ba h]
theorem Z5{a x acc}(d:C-1-x.q<=B)(c:x.q<C)(g:(CJ a<|C-1).e=0)(h:(CJ a x.q).e=1):
 x.q+1<C/\∃b,C-1-(x.q+1)<=b/\GM a B x acc=GM a b ⟨x.q+1,x.H,x.xN⟩ (acc++[CJ a x.q]):=by
 have e:x.q≠C-1:=by grind
 refine⟨by omega,?_⟩;cases B with
 |zero=>omega
 |succ B=>exact⟨B,by omega,by grind[GM]⟩
theorem DO{a k x}(c:(CJ a<|B-1).e=0)(b:x.q<B):(CC a B k x).q<B:=by unfold CC;split;grind;show B-1<B;omega
theorem Z6{b:Dw}(c:(CJ b<|B-1).e=0):∀(f:M) (x:PS) (a:Dw),x.q<B->(GM b f x a).2.q<B
 |0,x,a,h=>h
 |f+1,x,a,h=>by
  simp only[GM];split
  .rename_i d;have e:x.q≠B-1:=by grind
   exact Z6 c f _ _<|by grind
  .exact h
def D3(a:Dw)(n:M)(x:PS):Dw×PS:=
 ((GM a a (CC a n 10 x) []).1,CC a n 11 (GM a a (CC a n 10 x) []).2)
theorem cW{b x}(a:(CJ b<|B-1).e=0)(c:x.q<B):(D3 b B x).2.q<B:=
 DO a (Z6 a _ _ _<|DO a c)
def Rh(b:M)(w:I'):M:=match w (b,1)with|some v=>(zm v).toNat|none=>0
theorem I4{x}(h:DA B C R X x P):Rh B P=x.q:=by have:=Jh h 1;grind[Rh,intOf]
theorem Tryz.infoNm:(Tryz.prog.info? 145).map (λi=>(i.zero,i.size,i.bytes))=T (T<|N' #[Y' ByteArray.empty,G A 0],2,24):=by kernel_rfl
theorem Tj(b g n d x a w)(i:DA b g n d x w)(c:DM g n d a w)(hc:x.q<n)(X:(CJ a<|n-1).e=0):
 F' zy 165 #[Z' b] w λe w'=>∃v,e=T' v/\J' w' w 145 2 v (D3 a n x).1 (Ej (D3 a n x).1)/\DA b g n d (D3 a n x).2 w'/\O (λk=>k=b) w w':=by
 have⟨i0,hi,b7,b8,b9⟩:=Bx Tryz.infoNm;have hn:=c.2.2.1;have a4:=c.2.1;have a3:=c.ne i (by decide);have lr:=Cz i;have lg:=c.lt;have U:=DO (k:=10) X hc;unfold D3;generalize hV:GM a (L a) (CC a n 10 x) []=V;have S:D<|GM a a (CC a n 10 x) []=V:=hV;have HZ:=J X;have R:=c;have a8:=J a4;have HR:=i;clear hV X c a4 i;go_in;go_wp2_with fail;apply(Ek b g n d 10 x a _ HR R hc).mono;rintro e t ⟨rfl,p,l⟩;generalize CC a n 10 x=x1 at p S U;have E:=p;have F:=R.j l a3;clear p HR R;go_wp2_with fail;go_loopw[3] (λv wr=>∃(y:PS) (f:M) (o:Dw),y.q<n/\o<=y.q/\DA b g n d y wr/\DM g n d a wr/\J' wr w 145 2 v o (Ej o)/\O (λk=>k=b) w wr/\n-1-y.q<=f/\D (GM a f y o=V)) (λ_ wr=>n-Rh b wr);exact⟨x1,a,[],U,by simp,E,F,An _ _ _ _,l,by have:=a8.o;omega,S⟩;have⟨y,f,o,u,c0,i,c,K,H,hf,C⟩:=hrel;clear S E F l U;have a7:=J<|I4 i;by_cases q:(CJ a y.q).e=1
 .have a9:(((CJ a y.q).e:zw)==1)=zt:=by simp[q]
  have⟨b3,f',b1,a1⟩:=Z5 (acc:=o) hf u HZ.o q;have HF:D<|GM a f' ⟨y.q+1,y.H,y.xN⟩ (o++[CJ a y.q])=V:=by rw[<-a1];exact C.o
  have HG:D<|Di a 1 y=CJ a y.q/\CC a n 1 y=⟨y.q+1,y.H,y.xN⟩:=⟨by simp[Di,q],by simp[CC,q]⟩;clear C a1 q;go_wp2_with fail;apply(Gx b g n d y a _ i c u).mono;rintro e wk ⟨rfl,m⟩;have P:=i.j m id;have z:=c.j m id;have s:=Cx K m Ed;have I:=H.xV m;clear i c K H m;go_wp2_with fail;apply(Q7 b g n d y a _ P z u).mono;rw[HG.o.1,HG.o.2];rintro e t ⟨rfl,p,l⟩;have N:=Cx s l (λj r=>by have:=(s.lt j r).1;omega);have a5:=I.trans l;have E:=p;have F:=z.j l a3;have c2:=a5.size;have c3:b<t:=Cz p;clear p l P z s I;unfold Qa;go_wp2_with(at_builtin;refine AO _ Q _ _ 146 Q w 145 i0 (N' #[ByteArray.empty,G A 0]) 2 24 underlying146 hi b7 b8 b9 Q (by decide) _ _ _ Q (N.alloc _) t 1 1 [Y' (CJ a y.q).a,((CJ a y.q).t9:zw)] Q Q (C3 Q _ _) (λx hx=>by simp at hx;rcases hx with rfl|rfl<;>rfl) (by unfold E';omega) (by omega) (by simp;omega) ?_;intro v' B b6 b2 c1);have a2:(t.alloc<|R' #[(CJ a y.q).a,((CJ a y.q).t9:zw)] 145).grownBy B<|L' u3:=b2;have a6:O (λk=>L' u3=T k) t B:=O.xA oq a2 λj r=>zo r;have b5:O (λk=>k=b) w B:=O.xA (a5.alloc _) a2 λj r=>zn (N.lt j r).1;have a0:DA b g n d ⟨y.q+1,y.H,y.xN⟩ B:=W.j E a6 (λh=>by have:=(N.lt _ h).1;omega);have b0:DM g n d a B:=F.j a6 (λh=>by have:=(N.lt _ h).1;omega);have b4:=I4 a0;refine⟨⟨⟨y.q+1,y.H,y.xN⟩,f',o++[CJ a y.q],b3,by simp;omega,a0,b0,?_,b5,b1,HF⟩,?_⟩;rw[Sp,Ah];exact b6;rw[b4,a7.o];simp only;omega
 .have a9:=Ka ((CJ a y.q).e:zw) 1 (by omega);have hv:V=(o,y):=by rw[<-C.o,LV q]
  subst hv;clear C q;go_wp2_with fail;apply(Gx b g n d y a _ i c u).mono;rintro e wk ⟨rfl,m⟩;have P:=i.j m id;have z:=c.j m id;have s:=Cx K m Ed;have I:=H.xV m;clear i c K H m;go_wp2_with fail;apply(Ek b g n d 11 y a _ P z u).mono;rintro e t ⟨rfl,p,l⟩;go_wp2_with fail;go_ret;refine⟨_,Q,?_,p,I.trans l⟩;exact Cx s l (λj r=>by have:=(s.lt j r).1;omega)
structure VS where
 e:M
 tg:PT
 sr:PT
 wU:M
 k:Dw
def Md(s:VS)(a:H'):Cg:=#[s.e,s.tg.a,s.tg.t9,s.sr.a,s.sr.t9,s.wU,a,Y Z 0 0]
abbrev vG:Cg:=#[G A 0,Y' {data:=#[]},G A 0,Y' {data:=#[]},G A 0,G A 0,Y Z 0 0,Y Z 0 0]
structure Zq(b g n u:M)(t:Dw)(x:PS)(B w:I'):Prop where
 pa:DA b g n u x w
 X:DM g n u t w
 xT:W B vG 270 w
 j:O (λk=>k=b) B w
 bl:b<B
theorem Zq.xC{b g n u t x w}(a:DA b g n u x w)(c:DM g n u t w):Zq b g n u t x w<|w.alloc<|R' vG 270:=
 ⟨W.alloc a _,c.j ((CT Cb _).alloc _) id,W.new _ _ _,(CT _ _).alloc _,Cz a⟩
theorem Zq.call{b g n u t x d B w c}(h:Zq b g n u t x B w)(e:DA b g n u d c)(a:O (λk=>k=b) w c):Zq b g n u t d B c:=
 ⟨e,h.X.j a<|h.X.ne h.pa<|by decide,h.xT.j a<|by have:=h.bl;omega,h.j.trans a,h.bl⟩
theorem Zq.xD{b g n u t x B w c}(h:Zq b g n u t x B w)(a:O Cb w c):Zq b g n u t x B c:=
 ⟨W.j h.pa a id,h.X.j a id,h.xT.j a id,h.j.xV a,h.bl⟩
def KU(b g n u:M)(w:I')(r:VS×PS)(e:Ending)(a:I'):Prop:=
 ∃c,e=N' (Md r.1 c)/\J' a w 145 2 c r.1.k (Ej r.1.k)/\DA b g n u r.2 a/\O (λk=>k=b) w a
structure aV(b g n u:M)(t:Dw)(x:PS)(B:I')(E:I'->Prop)(w:I'):Prop where
 f:Zq b g n u t x B w
 e:E w
 s:∀v v',O (λk=>k=b) v v'->E v->E v'
theorem oI{b g n u t x w}(a:DA b g n u x w)(c:DM g n u t w):D<|aV b g n u t x w (λ_=>True)<|w.alloc<|R' vG 270:=⟨Zq.xC a c,trivial,λ_ _ _ _=>trivial⟩
section
variable{b g n u:M}{t:Dw}{x:PS}{B:I'}{E:I'->Prop}{w:I'}(F:D<|aV b g n u t x B E w)
include F
theorem uP{c a}(d:DA b g n u c a)(o:O (λk=>k=b) w a):D<|aV b g n u t c B E a:=⟨F.o.f.call d o,F.o.s _ _ o F.o.e,F.o.s⟩
theorem fq{a}(o:O Cb w a):D<|aV b g n u t x B E a:=⟨F.o.f.xD o,F.o.s _ _ (o.mono λ_ _ q=>q.elim) F.o.e,F.o.s⟩
theorem uS(a):D<|aV b g n u t x B (W w a 145)<|w.alloc<|R' a 145:=
 ⟨F.o.f.xD oq,W.new _ _ _,λ_ _ o h=>h.j o<|by have:=F.o.f.bl;have:=F.o.f.j.size;omega⟩
theorem frs:(w B=G A 0/\w (B,1)=Y' {data:=#[]}/\w (B,2)=G A 0/\w (B,3)=Y' {data:=#[]}/\w (B,4)=G A 0/\w (B,5)=G A 0/\w (B,6)=Y Z 0 0/\w (B,7)=Y Z 0 0)/\(∀i,w.frozen? ⟨B,i,Z⟩=zr)/\(B:M)<w:=⟨F.o.f.xT.k8,F.o.f.xT.wV,Cz F.o.f.xT⟩
theorem wK{a c m l}(R:J' w B 145 2 c m l)(o:O (λk=>k=(B:M)) w a):J' a B 145 2 c m l/\DA b g n u x a/\O (λk=>k=b) B a:=
 ⟨Cx R o<|CL R F.f.xT<|by decide,W.j F.f.pa o<|by have:=F.f.bl;omega,F.f.j.thn o λj d q=>by omega⟩
theorem fK{o m l}(R:J' w B 145 2 o m l){a c d e f h i j}:J' (s8 w B a c d e f h i j) B 145 2 o m l/\DA b g n u x (s8 w B a c d e f h i j)/\O (λk=>k=b) B (s8 w B a c d e f h i j):=wK F R vW
variable(H:x.q<n)
include H
theorem iF{k:M}(a:(CJ t x.q).e=k):F' zy 135 #[Z' b] w λe c=>e=k/\D (aV b g n u t x B E c):=(Gx b g n u x t w F.o.f.pa F.o.f.X H).mono λ_ _ h=>⟨a▸h.1,fq F h.2⟩
theorem iM(k:M):F' zy 136 #[Z' b,k] w λe a=>e=(fM<|Di t k x)/\D (aV b g n u t (CC t n k x) B E a):=(Ek b g n u k x t w F.o.f.pa F.o.f.X H).mono λ_ _ h=>⟨h.1,uP F h.2.1 h.2.2⟩
theorem qT:F' zy 164 #[Z' b] w λe a=>e=(Qa<|Di t 1 x)/\D (aV b g n u t (CC t n 1 x) B E a):=(Q7 b g n u x t w F.o.f.pa F.o.f.X H).mono λ_ _ h=>⟨h.1,uP F h.2.1 h.2.2⟩
theorem fns(k:(CJ t<|n-1).e=0):F' zy 165 #[Z' b] w λe f=>∃a l c,e=Y a l c/\J' f B 145 2 (Y a l c) (D3 t n x).1 (Ej (D3 t n x).1)/\D (aV b g n u t (D3 t n x).2 B E f):=(Tj b g n u x t w F.o.f.pa F.o.f.X H k).mono λ_ _ ⟨v,h,d,i,j⟩=>by obtain⟨a,l,c,rfl⟩:=CA d;exact⟨a,l,c,h,CN d F.o.f.j.size,uP F i j⟩
end
def OY(t:Dw)(n:M)(x:PS):VS×PS:=
 let a:=CC t n 17<|CC t n 10 x
 let b:=CC t n 11<|CC t n 1 a
 (⟨8,Fg,Di t 1 a,0,(D3 t n b).1⟩,(D3 t n b).2)
theorem PG(b g n u c t w)(x:DA b g n u c w)(y:DM g n u t w)(p:c.q<n)(a:(CJ t<|n-1).e=0):
 F' zy 212 #[Z' b] w λe V=>KU b g n u w (OY t n c) e V:=by
 have F:=oI x y;have N:=J a;have q:=DO (k:=10) a p;have r:=DO (k:=17) a q;have s:=DO (k:=1) a r;have P:=DO (k:=11) a s;clear a x y;go_in;go_wp2_with fail;apply(iM F p _).mono;rintro e w1 ⟨rfl,F⟩;go_wp2_with fail;apply(iM F q _).mono;rintro e w2 ⟨rfl,F⟩;go_wp2_with fail;apply(qT F r).mono;rintro e w3 ⟨rfl,F⟩;unfold Qa;have I:=uS F;go_wp2_with fail;apply(iM (I _) s _).mono;rintro e w4 ⟨rfl,F⟩;have z:=F.o.e.z;have X:=Cz F.o.e;have⟨⟨d,f,h,i,j,l,m,o⟩,C,E⟩:=frs F;go_wp2_with fail;go_region_with(go_at_call 165;apply(fns (fq F oq) P N.o).mono;rintro e w5 ⟨R,U,S,rfl,K,F⟩;clear z d f h i j l m o C E;have z:=F.o.e.z;have⟨⟨d,f,h,i,j,l,m,o⟩,C,E⟩:=frs F);all_goals
  go_wp2;refine Ak (v:=N'<|Md (OY t n c).1<|Y R U S) (by simp[zz,results212,go_sem,Md,OY,Fg,d,f,h,i,j,l,m,o];try rfl) Q ⟨_,Q,fK F K⟩
def M7(t:PT):M:=if t.a.toList=[49]then 1 else if t.a.toList=[50]then 2 else if t.a.toList=[51]then 3 else 0
def EZ(d:M)(h:I'):Prop:=∀(b g n a:M) (x:PS) (c:Dw) (w:I'),d<=b->zx d h w->DA b g n a x w->DM g n a c w->x.q<n->
 F' zy 213 #[Z' b] w λe f=>e=(M7<|Di c 2 x)/\DA b g n a (CC c n 2 x) f/\O (λk=>k=b) w f
theorem O.keeps(h:zx B P y0)(c:O (λk=>k=C) y0 v1)(a:B<=y0)(d:B<=C):zx B P v1:=h.trans<|c.xL a λk e=>by omega
def Ld(a:Dw)(n:M)(x:PS):VS×PS:=
 let b:=CC a n 16 x
 let c:=CC a n 1 b
 if (CJ a c.q).e=19 then
  let d:=CC a n 19 c
  (⟨3,Fg,Di a 1 b,M7<|Di a 2 d,[]⟩,CC a n 2 d)
 else(⟨2,Fg,Di a 1 b,0,[]⟩,c)
theorem wO(hF:EZ B P){a x}(F:D<|aV C R X v0 a x y0 p8 v1)(i:x.q<X)(c:B<=C)(f:zx B P y0)(d:B<=y0):F' zy 213 #[Z' C] v1 λe j=>e=(M7<|Di a 2 x)/\D (aV C R X v0 a (CC a X 2 x) y0 p8 j):=
 (hF C R X v0 x a v1 c (O.keeps f F.o.f.j d c) F.o.f.pa F.o.f.X i).mono λ_ _ h=>⟨h.1,uP F h.2.1 h.2.2⟩
theorem Vd(p K)(hF:EZ p K)(b g n s c a w)(S:p<=b)(z:zx p K w)(R:p<=w)(H:DA b g n s c w)(I:DM g n s a w)(B:c.q<n)(r:(CJ a<|n-1).e=0):
 F' zy 211 #[Z' b] w λe V=>KU b g n s w (Ld a n c) e V:=by
 have F:=oI H I;have P:=J z;have N:=J hF;have C:=DO (k:=16) r B;have q:=DO (k:=1) r C;have U:=DO (k:=19) r q;clear r H I z hF;by_cases E:(CJ a (CC a n 1<|CC a n 16 c).q).e=19;all_goals
  simp only[Ld,E,reduceIte];go_in;go_wp2_with fail;apply(iM F B _).mono;rintro e w1 ⟨rfl,F⟩;go_wp2_with fail;apply(qT F C).mono;rintro e w2 ⟨rfl,F⟩;unfold Qa;have y:=uS F;go_wp2_with fail
 .apply(iF (y _) q E).mono;rintro e X ⟨rfl,F⟩;go_wp2_with fail;apply(iM F q _).mono;rintro e w3 ⟨rfl,F⟩;have t:=F.o.e.z;have l3:=Cz F.o.e;have⟨⟨d,f,h,i,j,l,m,o⟩,u,x⟩:=frs F;go_wp2_with fail;go_region_with(go_at_call 213;apply(wO N.o (fq F oq) U S P.o R).mono;rintro e w5 ⟨rfl,F⟩;clear t d f h i j l m o u x;have t:=F.o.e.z;have⟨⟨d,f,h,i,j,l,m,o⟩,u,x⟩:=frs F);all_goals
   go_wp2;refine Ak (v:=N'<|Md ⟨3,Fg,Di a 1<|CC a n 16 c,M7<|Di a 2<|CC a n 19<|CC a n 1<|CC a n 16 c,[]⟩<|Y Z 0 0) (by simp[zz,results211,go_sem,Md,Fg,d,f,h,i,j,l,m,o];try rfl) Q ⟨_,Q,fK F<|An _ _ _ _⟩
 .have a0:(((CJ a (CC a n 1<|CC a n 16 c).q).e:zw) !=19)=zt:=by simp;omega
  apply(iF (y _) q Q).mono;rintro e X ⟨rfl,F⟩;have t:=F.o.e.z;have⟨⟨d,f,h,i,j,l,m,o⟩,u,x⟩:=frs F;go_wp2;refine Ak (v:=N'<|Md ⟨2,Fg,Di a 1<|CC a n 16 c,0,[]⟩<|Y Z 0 0) (by simp[zz,results211,go_sem,Md,Fg,d,f,h,i,j,l,m,o];try rfl) Q ⟨_,Q,fK F<|An _ _ _ _⟩
def FI(a:Dw)(n:M)(x:PS):VS×PS:=
 if (CJ a x.q).e=5 then(⟨1,Fg,Fg,0,[]⟩,CC a n 5 x)
 else if (CJ a x.q).e=16 then Ld a n x
 else if (CJ a x.q).e=17 then(⟨5,Fg,Di a 1<|CC a n 17 x,0,[]⟩,CC a n 1<|CC a n 17 x)
 else if (CJ a x.q).e=18 then(⟨4,Fg,Di a 1<|CC a n 18 x,0,[]⟩,CC a n 1<|CC a n 18 x)
 else if (CJ a x.q).e=10 then OY a n x
 else if (CJ a (CC a n 1 x).q).e=10 then(⟨7,Fg,Di a 1 x,0,(D3 a n<|CC a n 1 x).1⟩,(D3 a n<|CC a n 1 x).2)
 else(⟨6,Fg,Di a 1 x,0,[]⟩,CC a n 1 x)
theorem vV{j x y s f}(F:D<|aV B C R X j x P p8 y0)(h:F' zy f q1 y0 λe d=>KU B C R X y0 (s,y) e d):F' zy f q1 y0 λe d=>∃k o m,e=N' (Md s<|Y k o m)/\J' d P 145 2 (Y k o m) s.k (Ej s.k)/\D (aV B C R X j y P p8 d):=h.mono λ_ _ ⟨v,p,i,q,r⟩=>by obtain⟨a,l,c,rfl⟩:=CA i;exact⟨a,l,c,p,CN i F.o.f.j.size,uP F q r⟩
theorem fA(b g n c a d w)(i:DA b g n c a w)(j:DM g n c d w)(f:a.q<n)(h:(CJ d a.q).e=5):
 F' zy 209 #[Z' b] w λe t=>KU b g n c w (FI d n a) e t:=by
 have F:=oI i j;clear i j;simp only[FI,h,reduceIte];go_in;go_wp2_with fail;apply(iF F f h).mono;rintro e y ⟨rfl,F⟩;go_wp2_with fail;apply(iM F f _).mono;rintro e z ⟨rfl,F⟩;have⟨⟨k,l,m,o,p,q,r,s⟩,u,x⟩:=frs F;go_wp2;refine Ak (v:=N'<|Md ⟨1,Fg,Fg,0,[]⟩<|Y Z 0 0) (by simp[zz,results209,go_sem,Md,Fg,k,l,m,o,p,q,r,s];try rfl) Q ⟨_,Q,fK F<|An _ _ _ _⟩
theorem fC(b g n f d c w)(i:DA b g n f d w)(j:DM g n f c w)(h:d.q<n)(l:(CJ c<|n-1).e=0)(a:(CJ c d.q).e=17\/(CJ c d.q).e=18):
 F' zy 209 #[Z' b] w λe y=>KU b g n f w (FI c n d) e y:=by
 have F:=oI i j;have x:=λk=>DO (k:=k) l h
 clear l i j;rcases a with a|a
 all_goals
  simp only[FI,a,reduceIte];go_in;go_wp2_with fail;apply(iF F h a).mono;rintro e C ⟨rfl,F⟩;go_wp2_with fail;apply(iM F h _).mono;rintro e E ⟨rfl,F⟩;go_wp2_with fail;apply(qT F<|x _).mono;rintro e H ⟨rfl,F⟩;have⟨⟨m,o,p,q,r,s,t,u⟩,z,B⟩:=frs F;unfold Qa;go_wp2
 .refine Ak (v:=N'<|Md ⟨5,Fg,_,0,[]⟩<|Y Z 0 0) (by simp[zz,results209,go_sem,Md,Fg,m,o,p,q,r,s,t,u];try rfl) Q ⟨_,Q,fK F<|An _ _ _ _⟩
 .refine Ak (v:=N'<|Md ⟨4,Fg,_,0,[]⟩<|Y Z 0 0) (by simp[zz,results209,go_sem,Md,Fg,m,o,p,q,r,s,t,u];try rfl) Q ⟨_,Q,fK F<|An _ _ _ _⟩
theorem fB(d k)(hF:EZ d k)(b g n f c a w)(o:d<=b)(m:zx d k w)(B:d<=w)(p:DA b g n f c w)(q:DM g n f a w)(j:c.q<n)(t:(CJ a<|n-1).e=0)(h:(CJ a c.q).e=16\/(CJ a c.q).e=10):
 F' zy 209 #[Z' b] w λe X=>KU b g n f w (FI a n c) e X:=by
 have F:=oI p q;obtain⟨x,u,l⟩:=Dq m hF t;clear p q t m hF;obtain⟨⟨s,y⟩,i⟩:∃r,FI a n c=r:=⟨_,Q⟩;rcases h with h|h
 all_goals
  rw[i];simp[FI,h]at i;go_in;go_wp2_with fail;refine(iF F j h).mono ?_;rintro e w0 ⟨rfl,F⟩;have a0:=F.o.f.j.size;go_wp2_with fail;first
   |refine(vV F<|i▸Vd d k u.o b g n f c a _ o (O.keeps x.o F.o.f.j B o) (by omega) F.o.f.pa F.o.f.X j l.o).mono ?_
   |refine(vV F<|i▸PG b g n f c a _ F.o.f.pa F.o.f.X j l.o).mono ?_
  rintro e w1 ⟨S,V,U,rfl,z,F⟩;have⟨⟨C,E,H,I,K,N,P,R⟩,qf,ql⟩:=frs F;unfold Md;go_wp2;refine Ak (v:=N'<|Md s<|Y S V U) (by simp[zz,results209,go_sem,Md,C,E,H,I,K,N,P,R]) Q ⟨_,Q,fK F z⟩
theorem Zg(b g n q c a w)(P:DA b g n q c w)(R:DM g n q a w)(r:c.q<n)(t:(CJ a<|n-1).e=0)
 (B:(CJ a c.q).e≠5)(x:(CJ a c.q).e≠16)(y:(CJ a c.q).e≠17)(z:(CJ a c.q).e≠18)(u:(CJ a c.q).e≠10):
 F' zy 209 #[Z' b] w λe w'=>KU b g n q w (FI a n c) e w':=by
 have F:=oI P R;have U:=J t;have s:=DO (k:=1) t r;have⟨d,N⟩:=Dv<|(CJ a c.q).e;simp only[FI,B,x,y,z,u,reduceIte];rw[N]at B x y z u;have j5:=Ka d 5 (by omega);have a2:=Ka d 16 (by omega);have a3:=Ka d 17 (by omega);have a4:=Ka d 18 (by omega);have a1:=Ka d 10 (by omega);clear P R t B x y z u;by_cases K:(CJ a (CC a n 1 c).q).e=10;all_goals
  simp only[K,reduceIte];go_in;go_wp2_with fail;apply(iF F r N).mono;rintro e w0 ⟨rfl,F⟩;go_wp2_with fail;apply(qT F r).mono;rintro e w1 ⟨rfl,F⟩;unfold Qa;have I:=uS F;go_wp2_with fail
 .apply(iF (I _) s K).mono;rintro e wk ⟨rfl,F⟩;have C:=F.o.e.z;have l1:=Cz F.o.e;have⟨⟨f,h,i,j,l,m,o,p⟩,E,H⟩:=frs F;go_wp2_with fail;go_region_with(go_at_call 165;apply(fns (fq F oq) s U.o).mono;rintro e w5 ⟨V,vl,X,rfl,S,F⟩;clear C f h i j l m o p E H;have C:=F.o.e.z;have⟨⟨f,h,i,j,l,m,o,p⟩,E,H⟩:=frs F);all_goals
   go_wp2;refine Ak (v:=N'<|Md ⟨7,Fg,_,0,_⟩<|Y V vl X) (by simp[zz,results209,go_sem,Md,Fg,f,h,i,j,l,m,o,p];try rfl) Q ⟨_,Q,fK F S⟩
 .have a0:(((CJ a (CC a n 1 c).q).e:zw)==10)=zr:=by simp;omega
  apply(iF (I _) s Q).mono;rintro e wk ⟨rfl,F⟩;have C:=F.o.e.z;have⟨⟨f,h,i,j,l,m,o,p⟩,E,H⟩:=frs F;go_wp2;refine Ak (v:=N'<|Md ⟨6,Fg,_,0,[]⟩<|Y Z 0 0) (by simp[zz,results209,go_sem,Md,Fg,f,h,i,j,l,m,o,p];try rfl) Q ⟨_,Q,fK F<|An _ _ _ _⟩
theorem eY(a h)(hF:EZ a h)(b g n c f d w)(l:a<=b)(k:zx a h w)(j:a<=w)(o:DA b g n c f w)(p:DM g n c d w)(m:f.q<n)(q:(CJ d<|n-1).e=0):
 F' zy 209 #[Z' b] w λe i=>KU b g n c w (FI d n f) e i:=by
 grind[fA,fB,fC,Zg]
def DT(a:Dw)(n:M)(x:PS):VS×PS:=
 if (CJ a x.q).e=4 then(⟨0,Di a 1<|CC a n 4 x,Fg,0,[]⟩,CC a n 1<|CC a n 4 x)
 else if (CJ a x.q).e=6 then(⟨10,Fg,Di a 1<|CC a n 6 x,0,[]⟩,CC a n 1<|CC a n 6 x)
 else if (CJ a x.q).e=17 then
  let b:=CC a n 17 x
  let d:=CC a n 15<|CC a n 1 b
  (⟨9,Di a 1 b,Di a 1 d,0,[]⟩,CC a n 1 d)
 else
  let c:=CC a n 15<|CC a n 1 x
  ({(FI a n c).1 with tg:=Di a 1 x},(FI a n c).2)
theorem dH(b g n f d c w)(i:DA b g n f d w)(j:DM g n f c w)(h:d.q<n)(l:(CJ c<|n-1).e=0)(a:(CJ c d.q).e=4\/(CJ c d.q).e=6):
 F' zy 203 #[Z' b] w λe y=>KU b g n f w (DT c n d) e y:=by
 have F:=oI i j;have x:=λk=>DO (k:=k) l h
 clear l i j;rcases a with a|a
 all_goals
  simp only[DT,a,reduceIte];go_in;go_wp2_with fail;apply(iF F h a).mono;rintro e C ⟨rfl,F⟩;go_wp2_with fail;apply(iM F h _).mono;rintro e E ⟨rfl,F⟩;go_wp2_with fail;apply(qT F<|x _).mono;rintro e H ⟨rfl,F⟩;have⟨⟨m,o,p,q,r,s,t,u⟩,z,B⟩:=frs F;unfold Qa;go_wp2
 .refine Ak (v:=N'<|Md ⟨0,_,Fg,0,[]⟩<|Y Z 0 0) (by simp[zz,results203,go_sem,Md,Fg,m,o,p,q,r,s,t,u];try rfl) Q ⟨_,Q,fK F<|An _ _ _ _⟩
 .refine Ak (v:=N'<|Md ⟨10,Fg,_,0,[]⟩<|Y Z 0 0) (by simp[zz,results203,go_sem,Md,Fg,m,o,p,q,r,s,t,u];try rfl) Q ⟨_,Q,fK F<|An _ _ _ _⟩
theorem Yz(b g n f d c w)(x:DA b g n f d w)(y:DM g n f c w)(h:d.q<n)(a:(CJ c<|n-1).e=0)(u:(CJ c d.q).e=17):
 F' zy 203 #[Z' b] w λe I=>KU b g n f w (DT c n d) e I:=by
 have F:=oI x y;have s:=DO (k:=17) a h;have t:=DO (k:=1) a s;have H:=DO (k:=15) a t;clear a x y;simp only[DT,u,reduceIte];go_in;go_wp2_with fail;apply(iF F h u).mono;rintro e N ⟨rfl,F⟩;go_wp2_with fail;apply(iM F h _).mono;rintro e P ⟨rfl,F⟩;go_wp2_with fail;apply(qT F s).mono;rintro e R ⟨rfl,F⟩;unfold Qa;have E:=uS F;go_wp2_with fail;apply(iM (E _) t _).mono;rintro e S ⟨rfl,F⟩;have z:=F.o.e.z;have K:=Cz F.o.e;have⟨⟨i,j,l,m,o,p,q,r⟩,B,C⟩:=frs F;go_wp2_with fail;go_region_with(go_at_call 164;apply(qT (fq F oq) H).mono;rintro e U ⟨rfl,F⟩;unfold Qa;clear z i j l m o p q r B C;have z:=F.o.e.z;have⟨⟨i,j,l,m,o,p,q,r⟩,B,C⟩:=frs F);all_goals
  go_wp2;refine Ak (v:=N'<|Md ⟨9,_,_,0,[]⟩<|Y Z 0 0) (by simp[zz,results203,go_sem,Md,i,j,l,m,o,p,q,r]) Q ⟨_,Q,fK F<|An _ _ _ _⟩
theorem dI(d q)(hF:EZ d q)(b g n f c a w)(u:d<=b)(t:zx d q w)(R:d<=w)(B:DA b g n f c w)(C:DM g n f a w)(i:c.q<n)(h:(CJ a<|n-1).e=0)
 (m:(CJ a c.q).e≠4)(o:(CJ a c.q).e≠6)(l:(CJ a c.q).e≠17):
 F' zy 203 #[Z' b] w λe w'=>KU b g n f w (DT a n c) e w':=by
 obtain⟨⟨s,y⟩,j⟩:∃r,FI a n (CC a n 15<|CC a n 1 c)=r:=⟨_,Q⟩;have⟨p,z⟩:=Dv<|(CJ a c.q).e;simp only[DT,m,o,l,reduceIte,j];rw[z]at m o l;have F:=oI B C;obtain⟨I,H,P⟩:=Dq t hF h;have x:=DO (k:=1) h i;have S:=DO (k:=15) h x;have j4:=Ka p 4 (by omega);have j6:=Ka p 6 (by omega);have a1:=Ka p 17 (by omega);have K:=J j;clear j B C h m o l t hF;go_in;go_wp2_with fail;apply(iF F i z).mono;rintro e w0 ⟨rfl,F⟩;go_wp2_with fail;apply(qT F i).mono;rintro e w1 ⟨rfl,F⟩;unfold Qa;have E:=uS F;go_wp2_with fail;apply(iM (E _) x _).mono;rintro e w2 ⟨rfl,F⟩;have a0:=F.o.f.j;have l2:=Cz F.o.e;have a2:=Cz F.o.f.pa;go_wp2_with fail;apply(vV F<|K.o▸eY d q H.o b g n f _ a _ u (O.keeps I.o F.o.f.j R u) (by omega) F.o.f.pa F.o.f.X S P.o).mono;rintro e w3 ⟨va,vl,vc,rfl,N,F⟩;have n0:=F.o.e.z;have l3:=Cz F.o.e;have⟨⟨U,V,X,q3,q4,q5,q6,q7⟩,qf,ql⟩:=frs F;unfold Md;go_wp2;refine Ak (v:=N'<|Md {s with tg:=Di a 1 c}<|Y va vl vc) (by simp[zz,results203,go_sem,Md,U,V,X,q3,q4,q5,q6,q7,ql]) Q ⟨_,Q,wK F N<|vW.alloc _⟩
theorem dE(a h)(hF:EZ a h)(b g n c f d w)(l:a<=b)(k:zx a h w)(j:a<=w)(o:DA b g n c f w)(p:DM g n c d w)(m:f.q<n)(q:(CJ d<|n-1).e=0):
 F' zy 203 #[Z' b] w λe i=>KU b g n c w (DT d n f) e i:=by
 grind[dH,Yz,dI]
inductive TS where
 |mk (s:VS) (bl:List<|M×List TS)
abbrev Dj:=List TS
def IM(k:M):VS:=⟨k,Fg,Fg,0,[]⟩
def FY(k:M):Prop:=k=4\/k=1\/k=17\/k=6\/k=7\/k=9
instance (k:M):Decidable<|FY k:=by unfold FY;infer_instance
mutual
def Dr(a:Dw)(n:M):M->PS->Dj->Dj×PS
 |0,x,acc=>(acc,x)
 |f+1,x,acc=>if FY (CJ a x.q).e then Dr a n f (Ee a n f x).2 (acc++[(Ee a n f x).1])else(acc,x)
def Ee(a:Dw)(n:M):M->PS->TS×PS
 |0,x=>(.mk (IM 0) [],x)
 |f+1,x=>
  if (CJ a x.q).e=7 then
   let x2:=CC a n 20<|CC a n 7 x
   let r:=Dr a n f (CC a n 12 x2) []
   let x3:=CC a n 13 r.2
   if (CJ a x3.q).e=8 then
    let x4:=CC a n 8 x3
    let r2:=Dr a n f (CC a n 12 x4) []
    (.mk (IM 11) [((Di a 12 x2).t9,r.1),((Di a 12 x4).t9,r2.1)],CC a n 13 r2.2)
   else(.mk (IM 11) [((Di a 12 x2).t9,r.1)],x3)
  else if (CJ a x.q).e=9 then
   let x2:=CC a n 20<|CC a n 9 x
   let r:=Dr a n f (CC a n 12 x2) []
   (.mk (IM 12) [((Di a 12 x2).t9,r.1)],CC a n 13 r.2)
  else(.mk (DT a n x).1 [],CC a n 14 (DT a n x).2)
end
section
variable{a:Dw}{n:M}
def MU(n:M)(x y:PS):Prop:=x.q<=y.q/\y.q<n
theorem MU.trans{x y z:PS}(h:MU n x y)(k:MU n y z):MU n x z:=⟨As h.1 k.1,k.2⟩
theorem CG(c:(CJ a<|n-1).e=0)(k){x:PS}(b:x.q<n):MU n x<|CC a n k x:=by refine⟨?_,DO c b⟩;unfold CC;split;grind;show x.q<=n-1;omega
theorem EH{k:M}{x:PS}(c:(CJ a x.q).e=k)(b:k≠0):(CC a n k x).q=x.q+1:=by grind[CC]
theorem Tm(c:(CJ a<|n-1).e=0):∀(f:M) (x:PS) (b:Dw),x.q<n->MU n x (GM a f x b).2
 |0,x,b,h=>⟨Ad _,h⟩
 |f+1,x,b,h=>by
  simp only[GM];split
  .rename_i d;have e:x.q≠n-1:=by grind
   have:=Tm c f ⟨x.q+1,x.H,x.xN⟩ (b++[CJ a x.q]) (by grind);exact⟨by have:=this.1;grind,this.2⟩
  .exact⟨Ad _,h⟩
theorem Iy(b:(CJ a<|n-1).e=0){x:PS}(e:x.q<n):MU n x (D3 a n x).2:=
 have c:=CG b 10 e
 have d:=Tm b a _ [] c.2
 (c.trans d).trans (CG b 11 d.2)
theorem XQ(b:(CJ a<|n-1).e=0){x:PS}(g:x.q<n):MU n x (OY a n x).2:=
 have c:=CG b 10 g
 have d:=c.trans<|CG b 17 c.2
 have e:=d.trans<|CG b 1 d.2
 have f:=e.trans<|CG b 11 e.2
 f.trans (Iy b f.2)
theorem XH(b:(CJ a<|n-1).e=0){x:PS}(f:x.q<n):MU n x (Ld a n x).2:=by have d:=CG b 16 f;have c:=d.trans<|CG b 1 d.2;unfold Ld;simp only;split;have e:=c.trans<|CG b 19 c.2;exact e.trans<|CG b 2 e.2;exact c
theorem TH(c:(CJ a<|n-1).e=0){x:PS}(d:x.q<n):MU n x (FI a n x).2:=by unfold FI;split;grind[CG];split;grind[XH];split;have b:=CG c 17 d;exact b.trans<|CG c 1 b.2;split;have b:=CG c 18 d;exact b.trans<|CG c 1 b.2;split;grind[XQ];have b:=CG c 1 d;split;exact b.trans<|Iy c b.2;exact b
theorem Wv(c:(CJ a<|n-1).e=0){x:PS}(g:x.q<n)(j:(CJ a x.q).e=4\/(CJ a x.q).e=1\/(CJ a x.q).e=17\/(CJ a x.q).e=6):x.q+1<=(DT a n x).2.q/\(DT a n x).2.q<n:=by
 unfold DT;split;rename_i h;have d:=CG c 4 g;have e:=EH (n:=n) h (by omega);have b:=CG c 1 d.2;exact⟨by have:=b.1;grind,b.2⟩;split;rename_i h;have d:=CG c 6 g;have e:=EH (n:=n) h (by omega);have b:=CG c 1 d.2;exact⟨by have:=b.1;grind,b.2⟩;split;rename_i h;have d:=CG c 17 g;have e:=EH (n:=n) h (by omega);have b:=CG c 1 d.2;have f:=b.trans<|CG c 15 b.2;have i:=f.trans<|CG c 1 f.2;exact⟨by have:=i.1;grind,i.2⟩;have h:(CJ a x.q).e=1:=by omega
 have d:=CG c 1 g;have e:=EH (n:=n) h (by omega);have b:=CG c 15 d.2;have f:=b.trans<|TH c b.2;exact⟨by have:=f.1;grind,f.2⟩
theorem Pn(c:(CJ a<|n-1).e=0){x:PS}(e:x.q<n):MU n x (DT a n x).2:=by unfold DT;split;have b:=CG c 4 e;exact b.trans<|CG c 1 b.2;split;have b:=CG c 6 e;exact b.trans<|CG c 1 b.2;split;have b:=CG c 17 e;have d:=b.trans<|CG c 1 b.2;have f:=d.trans<|CG c 15 d.2;exact f.trans<|CG c 1 f.2;have b:=CG c 1 e;have d:=b.trans<|CG c 15 b.2;exact d.trans<|TH c d.2
mutual
theorem Er(hz:(CJ a<|n-1).e=0):∀(f:M) (x:PS) (acc:Dj),x.q<n->MU n x (Dr a n f x acc).2
 |0,x,acc,h=>⟨Ad _,h⟩
 |f+1,x,acc,h=>by
  unfold Dr;split
  .have h1:=KJ hz f x h;exact h1.trans<|Er hz f _ _ h1.2
  .exact⟨Ad _,h⟩
theorem KJ(hz:(CJ a<|n-1).e=0):∀(f:M) (x:PS),x.q<n->MU n x (Ee a n f x).2
 |0,x,h=>⟨Ad _,h⟩
 |f+1,x,h=>by
  unfold Ee;split
  .have h1:=CG hz 7 h;have h2:=h1.trans<|CG hz 20 h1.2;have h3:=h2.trans<|CG hz 12 h2.2;have h4:=h3.trans<|Er hz f _ [] h3.2;have h5:=h4.trans<|CG hz 13 h4.2;simp only;split
   .have h6:=h5.trans<|CG hz 8 h5.2;have h7:=h6.trans<|CG hz 12 h6.2;have h8:=h7.trans<|Er hz f _ [] h7.2;exact h8.trans<|CG hz 13 h8.2
   .exact h5
  .split
   .have h1:=CG hz 9 h;have h2:=h1.trans<|CG hz 20 h1.2;have h3:=h2.trans<|CG hz 12 h2.2;have h4:=h3.trans<|Er hz f _ [] h3.2;exact h4.trans<|CG hz 13 h4.2
   .have h1:=Pn hz h;exact h1.trans<|CG hz 14 h1.2
end
theorem MP(b:(CJ a<|n-1).e=0)(f){x:PS}(h:x.q<n)(q:FY (CJ a x.q).e):x.q+1<=(Ee a n (f+1) x).2.q:=by unfold Ee;split;rename_i k;have d:=CG b 7 h;have e:=EH (n:=n) k (by omega);have c:=CG b 20 d.2;have g:=c.trans<|CG b 12 c.2;have i:=g.trans<|Er b f _ [] g.2;have j:=i.trans<|CG b 13 i.2;simp only;split;have l:=j.trans<|CG b 8 j.2;have m:=l.trans<|CG b 12 l.2;have o:=m.trans<|Er b f _ [] m.2;have p:=o.trans<|CG b 13 o.2;have:=p.1;grind;have:=j.1;grind;split;rename_i k;have d:=CG b 9 h;have e:=EH (n:=n) k (by omega);have c:=CG b 20 d.2;have g:=c.trans<|CG b 12 c.2;have i:=g.trans<|Er b f _ [] g.2;have j:=i.trans<|CG b 13 i.2;have:=j.1;grind;have d:=Wv b h (by grind[FY]);have c:=CG b 14 d.2;have:=c.1;grind
end
def Jc(s:VS)(a b:H'):Cg:=#[s.e,s.tg.a,s.tg.t9,s.sr.a,s.sr.t9,s.wU,a,b]
def EG:M->(Ce)->I'->TS->Ci->Prop
 |0,_,_,_,_=>zv
 |d+1,U,w,.mk s a,c=>∃(f l:H') (b:List<|Ci),c=(Jc s f l).toList/\J' w 0 145 2 f s.k (Ej s.k)/\(∀k,L' f=T k->U k)/\
   J' w 0 149 2 l a b.flatten/\L b=a/\(∀k,L' l=T k->U k)/\
   ∀i (h:i<L a) (o:i<L b),∃(m:H') (e:List<|Ci),b[i]=[G A (a[i].1:M),m]/\J' w 0 270 8 m (L a[i].2) e.flatten/\L e=L a[i].2/\(∀k,L' m=T k->U k)/\
    ∀j (g:j<L a[i].2) (n:j<L e),EG d U w a[i].2[j] e[j]
def Gq(d:M)(U:Ce)(w:I')(sv:H')(sts:Dj):Prop:=∃a:List<|Ci,J' w 0 270 8 sv sts a.flatten/\L a=sts/\(∀k,L' sv=T k->U k)/\∀j (g:j<L sts) (b:j<L a),EG d U w sts[j] a[j]
theorem EG.j:∀{d:M} {U:Ce} {w w':I'} {t:TS} {c:Ci} {X:Ce},EG d U w t c->O X w w'->(∀k,U k->¬X k)->EG d U w' t c
 |0,_,_,_,_,_,_,h,_,_=>h.elim
 |d+1,U,w,w',.mk s K,c,X,h,b,e=>by obtain⟨m,o,n,z,B,g,C,E,l,F⟩:=h;refine⟨m,o,n,z,Cx B b λk a=>e k<|g k a,g,Cx C b λk a=>e k<|l k a,E,l,λi H I=>?_⟩;obtain⟨sv,p,q,r,u,f,v⟩:=F i H I;exact⟨sv,p,q,Cx r b λk a=>e k<|f k a,u,f,λj x y=>(v j x y).j b e⟩
theorem EG.more:∀{d:M} {U U':Ce} {w:I'} {t:TS} {c:Ci},EG d U w t c->(∀k,U k->U' k)->EG d U' w t c
 |0,_,_,_,_,_,h,_=>h.elim
 |d+1,U,U',w,.mk s K,c,h,b=>by obtain⟨e,g,f,v,x,y,z,B,C,E⟩:=h;refine⟨e,g,f,v,x,λk a=>b k<|y k a,z,B,λk a=>b k<|C k a,λi F H=>?_⟩;obtain⟨I,l,m,n,o,p,q⟩:=E i F H;exact⟨I,l,m,n,o,λk a=>b k<|p k a,λj r u=>(q j r u).more b⟩
theorem EG.up:∀{d:M} {U:Ce} {w:I'} {t:TS} {c:Ci},EG d U w t c->EG (d+1) U w t c
 |0,_,_,_,_,h=>h.elim
 |d+1,U,w,.mk s F,c,h=>by obtain⟨a,e,b,q,r,u,v,x,y,z⟩:=h;refine⟨a,e,b,q,r,u,v,x,y,λi B C=>?_⟩;obtain⟨E,f,g,k,l,m,n⟩:=z i B C;exact⟨E,f,g,k,l,m,λj o p=>(n j o p).up⟩
theorem EG.yK{w t}(h:EG B z1 w t y1)(a:B<=C):EG C z1 w t y1:=by
 induction a with
 |refl=>exact h
 |step _ b=>exact b.up
theorem EG.length{w t}(h:EG B z1 w t y1):L y1=8:=by
 match B,t,h with
 |B+1,.mk s f,h=> have⟨b,g,e,a,_⟩:=h;rw[a];rfl
theorem Gq.j{d}{U:Ce}{w w' sv sts}{X:Ce}(h:Gq d U w sv sts)(b:O X w w')(c:∀k,U k->¬X k):Gq d U w' sv sts:=
 have⟨e,i,l,a,m⟩:=h
 ⟨e,Cx i b λk n=>c k<|a k n,l,a,λj g f=>(m j g f).j b c⟩
theorem Gq.more{d}{U U':Ce}{w c b}(h:Gq d U w c b)(a:∀k,U k->U' k):Gq d U' w c b:=
 have⟨e,i,l,m,n⟩:=h
 ⟨e,i,l,λk o=>a k<|m k o,λj g f=>(n j g f).more a⟩
theorem Gq.yK{d}{U:Ce}{w b a}(h:Gq d U w b a)(n:d<=B):Gq B U w b a:=
 have⟨c,i,k,l,m⟩:=h
 ⟨c,i,k,l,λj g f=>(m j g f).yK n⟩
theorem EG.flat{w s}(h:J' w 0 145 2 V s.k<|Ej s.k)(b:∀k,L' V=T k->z1 k):EG 1 z1 w (.mk s []) (Md s V).toList:=
 ⟨V,Y Z 0 0,[],Q,h,b,An _ _ _ _,Q,λk c=>by grind[L'],λi a=>by simp at a⟩
theorem EG.blocks{w a svs}(c:L svs=L a)(h:J' w 0 149 2 V (L a)<|((a.zip svs).map λp=>[G A (p.1.1:M),p.2]).flatten)(f:∀C,L' V=T C->z1 C)
 (e:∀i (h:i<L a) (o:i<L svs),Gq B z1 w svs[i] a[i].2):EG (B+1) z1 w (.mk (IM C) a) (Jc (IM C) (Y Z 0 0) V).toList:=by
 refine⟨Y Z 0 0,V,(a.zip svs).map λp=>[G A (p.1.1:M),p.2],Q,An _ _ _ _,λC r=>by grind[L'],h,by simp[c],f,λi b q=>?_⟩;have⟨g,j,l,m,n⟩:=e i b (by omega);grind
def lA(b g n h:M)(w:I')(r:TS×PS)(e:Ending)(a:I'):Prop:=
 ∃(d:M) (U:Ce) (s:VS) (c f:H'),e=N' (Jc s c f)/\EG d U a r.1 (Jc s c f).toList/\(∀k,U k->(w:M)<=k/\k<(a:M))/\DA b g n h r.2 a/\O (λk=>k=b) w a
def uF(b g n f:M)(w:I')(p:M)(r:Dj×PS)(e:Ending)(a:I'):Prop:=
 ∃(d:M) (U:Ce) (c:H'),e=N' #[p,c]/\Gq d U a c r.1/\(∀k,U k->(w:M)<=k/\k<(a:M))/\DA b g n f r.2 a/\O (λk=>k=b) w a
def LI(c:M)(i:I')(f:M):Prop:=∀(b g n d:M) (x:PS) (a:Dw) (w:I'),c<=b->zx c i w->c<=w->DA b g n d x w->DM g n d a w->x.q<n->(CJ a<|n-1).e=0->FY (CJ a x.q).e->2*(n-x.q)<=f->
 F' zy 186 #[Z' b] w λe h=>lA b g n d w (Ee a n f x) e h
theorem EG.zD{w t s}(h:EG B z1 w t (Jc s V z0).toList):(∃a l c,V=Y a l c)/\∃a l c,z0=Y a l c:=by
 match B,t,h with
 |B+1,.mk m f,h=> have⟨b,g,e,i,j,_,k,_⟩:=h;grind[Jc,CA]
structure BR(lb d:M)(U:Ce)(w:I')(sv:H')(acc:Dj)(css:List<|Ci):Prop where
 row:w.ownsRow (lb+1) 270 8 sv acc css.flatten
 len:css.length=acc
 yM:∀j (g:j<acc.length) (g':j<css.length),EG d U w acc[j] css[j]
 u:∀k,U k->lb<k/\k<(w:M)
 apart:∀k,sv.ownBlock=T k->¬U k
theorem BR.nil(a w):BR a 0 (λ_=>zv) w (Y Z 0 0) [] []:=
 ⟨An _ _ _ _,Q,λj g=>by simp at g,λk h=>h.elim,λk h=>by grind⟩
theorem BR.j{d}{U:Ce}{w w' sv c}{X:Ce}(h:BR B d U w sv c v9)(b:O X w w')(e:∀k,B<k->k<w.heap.size->¬X k):BR B d U w' sv c v9:=
 ⟨Cx h.row b λk a=>e k (h.row.lt k a).1 (h.row.lt k a).2,h.len,λj g f=>(h.yM j g f).j b λk a=>e k (h.u k a).1 (h.u k a).2,λk a=>⟨(h.u k a).1,Av (h.u k a).2 b.size⟩,h.apart⟩
theorem BR.push{g:Ce}{u b t}(h:BR B C z1 P V b v9)(v:EG R g P t y1)(o:∀k,g k->B<k/\k<P.heap.size/\¬L' V=T k)(p:O Cb P y0)
 (n:J' v1 (B+1) 270 8 z0 (L b+1)<|v9.flatten++y1)(r:y0.grownBy v1<|L' V)(s:∀k,L' z0=T k->L' V=T k\/P.heap.size<=k):
 BR B (max C R) (λk=>z1 k\/g k) (v1.setCell ⟨B,1,Z⟩ u) z0 (b++[t]) (v9++[y1]):=by
 have i:O (λk=>L' V=T k) P v1:=O.xA (p.mono λ_ _ q=>q.elim) r λk a=>zo a;have f:=(CT (λk=>k=B) v1).wS 1 u;have m:=h.len;refine⟨?_,by simp[m],?_,?_,?_⟩;have:=Cx n f (λk a=>by have:=(n.lt k a).1;omega);grind;intro j x y;by_cases l:j<b;rw[AD l,AD<|by omega];exact((((h.yM j l<|by omega).j i λk a q=>h.apart k q a).j f λk a=>by have:=(h.u k a).1;omega).more λk a=>zo a).yK (Nat.le_max_left _ _);have e:j=b:=by grind
 subst e;rw[AB<|by omega,AB<|by omega];simp only[Nat.sub_self,m,AA];exact(((v.j i λk a=>(o k a).2.2).j f λk a=>by grind).more λk a=>zn a).yK (Nat.le_max_right _ _);intro k a;have z:=i.size;have E:=f.size;rcases a with a|a
 exact⟨(h.u k a).1,by have:=(h.u k a).2;omega⟩;grind;intro k a q;rcases s k a with e|e
 rcases q with q|q
 exact h.apart k e q;grind;rcases q with q|q
 have:=(h.u k q).2;omega;grind
theorem Ql(b g n c x a w)(m:DA b g n c x w)(o:DM g n c a w)(j:x.q<n):
 F' zy 185 #[Z' b] w λe p=>e=(zu<|FY (CJ a x.q).e)/\O Cb w p:=by
 have⟨k,d⟩:=Dv<|(CJ a x.q).e;rw[d];have⟨v,f⟩:=Dv<|zu<|FY k;rw[f];have h:=J d;have i:=J f;clear d f;go_in;go_wp2_with(go_at_call 135;apply(Gx b g n c x a _ m o j).mono;rw[h.o];rintro e q ⟨rfl,l⟩);all_goals
  go_ret;refine⟨Iq ?_,l⟩;rw[<-i.o];symm;simp only[BQ,AZ,ne_eq]at*;first
   |(rw[decide_eq_true_iff];unfold FY;omega)
   |(rw[decide_eq_false_iff_not];unfold FY;omega)
theorem Tryz.placeOf(a s p w):(Instr.field 256 (N' #[G A a,Y' s,G A p]) 2).run zy w=.ok (G A p) w:=by kernel_rfl
theorem Tryz.infoTS:(Tryz.prog.info? 270).map (λi=>(i.zero,i.size,i.bytes))=T (T<|N' vG,8,112):=by kernel_rfl
theorem qJ(s a d l f c e):∀u∈(Jc s (Y a l c)<|Y d f e).toList,u.oneCell'=zt:=by intro u b;simp[Jc]at b;rcases b with rfl|rfl|rfl|rfl|rfl|rfl|rfl|rfl<;>rfl
theorem Kf(B0 d2 f)(ih:∀k,k<=f->LI B0 d2 k)(b g n o r c w)(hb:B0<=b)(hG:zx B0 d2 w)(hB:B0<=w)(hr:DA b g n o r w)(ht:DM g n o c w)(c5:r.q<n)(hz:(CJ c<|n-1).e=0)(hf:2*(n-(CC c n 12 r).q)+1<=f):
 F' zy 166 #[Z' b] w λe w'=>uF b g n o w (Di c 12 r).t9 ((Dr c n f (CC c n 12 r) []).1,CC c n 13 (Dr c n f (CC c n 12 r) []).2) e w':=by
 have⟨i0,hi,e5,e6,e7⟩:=Bx Tryz.infoTS;have lr:=Cz hr;have lg:=ht.lt;have hn:=ht.2.2.1;have c7:=ht.ne hr (by decide);have c6:=DO (k:=12) hz c5;have⟨x1,S⟩:=Dv<|CC c n 12 r;rw[S]at hf c6|-;have⟨t,k1⟩:=Dv<|Di c 12 r;rw[k1];have⟨V,hV⟩:=Dv<|Dr c n f x1 [];rw[hV];obtain⟨X1,K1,HV,HZ⟩:=F8 S k1 hV hz;clear S k1 hV hz;go_in;go_wp2_with fail;apply(Ek b g n o 12 r c _ (W.alloc hr _) (ht.j ((CT Cb _).alloc _) id) c5).mono;rw[X1.o,K1.o];rintro e l ⟨rfl,c9,a6⟩;have e8:=a6.size;simp at e8;have c0:=(ht.j ((CT Cb _).alloc<|R' #[G A 0,Y Z 0 0] 149) id).j a6 c7;have b8:W w #[G A 0,Y Z 0 0] 149 l:=(W.new w _ _).j a6 (by omega);have b9:=((CT (λk=>k=b) w).alloc _).trans a6;have f4:(w:M)+1<=(l:M):=by omega
 clear a6 hr ht;unfold fM;have e3:=Tryz.placeOf;go_wp2_with fail;clear e3;go_loopw[] (λwr=>∃(x:PS) (y d:M) (U:Ce) (sv:H') (R:Dj) (b4:List<|Ci),x.q<n/\R<=x.q/\y<=f/\2*(n-x.q)+1<=y/\DA b g n o x wr/\DM g n o c wr/\W w #[G A 0,Y Z 0 0] 149 wr/\W l #[t.t9,sv] 149 wr/\BR l d U wr sv R b4/\D (O (λk=>k=b) w wr)/\D (Dr c n y x R=V)) (λwr=>n-Rh b wr);exact⟨x1,f,0,λ_=>zv,Y Z 0 0,[],[],c6,by simp,Ad _,hf,W.alloc c9 _,c0.j ((CT Cb _).alloc _) id,W.alloc b8 _,W.new _ _ _,BR.nil _ _,b9.alloc _,HV⟩;clear c9 c0 b8 b9 HV;have⟨x,y,d,U,sv,R,b4,hx,e9,f0,f1,hR,hT,a9,hC,a8,hO,HC⟩:=hrel;have d5:=J<|I4 hR;by_cases a0:FY (CJ c x.q).e
 .obtain⟨p,rfl⟩:∃p,y=p+1:=⟨y-1,by omega⟩;have⟨t3,x3,h3⟩:=JG<|Ee c n p x;have c2:Dr c n p x3 (R++[t3])=V:=by have:=HC.o;rw[Dr,Bb a0,h3]at this;exact this
  have e4:x.q+1<=x3.q/\x3.q<n:=by have g1:=KJ (n:=n) HZ.o p x hx;rw[h3]at g1;obtain⟨f3,rfl⟩:∃f3,p=f3+1:=⟨p-1,by omega⟩;have g2:=MP HZ.o f3 hx a0;rw[h3]at g2;exact⟨g2,g1.2⟩
  have X3:=J h3;have d3:=J c2;have a5:zu (FY (CJ c x.q).e)=zt:=by simp[a0]
  have b3:=J a5;clear HC h3 c2 a5;go_wp2_with fail;apply(Ql b g n o x c _ hR hT hx).mono;rw[b3.o];rintro e wk ⟨rfl,m⟩;have R1:=W.j hR m id;have T1:=hT.j m id;have A1:=a9.j m id;have P:=hC.j m id;have N:=a8.j m λ_ _ _ q=>q;have O1:=hO.xV m;clear hR hT a9 hC a8 hO m;obtain⟨B,H,E,rfl⟩:=CA N.row;have c1:=P.z;have cf:=P.wV 1;have lc:=Cz P;have f7:=Cz R1;have f6:=O1;have NC:=λk (i:L' (Y B H E)=T k)=>(N.row.lt k i).1
  go_wp2_with fail;go_region_law(first
   |(refine C7 Q _ _ 147 Q ((l:M)+1) 270 i0 (N' vG) 8 112 underlying147 hi e5 e6 e7 Q (by decide) _ _ _ Q (B4.row.alloc _) w4 1 1 (Jc s4 (Y aa al ac)<|Y ba bl bc).toList Q Q (C3 Q _ _) (qJ _ _ _ _ _ _ _) (by decide) (by unfold E';omega) (by omega) (by simp;omega) ?_;intro v' K b6 a1 c8;have q1:K (l,1)=Y B H E:=(Ae<|a1.block l (by simp;omega) λh=>by have:=NC _ h.symm;omega).trans (by rw[<-d6];exact Ae<|Ao _ _ _ d1);have q2:K.frozen? (l,1)=zr:=(Aj<|a1.block l (by simp;omega) λh=>by have:=NC _ h.symm;omega).trans (by rw[<-d7];exact Aj<|Ao _ _ _ d1);obtain⟨C,I,F,rfl⟩:=CA b6)
   |(go_simp;go_at_call 186;refine(ih p (by omega) b g n o x c _ hb (O.keeps hG (O1.xV oq) hB hb) (by simp;omega) (W.j (X:=Cb) R1 oq id) (T1.j (X:=Cb) oq id) hx HZ.o a0<|by omega).mono ?_;rw[X3.o];rintro e w4 ⟨d4,U4,s4,av,bv,rfl,b7,c4,a7,z⟩;obtain⟨⟨aa,al,ac,rfl⟩,⟨ba,bl,bc,rfl⟩⟩:=b7.zD;have a2:=O.trans (X:=λk=>k=b) (a:=wk) oq z;have B4:=N.j a2 (λk h _=>by omega);have s:=P.j a2 (by omega);have d6:=s.j1;have d7:=s.wV 1;have d1:=Cz s;have f5:=a2;have R4:=a7;clear a7 z;unfold Jc;dsimp only))
  all_goals
   have a3:O (λk=>L' (Y B H E)=T k) w4 K:=O.xA oq a1 λk i=>zo i;have b2:=(CT (λk=>k=(l:M)) K).wS 1<|Y C I F;have b5:∀j,j<(l:M)->¬L' (Y B H E)=T j:=λj hj q=>by have:=NC j q;omega
   have hP:=BR.push (u:=Y C I F) B4 b7 (λk i=>by have S:=c4 k i;simp only[World.size_drew]at S;exact⟨by omega,S.2,λq=>by have:=(N.row.lt k q).2;omega⟩) oq b6 a1 (λk i=>(c8 k i).imp id λq=>by simp at q;omega);have c3:DA b g n o x3<|K.setCell (l,1)<|Y C I F:=(R4.j a3<|b5 b<|by omega).j b2 (by omega);have e2:DM g n o c<|K.setCell (l,1)<|Y C I F:=((T1.j a2 c7).j a3<|b5 g<|by omega).j b2 (by omega);have d8:=((A1.j a2<|by omega).j a3<|b5 w<|by omega).j b2 (by omega);have d9:W l #[t.t9,Y C I F] 149<|K.setCell (l,1)<|Y C I F:=by have:=(s.j a3 λq=>by have:=NC _ q;omega).set 1<|Y C I F;simpa using this
   have e1:O (λk=>k=b) w<|K.setCell (l,1)<|Y C I F:=(O.xA ((O1.trans a2).alloc _) a1 λk i=>zn<|by have:=NC k i;omega).xB 1 _ (by omega);have e0:=I4 c3;clear b6 a1 c8 q1 q2 b7 c4 B4 s R4 a3 b2;go_wp2_with fail;go_roundw;exact⟨x3,p,_,_,_,R++[t3],_,e4.2,by simp;omega,by omega,by omega,c3,e2,d8,d9,hP,e1,d3⟩;rw[e0,d5.o];omega
 .have hv:V=(R,x):=by
   rw[<-HC.o];cases y with
   |zero=>rfl
   |succ y=>rw[Dr,Ba a0]
  subst hv
  have a5:zu (FY (CJ c x.q).e)=zr:=by simp[a0]
  have b3:=J a5
  clear HC a0 a5
  go_wp2_with fail
  apply(Ql b g n o x c _ hR hT hx).mono
  rw[b3.o]
  rintro e wk ⟨rfl,m⟩
  have R1:=W.j hR m id
  have T1:=hT.j m id
  have A1:=a9.j m id
  have P:=hC.j m id
  have N:=a8.j m λ_ _ _ q=>q
  have O1:=hO.xV m
  clear hR hT a9 hC a8 hO m
  go_wp2_with fail
  apply(Ek b g n o 13 x c _ R1 T1 hx).mono
  rintro e w4 ⟨rfl,a7,z⟩
  have A4:=A1.j z<|by omega
  have s:=P.j z<|by omega
  have B4:=N.j z λk h _=>by omega
  have O4:=O1.trans z
  have R4:=a7
  clear R1 T1 A1 P N O1 a7 z
  obtain⟨B,H,E,rfl⟩:=CA B4.row
  have⟨b0,b1⟩:=A4.k2
  have bf:=A4.wV
  have d0:=s.z
  have lB:=Cz A4
  have lC:=Cz s
  go_wp2
  apply Ak (v:=N' #[t.t9,Y B H E]) (by simp[zz,results166,go_sem,b0,b1]) Q
  have hs:=((CT (λk=>k=(w:M)) w4).wS 0 t.t9).wS 1<|Y B H E
  have a4:=B4.j hs λk S _=>by omega
  refine⟨d,λk=>U k\/L' (Y B H E)=T k,_,Q,⟨b4,CN a4.row<|Ar _,a4.len,λk i=>zn i,λj g1 g2=>(a4.yM j g1 g2).more λk i=>zo i⟩,?_,R4.j hs<|by omega,(O4.xB 0 _<|Ad _).xB 1 _<|Ad _⟩
  intro k i
  rcases i with i|i
  have:=a4.u k i;exact⟨by omega,this.2⟩
  have:=a4.row.lt k i;exact⟨by omega,this.2⟩
theorem jS(b:B=P)(a c):J' (P.alloc<|R' #[a,c] 149) 0 149 2 (Y B 1 1) 1 [a,c]:=by subst b;exact⟨Q,zn ⟨P,1,#[a,c],Q,Ar _,BB P _,Ad _,by unfold E';omega,Q,Q⟩⟩
theorem YI(r N f)(ih:∀k,k<=f->LI r N k)(b g n q l a w)(hb:r<=b)(hG:zx r N w)(hB:r<=w)(j:DA b g n q l w)(ht:DM g n q a w)(a0:l.q<n)(u:(CJ a<|n-1).e=0)(c:(CJ a l.q).e=9)(hf:2*(n-l.q)<=f+1):
 F' zy 202 #[Z' b] w λe w'=>lA b g n q w (Ee a n (f+1) l) e w':=by
 have⟨P,s⟩:=Dv<|CC a n 9 l;have⟨C,B⟩:=Dv<|CC a n 20 P;have⟨p,K⟩:=Dv<|(Di a 12 C).t9;have⟨l3,y3,E⟩:=JG<|Dr a n f (CC a n 12 C) [];have⟨x3,F⟩:=Dv<|CC a n 13 y3;have hv:Ee a n (f+1) l=(.mk (IM 12) [(p,l3)],x3):=by rw[Ee,Ba<|by omega,Bb c];simp only[s,B,K,E,F]
 rw[hv];have S:=EH (n:=n) c (by omega);rw[s]at S;have a1:P.q<n:=by rw[<-s];exact DO u a0
 have z:=CG u 20 a1;rw[B]at z;have a2:=z.2;have V:=CG u 12 a2;have a6:2*(n-(CC a n 12 C).q)+1<=f:=by have:=z.1;have:=V.1;omega
 obtain⟨x,HG,IH,HZ,X1,X2,XP,X3⟩:=Pe (Zq.xC j ht) hG ih u s B K E;have X4:=J F;clear s B K E F hv j ht u c hG ih z V S;go_in;go_wp2_with fail;apply(Ek b g n q 9 l a _ x.o.pa x.o.X a0).mono;rw[X1.o];rintro e w1 ⟨rfl,j,t⟩;have y:=J<|x.o.call j t;clear j t x;go_wp2_with fail;apply(Ek b g n q 20 P a _ y.o.pa y.o.X a1).mono;rw[X2.o];rintro e w2 ⟨rfl,j,t⟩;have m:=J<|y.o.call j t;clear j t y;have b1:=m.o.j.size;have a7:=J<|Cz m.o.xT;go_wp2_with fail;apply(Kf r N f IH.o b g n q C a _ hb (O.keeps HG.o m.o.j hB hb) (by omega) m.o.pa m.o.X a2 HZ.o a6).mono;rw[XP.o,X3.o];simp only;rw[X4.o];rintro e w3 ⟨d,U,sv,rfl,H,hU,a3,I⟩;have a5:=H;have⟨a9,a4,_⟩:=a5;obtain⟨va,vl,vc,rfl⟩:=CA a4;obtain⟨o,HT,R⟩:=Dq (m.o.call a3 I) H hU;have b2:=I;clear H hU a3 I a4 m;have⟨q0,q1,q2,q3,q4,q5,q6,q7⟩:=o.o.xT.k8;have qf:=o.o.xT.wV;have ql:=Cz o.o.xT;go_wp2;refine Ak (v:=N'<|Jc (IM 12) (Y Z 0 0)<|Y w3 1 1) (by simp[zz,results202,go_sem,Jc,IM,Fg,q0,q1,q2,q3,q4,q5,q6,q7,ql];try rfl) Q ?_;have a8:b≠w:=by have:=o.o.bl;omega
 have b0:(w:M)<w2:=by have:=a7.o;omega
 refine⟨d+1,λk=>U k\/k=(w3:M),IM 12,_,_,Q,?_,?_,?_,?_⟩;refine EG.blocks (svs:=[Y va vl vc]) Q (jS (by simp) _ _) (λk c=>zn<|by simp[L']at c;omega) ?_;intro i h h';have e:i=0:=by simp at h;omega
 subst e;refine Gq.more ?_ (λk c=>zo c);refine HT.o.j (X:=λk=>k=(w:M)) ?_ (λk c=>by have:=(R.o k c).1;omega);refine O.alloc ?_ _;iterate 8 refine O.wS ?_ _ _
 exact oq;intro k c;simp only[World.size_alloc,World.size_setCell];rcases c with c|c
 have:=R.o k c;omega;omega;refine W.j (X:=λk=>k=(w:M)) o.o.pa ?_ a8;refine O.alloc ?_ _;iterate 8 refine O.wS ?_ _ _
 exact oq;refine O.alloc ?_ _;iterate 8 refine O.xB ?_ _ _ (Ad _)
 exact o.o.j
theorem Tq{w:I'}(a c):J' (w.alloc<|R' #[a,c] 149) w 149 2 (Y w 1 1) 1 [a,c]:=
 ⟨Q,zn ⟨w,1,#[a,c],Q,Ad _,BB w _,Ad _,by unfold E';omega,Q,Q⟩⟩
theorem Tryz.infoTB:(Tryz.prog.info? 149).map (λi=>(i.zero,i.size,i.bytes))=T (T<|N' #[G A 0,Y Z 0 0],2,32):=by kernel_rfl
theorem XV(F a6 f)(ih:∀k,k<=f->LI F a6 k)(b g n m s c w)(hb:F<=b)(hG:zx F a6 w)(hB:F<=w)(l:DA b g n m s w)(ht:DM g n m c w)(b3:s.q<n)(t:(CJ c<|n-1).e=0)(a:(CJ c s.q).e=7)(hf:2*(n-s.q)<=f+1):
 F' zy 201 #[Z' b] w λe w'=>lA b g n m w (Ee c n (f+1) s) e w':=by
 have⟨x1,H⟩:=Dv<|CC c n 7 s;have⟨x2,h2⟩:=Dv<|CC c n 20 x1;have⟨p,hp⟩:=Dv<|(Di c 12 x2).t9;have⟨l3,y3,h3⟩:=JG<|Dr c n f (CC c n 12 x2) [];have⟨B,h4⟩:=Dv<|CC c n 13 y3;have e1:=EH (n:=n) a (by omega);rw[H]at e1;have b4:x1.q<n:=by rw[<-H];exact DO t b3
 have V:=CG t 20 b4;rw[h2]at V;have b5:=V.2;have g3:=CG t 12 b5;have c4:2*(n-(CC c n 12 x2).q)+1<=f:=by have:=V.1;have:=g3.1;omega
 have g4:=Er t f (CC c n 12 x2) [] g3.2;rw[h3]at g4;have g5:=CG t 13 g4.2;rw[h4]at g5;have a9:=g5.2;have e8:s.q+1<=B.q:=by have:=V.1;have:=g3.1;have:=g4.1;have:=g5.1;omega
 have lg:=ht.lt;obtain⟨C,HG,IH,HZ,X1,X2,XP,X3⟩:=Pe (Zq.xC l ht) hG ih t H h2 hp h3;have X4:=J h4;by_cases h8:(CJ c B.q).e=8
 .have⟨x4,k4⟩:=Dv<|CC c n 8 B;have⟨p2,b7⟩:=Dv<|(Di c 12 x4).t9;have⟨l5,y5,h5⟩:=JG<|Dr c n f (CC c n 12 x4) [];have⟨x6,h6⟩:=Dv<|CC c n 13 y5;have hv:Ee c n (f+1) s=(.mk (IM 11) [(p,l3),(p2,l5)],x6):=by rw[Ee,Bb a];simp only[H,h2,hp,h3,h4,Bb h8,k4,b7,h5,h6]
  rw[hv];have g6:=CG t 8 a9;rw[k4]at g6;have c3:=g6.2;have g7:=CG t 12 c3;have d6:2*(n-(CC c n 12 x4).q)+1<=f:=by have:=g6.1;have:=g7.1;omega
  have d4:(((CJ c B.q).e:zw)==8)=zt:=by simp[h8]
  obtain⟨K4,d2,X5,X6⟩:=F8 k4 b7 h5 h6;have⟨i0,hi,e0,e2,e4⟩:=Bx Tryz.infoTB;clear H h2 hp h3 h4 hv l ht t a hG ih V g3 e1 g4 g5 h8 k4 b7 h5 h6 g6 g7;go_in;go_wp2_with fail;apply(Ek b g n m 7 s c _ C.o.pa C.o.X b3).mono;rw[X1.o];rintro e w1 ⟨rfl,l,q⟩;have y:=J<|C.o.call l q;clear l q C;go_wp2_with fail;apply(Ek b g n m 20 x1 c _ y.o.pa y.o.X b4).mono;rw[X2.o];rintro e w2 ⟨rfl,l,q⟩;have j:=J<|y.o.call l q;clear l q y;have e3:=j.o.j.size;have d8:=Cz j.o.xT;go_wp2_with fail;apply(Kf F a6 f IH.o b g n m x2 c _ hb (O.keeps HG.o j.o.j hB hb) (by omega) j.o.pa j.o.X b5 HZ.o c4).mono;rw[XP.o,X3.o];simp only;rw[X4.o];rintro e x ⟨d,U,sv,rfl,K,hU,a4,N⟩;have a1:=K;have⟨d3,a5,_⟩:=a1;obtain⟨P,S,R,rfl⟩:=CA a5;have I:=(CT Cb x).alloc<|R' #[p,Y P S R] 149;obtain⟨z,HT,E,HR⟩:=F8 ((j.o.call a4 N).xD I) (K.j I Ed) hU<|Tq (w:=x) p<|Y P S R;have e5:=N.size;clear K hU a4 N a5 j I;go_wp2_with fail;apply(Gx b g n m B c _ z.o.pa z.o.X a9).mono;rintro e wk ⟨rfl,r⟩;obtain⟨o,a8,a7⟩:=Dq (z.o.xD r) (HT.o.j r Ed)<|Cx HR.o r Ed;have b8:=r.size;simp at b8;clear r z HT HR;go_wp2_with fail;apply(Ek b g n m 8 B c _ o.o.pa o.o.X a9).mono;rw[K4.o];rintro e w4 ⟨rfl,c6,a2⟩;have F4:=J<|o.o.call c6 a2;have e7:=o.o.bl;have c1:=J (a8.o.j a2 λk a=>by have:=(E.o k a).1;omega);have c0:=J (Cx a7.o a2 λk a=>by simp[L']at a;omega);have f0:=a2.size;clear c6 a2 o a8 a7;go_wp2_with fail;apply(Kf F a6 f IH.o b g n m x4 c _ hb (O.keeps HG.o F4.o.j hB hb) (by omega) F4.o.pa F4.o.X c3 HZ.o d6).mono;rw[d2.o,X5.o];simp only;rw[X6.o];rintro e w5 ⟨d5,U5,f3,rfl,b2,c2,c7,a3⟩;have a1:=b2;have⟨e6,c8,_⟩:=a1;obtain⟨wa,wl,b9,rfl⟩:=CA c8;obtain⟨F5,d0,b1,d1,c9⟩:=Ix (F4.o.call c7 a3) b2 c2 (c1.o.j a3 λk a=>by have:=(E.o k a).1;omega) (Cx c0.o a3 λk a=>by simp[L']at a;omega);have f1:=a3.size;clear b2 c2 c7 a3 c8 F4 c1 c0;have d9:=c9.o;go_wp2_with(at_builtin;refine AO _ Q _ _ 268 Q x 149 i0 (N' #[G A 0,Y Z 0 0]) 2 32 underlying268 hi e0 e2 e4 Q (by decide) _ _ _ Q (d9.alloc _) w5 1 1 [G A p2,Y wa wl b9] Q Q (C3 Q _ _) (λu hu=>by simp at hu;rcases hu with rfl|rfl<;>rfl) (by unfold E';omega) (by omega) (by simp;omega) ?_;intro v' w6 b0 d7 e9;obtain⟨ya,yl,yc,rfl⟩:=CA b0;have c5:(w5.alloc<|R' #[p2,Y wa wl b9] 149).grownBy w6 x:=d7;have a0:O (λk=>k=(x:M)) w5 w6:=O.xA oq c5 λk a=>zo (Bo a).symm;have F6:=J<|Zq.mk (W.j F5.o.pa a0<|by omega) (F5.o.X.j a0<|by omega) (F5.o.xT.j a0<|by omega) (O.xA (F5.o.j.alloc _) c5 λk a=>zn<|by have:=Bo a;omega) F5.o.bl;have⟨q0,q1,q2,q3,q4,q5,q6,q7⟩:=F6.o.xT.k8;have qf:=F6.o.xT.wV;have ql:=Cz F6.o.xT);refine Ak (v:=N'<|Jc (IM 11) (Y Z 0 0)<|Y ya yl yc) (by simp[zz,results201,go_sem,Jc,IM,Fg,q0,q1,q2,q3,q4,q5,q6,q7];try rfl) Q ?_;have b6:b≠w:=by omega
  have f2:=a0.size;have T1:=d1.o.j a0 (λk a=>by have:=(E.o k a).2;omega);have T2:=d0.o.j a0 (λk a=>by have:=(b1.o k a).1;omega);refine⟨max d d5+1,λk=>U k\/U5 k\/L' (Y ya yl yc)=T k,IM 11,_,_,Q,?_,?_,?_,?_⟩;refine EG.j (X:=λk=>k=(w:M)) (w:=w6) ?_ ?_ ?_;apply EG.blocks (svs:=[Y P S R,Y wa wl b9]) Q (CN b0<|Ar _) λk a=>zn<|zn a;intro i h h';have e:i=0\/i=1:=by simp at h;omega
  rcases e with rfl|rfl
  exact(T1.more λk a=>zo a).yK (Nat.le_max_left _ _);exact(T2.more λk a=>zn<|zo a).yK (Nat.le_max_right _ _);iterate 8 refine O.wS ?_ _ _
  exact oq;intro k a;rcases a with a|a|a
  have:=(E.o k a).1;omega;have:=(b1.o k a).1;omega;have:=(b0.lt k a).1;omega;intro k a;simp only[World.size_setCell];rcases a with a|a|a
  have:=E.o k a;omega;have:=b1.o k a;omega;have:=b0.lt k a;omega;refine W.j (X:=λk=>k=(w:M)) F6.o.pa ?_ b6;iterate 8 refine O.wS ?_ _ _
  exact oq;iterate 8 refine O.xB ?_ _ _ (Ad _)
  exact F6.o.j
 .have hv:Ee c n (f+1) s=(.mk (IM 11) [(p,l3)],B):=by rw[Ee,Bb a];simp only[H,h2,hp,h3,h4,Ba h8]
  rw[hv]
  have d4:=Ka ((CJ c B.q).e:zw) 8<|by omega
  clear H h2 hp h3 h4 hv l ht t a hG ih V g3 e1 g4 g5 h8
  go_in
  go_wp2_with fail
  apply(Ek b g n m 7 s c _ C.o.pa C.o.X b3).mono
  rw[X1.o]
  rintro e w1 ⟨rfl,l,q⟩
  have y:=J<|C.o.call l q
  clear l q C
  go_wp2_with fail
  apply(Ek b g n m 20 x1 c _ y.o.pa y.o.X b4).mono
  rw[X2.o]
  rintro e w2 ⟨rfl,l,q⟩
  have j:=J<|y.o.call l q
  clear l q y
  have e3:=j.o.j.size
  have d8:=Cz j.o.xT
  go_wp2_with fail
  apply(Kf F a6 f IH.o b g n m x2 c _ hb (O.keeps HG.o j.o.j hB hb) (by omega) j.o.pa j.o.X b5 HZ.o c4).mono
  rw[XP.o,X3.o]
  simp only
  rw[X4.o]
  rintro e x ⟨d,U,sv,rfl,K,hU,a4,N⟩
  have a1:=K
  have⟨d3,a5,_⟩:=a1
  obtain⟨P,S,R,rfl⟩:=CA a5
  have I:=(CT Cb x).alloc<|R' #[p,Y P S R] 149
  obtain⟨z,HT,E,HR⟩:=F8 ((j.o.call a4 N).xD I) (K.j I Ed) hU<|Tq (w:=x) p<|Y P S R
  have e5:=N.size
  clear K hU a4 N a5 j I
  go_wp2_with fail
  apply(Gx b g n m B c _ z.o.pa z.o.X a9).mono
  rintro e wk ⟨rfl,r⟩
  obtain⟨o,a8,a7⟩:=Dq (z.o.xD r) (HT.o.j r Ed)<|Cx HR.o r Ed
  have b8:=r.size
  simp at b8
  clear r z HT HR
  have⟨q0,q1,q2,q3,q4,q5,q6,q7⟩:=o.o.xT.k8
  have qf:=o.o.xT.wV
  have ql:=Cz o.o.xT
  go_wp2
  refine Ak (v:=N'<|Jc (IM 11) (Y Z 0 0)<|Y x 1 1) (by simp[zz,results201,go_sem,Jc,IM,Fg,q0,q1,q2,q3,q4,q5,q6,q7];try rfl) Q ?_
  have b6:b≠w:=by have:=o.o.bl;omega
  refine⟨d+1,λk=>U k\/k=(x:M),IM 11,_,_,Q,?_,?_,?_,?_⟩
  refine EG.j (X:=λk=>k=(w:M)) (w:=wk) ?_ ?_ (λk a=>by rcases a with a|a;have:=(E.o k a).1;omega;omega)
  refine EG.blocks (svs:=[Y P S R]) Q (CN a7.o<|Ar _) (λk a=>zn<|by simp[L']at a;omega) ?_
  intro i h h'
  have e:i=0:=by simp at h;omega
  subst e
  exact a8.o.more λk a=>zo a
  iterate 8 refine O.wS ?_ _ _
  exact oq
  intro k a
  simp only[World.size_setCell]
  rcases a with a|a
  have:=E.o k a;omega
  omega
  refine W.j (X:=λk=>k=(w:M)) o.o.pa ?_ b6
  iterate 8 refine O.wS ?_ _ _
  exact oq
  iterate 8 refine O.xB ?_ _ _ (Ad _)
  exact o.o.j
theorem RD(E K)(hF:EZ E K)(f)(ih:∀k,k<=f->LI E K k):LI E K<|f+1:=by
 intro b g n y j i w I hG hB l ht B hz a2 hf;obtain⟨a,HG,IH,HZ,HF⟩:=Ix (Zq.xC l ht) hG ih hz hF;by_cases z:(CJ i j.q).e=7
 .have N:=J z;clear l ht hz hG ih hF a2;have⟨r,l⟩:=Dv<|Ee i n (f+1) j;rw[l];have a1:=J l;have a9:=J z;clear l z;go_in;go_wp2_with fail;apply(Gx b g n y j i _ a.o.pa a.o.X B).mono;rw[N.o];rintro e w0 ⟨rfl,x⟩;have p:=J<|a.o.xD x;clear x a;have a:=p;clear p;have a7:=a.o.j;have a5:=Cz a.o.xT;go_wp2_with fail;apply(XV E K f IH.o b g n y j i _ I (O.keeps HG.o a.o.j hB I) (by omega) a.o.pa a.o.X B HZ.o a9.o hf).mono;rw[a1.o];rintro e w1 ⟨d,U,s,av,bv,rfl,C,R,o,m⟩;obtain⟨⟨q,u,t,rfl⟩,⟨ba,bl,bc,rfl⟩⟩:=C.zD;obtain⟨c,a0,P⟩:=Dq (a.o.call o m) C R;have a8:=m;clear C R o m a;have⟨q0,q1,q2,q3,q4,q5,q6,q7⟩:=c.o.xT.k8;have qf:=c.o.xT.wV;have ql:=Cz c.o.xT;unfold Jc;go_wp2;apply Ak (v:=N'<|Jc s (Y q u t)<|Y ba bl bc) (by simp[zz,results186,go_sem,Jc,q0,q1,q2,q3,q4,q5,q6,q7]) Q;have S:b≠w:=by have:=c.o.bl;omega
  refine⟨d,U,s,_,_,Q,?_,?_,?_,?_⟩;refine a0.o.j (X:=λk=>k=(w:M)) ?_ (λk h=>by have:=(P.o k h).1;omega);iterate 8 refine O.wS ?_ _ _
  exact oq;intro k h;simp only[World.size_setCell];have:=P.o k h;omega;refine W.j (X:=λk=>k=(w:M)) c.o.pa ?_ S;iterate 8 refine O.wS ?_ _ _
  exact oq;iterate 8 refine O.xB ?_ _ _ (Ad _)
  exact c.o.j
 .by_cases H:(CJ i j.q).e=9
  .have N:=J H;clear l ht hz hG ih hF a2;have⟨r,l⟩:=Dv<|Ee i n (f+1) j;rw[l];have a1:=J l;have b0:=J H;clear l H z;go_in;go_wp2_with fail;apply(Gx b g n y j i _ a.o.pa a.o.X B).mono;rw[N.o];rintro e w0 ⟨rfl,x⟩;have p:=J<|a.o.xD x;clear x a;have a:=p;clear p;have a7:=a.o.j;have a5:=Cz a.o.xT;go_wp2_with fail;apply(YI E K f IH.o b g n y j i _ I (O.keeps HG.o a.o.j hB I) (by omega) a.o.pa a.o.X B HZ.o b0.o hf).mono;rw[a1.o];rintro e w1 ⟨d,U,s,av,bv,rfl,C,R,o,m⟩;obtain⟨⟨q,u,t,rfl⟩,⟨ba,bl,bc,rfl⟩⟩:=C.zD;obtain⟨c,a0,P⟩:=Dq (a.o.call o m) C R;have a8:=m;clear C R o m a;have⟨q0,q1,q2,q3,q4,q5,q6,q7⟩:=c.o.xT.k8;have qf:=c.o.xT.wV;have ql:=Cz c.o.xT;unfold Jc;go_wp2;apply Ak (v:=N'<|Jc s (Y q u t)<|Y ba bl bc) (by simp[zz,results186,go_sem,Jc,q0,q1,q2,q3,q4,q5,q6,q7]) Q;have S:b≠w:=by have:=c.o.bl;omega
   refine⟨d,U,s,_,_,Q,?_,?_,?_,?_⟩;refine a0.o.j (X:=λk=>k=(w:M)) ?_ (λk h=>by have:=(P.o k h).1;omega);iterate 8 refine O.wS ?_ _ _
   exact oq;intro k h;simp only[World.size_setCell];have:=P.o k h;omega;refine W.j (X:=λk=>k=(w:M)) c.o.pa ?_ S;iterate 8 refine O.wS ?_ _ _
   exact oq;iterate 8 refine O.xB ?_ _ _ (Ad _)
   exact c.o.j
  .have⟨s1,x1,h1⟩:=JG<|DT i n j;have⟨x2,h2⟩:=Dv<|CC i n 14 x1;have hv:Ee i n (f+1) j=(.mk s1 [],x2):=by rw[Ee,Ba z,Ba H,h1];simp only[h2]
   rw[hv];have g1:=Pn hz B;rw[h1]at g1;have b1:=g1.2;have⟨kk,a3⟩:=Dv<|(CJ i j.q).e;rw[a3]at z H;have N:=J a3;have j7:=Ka kk 7 (by omega);have j9:=Ka kk 9 (by omega);have X1:=J h1;have X2:=J h2;clear l ht hz hG ih hF a2 h1 h2 hv a3 z H g1;go_in;go_wp2_with fail;apply(Gx b g n y j i _ a.o.pa a.o.X B).mono;rw[N.o];rintro e w0 ⟨rfl,x⟩;have p:=J<|a.o.xD x;clear x a;have a:=p;clear p;have a7:=a.o.j;have a5:=Cz a.o.xT;go_wp2_with fail;apply(dE E K HF.o b g n y j i _ I (O.keeps HG.o a.o.j hB I) (by omega) a.o.pa a.o.X B HZ.o).mono;rw[X1.o];rintro e w1 ⟨av,rfl,a4,o,m⟩;obtain⟨q,u,t,rfl⟩:=CA a4;have hA:=(CT Cb w1).alloc<|R' (Md s1<|Y q u t) 270;obtain⟨c,L1,O1⟩:=Dq ((a.o.call o m).xD hA) (W.new w1 (Md s1<|Y q u t) 270)<|Cx a4 hA Ed;have a8:=m;have b3:b<w1:=Cz o;clear a4 o m a hA;unfold Md at c L1 O1|-;go_wp2_with fail;apply(Ek b g n y 14 x1 i _ c.o.pa c.o.X b1).mono;rw[X2.o];rintro e w2 ⟨rfl,a6,V⟩;obtain⟨F,L2,O2⟩:=Dq (c.o.call a6 V) (L1.o.j V<|by omega) (Cx O1.o V λk h=>by have:=(O1.o.lt k h).1;have:=c.o.bl;omega);have b2:=V.size;simp at b2;clear a6 V c L1 O1;have m0:=L2.o.z;have⟨q0,q1,q2,q3,q4,q5,q6,q7⟩:=F.o.xT.k8;have qf:=F.o.xT.wV;have ql:=Cz F.o.xT;go_wp2;apply Ak (v:=N'<|Jc s1 (Y q u t)<|Y Z 0 0) (by simp[zz,results186,go_sem,Jc,q0,q1,q2,q3,q4,q5,q6,q7]) Q;have S:b≠w:=by have:=F.o.bl;omega
   refine⟨1,λk=>L' (Y q u t)=T k,s1,_,_,Q,?_,?_,?_,?_⟩;refine EG.j (X:=λk=>k=(w:M)) (w:=w2) (EG.flat (CN O2.o<|Ar _) λk h=>h) ?_ (λk h=>by have:=(O2.o.lt k h).1;omega);iterate 8 refine O.wS ?_ _ _
   exact oq;intro k h;simp only[World.size_setCell];have:=O2.o.lt k h;omega;refine W.j (X:=λk=>k=(w:M)) F.o.pa ?_ S;iterate 8 refine O.wS ?_ _ _
   exact oq;iterate 8 refine O.xB ?_ _ _ (Ad _)
   exact F.o.j
theorem J7(a c)(hF:EZ a c):∀f,∀k,k<=f->LI a c k
 |0,k,d=>by intro b g n i x m w _ _ _ _ _ j _ _ l;omega
 |f+1,k,d=>by
  by_cases h:k<=f
  .exact J7 a c hF f k h
  .have e:k=f+1:=by omega
   subst e;exact RD a c hF f<|J7 a c hF f
structure TF where
 I:PT
 m:Dw
 t9:M
 i:Dj
abbrev Df:=List TF
variable {y2:Df}
def NQ(a:Dw)(n:M)(x:PS):TF×PS:=
 let b:=CC a n 3 x
 let c:=CC a n 1 b
 let y:=D3 a n c
 let r:=Dr a n (2*n+1) (CC a n 12 y.2) []
 (⟨Di a 1 b,y.1,(Di a 12 y.2).t9,r.1⟩,CC a n 13 r.2)
def Sk(t:TF)(a b:H'):Cg:=#[t.I.a,t.I.t9,a,t.t9,b]
def Me(d:M)(U:Ce)(w:I')(t:TF)(c:Ci):Prop:=∃a b,c=(Sk t a b).toList/\J' w 0 145 2 a t.m (Ej t.m)/\(∀k,L' a=T k->U k)/\Gq d U w b t.i
theorem Me.j{d}{U:Ce}{w w' t}{X:Ce}(h:Me d U w t y1)(b:O X w w')(e:∀k,U k->¬X k):Me d U w' t y1:=by have⟨f,sv,g,i,a,j⟩:=h;exact⟨f,sv,g,Cx i b λk l=>e k<|a k l,a,j.j b e⟩
theorem Me.more{U':Ce}{w t}(h:Me B z1 w t y1)(a:∀k,z1 k->U' k):Me B U' w t y1:=by have⟨b,l,e,f,g,i⟩:=h;exact⟨b,l,e,f,λk j=>a k<|g k j,i.more a⟩
theorem Me.yK{w t}(h:Me B z1 w t y1)(j:B<=C):Me C z1 w t y1:=by have⟨a,k,b,f,g,i⟩:=h;exact⟨a,k,b,f,g,i.yK j⟩
def uO(b g n m:M)(w:I')(r:TF×PS)(e:Ending)(f:I'):Prop:=
 ∃(d:M) (U:Ce) (a:Ch) (l c:M) (h:Ch) (j i:M),e=N' (Sk r.1 (Y a l c)<|Y h j i)/\Me d U f r.1 (Sk r.1 (Y a l c)<|Y h j i).toList/\(∀k,U k->(w:M)<=k/\k<(f:M))/\DA b g n m r.2 f/\O (λk=>k=b) w f
theorem Ki{g n}(a:(CJ g<|n-1).e=0){x}(h:x.q<n):MU n x (NQ g n x).2:=by have b:=CG a 3 h;have c:=b.trans<|CG a 1 b.2;have d:=c.trans<|Iy a c.2;have e:=d.trans<|CG a 12 d.2;have f:=e.trans<|Er a (2*n+1) _ [] e.2;exact f.trans<|CG a 13 f.2
theorem QL{b n}(a:(CJ b<|n-1).e=0){x}(j:x.q<n)(k:(CJ b x.q).e=3):x.q+1<=(NQ b n x).2.q:=by have h:=CG a 3 j;have e:=EH (n:=n) k (by omega);have c:=CG a 1 h.2;have d:=c.trans<|Iy a c.2;have f:=d.trans<|CG a 12 d.2;have g:=f.trans<|Er a (2*n+1) _ [] f.2;have i:=g.trans<|CG a 13 g.2;have:=i.1;grind[NQ]
abbrev uQ:Cg:=#[Y' {data:=#[]},G A 0,Y Z 0 0,G A 0,Y Z 0 0]
theorem Nf(i C)(hF:EZ i C)(b g n h m d w)(hb:i<=b)(hG:zx i C w)(hB:i<=w)(B:DA b g n h m w)(q:DM g n h d w)(b1:m.q<n)(r:(CJ d<|n-1).e=0):
 F' zy 134 #[Z' b] w λe w'=>uO b g n h w (NQ d n m) e w':=by
 have lr:=Cz B;have lg:=q.lt;have U:=q.ne B (by decide);have⟨E,j⟩:=Dv<|CC d n 3 m;have⟨x2,o⟩:=Dv<|CC d n 1 E;have⟨f,k2⟩:=Dv<|Di d 1 E;have⟨l3,s,x⟩:=JG<|D3 d n x2;have⟨p4,k4⟩:=Dv<|(Di d 12 s).t9;have⟨l4,y4,P⟩:=JG<|Dr d n (2*n+1) (CC d n 12 s) [];have⟨x5,R⟩:=Dv<|CC d n 13 y4;have hv:NQ d n m=(⟨f,l3,p4,l4⟩,x5):=by simp only[NQ,j,o,k2,x,k4,P,R]
 rw[hv];have b2:E.q<n:=by rw[<-j];exact DO r b1
 have b3:x2.q<n:=by rw[<-o];exact DO r b2
 have c7:s.q<n:=by have:=cW r b3;rw[x]at this;exact this
 obtain⟨IH,HG,HZ,X1,X2,K2,X3,K4⟩:=Pe (J7 i C hF<|2*n+1) hG r j o k2 x k4;have X4:=J P;have X5:=J R;clear j o k2 x k4 P R hv r hG hF;go_in;go_wp2_with fail;apply(Ek b g n h 3 m d _ (W.alloc B _) (q.j ((CT Cb _).alloc _) id) b1).mono;rw[X1.o];rintro e w2 ⟨rfl,b5,y⟩;obtain⟨a1,a3,K,a5⟩:=F8 ((W.new w uQ 151).j y<|by omega) (((CT (λk=>k=b) w).alloc<|R' uQ 151).trans y) ((q.j ((CT Cb _).alloc<|R' uQ 151) id).j y U) b5;clear b5 y B q;go_wp2_with fail;apply(Q7 b g n h E d _ a5.o K.o b2).mono;rw[X2.o,K2.o];rintro e w3 ⟨rfl,a0,z⟩;obtain⟨F,a4,N,a6⟩:=F8 (a1.o.j z<|by omega) (a3.o.trans z) (K.o.j z U) a0;have d8:=Cz F.o;have e1:=Cz a0;clear a0 z a1 a3 K a5;unfold Qa;go_wp2_with fail;apply(Tj b g n h x2 d _ (W.alloc a6.o _) (N.o.j ((CT Cb _).alloc _) id) b3 HZ.o).mono;rw[X3.o];rintro e w4 ⟨v,rfl,V,b6,p⟩;obtain⟨va,vl,vc,rfl⟩:=CA V;obtain⟨H,t,I,c4,c2,u⟩:=QS ((W.new w3 #[f.a,f.t9] 145).j p<|by omega) ((F.o.alloc<|R' #[f.a,f.t9] 145).j p<|by omega) ((a4.o.alloc<|R' #[f.a,f.t9] 145).trans p) ((N.o.j ((CT Cb _).alloc<|R' #[f.a,f.t9] 145) id).j p U) b6 V;have n0:=H.o.z;have b0:=t.o.z;have bf:=t.o.wV;have d9:=Cz H.o;have e0:=Cz t.o;have d6:=I.o;have c8:2*(n-(CC d n 12 s).q)+1<=2*n+1:=by omega
 clear b6 p V F a4 N a6;go_wp2_with fail;go_region_with(go_at_call 166;refine(Kf i C (2*n+1) IH.o b g n h s d _ hb (O.keeps HG.o (I.o.xV oq) hB hb) (by simp;omega) (W.j (X:=Cb) c2.o oq id) (c4.o.j (X:=Cb) oq id) c7 HZ.o c8).mono ?_;rw[K4.o,X4.o];simp only;rw[X5.o];rintro e w5 ⟨d5,U5,e2,rfl,S,a9,b7,b4⟩;have c6:=S;have⟨c9,b8,_⟩:=c6;obtain⟨wa,wl,b9,rfl⟩:=CA b8;have l:=O.trans (X:=λk=>k=b) (a:=w4) oq b4;obtain⟨c0,a2,a8⟩:=Dq (H.o.j l<|by omega) (t.o.j l<|by omega) (Cx u.o l λk c=>by have:=(u.o.lt k c).1;simp at this;omega);have m0:=c0.o.z;have⟨d0,d1,d2,d3,d4⟩:=a2.o.k5;have df:=a2.o.wV;obtain⟨c5,a7,c1,c3⟩:=F8 S a9 (I.o.trans l) b7;have d7:=l;clear S a9 b7 b4 l b8);all_goals
  go_wp2;apply Ak (v:=N'<|Sk ⟨f,l3,p4,l4⟩ (Y va vl vc)<|Y wa wl b9) (by simp[zz,results134,go_sem,Sk,d0,d1,d2,d3,d4]) Q;refine⟨d5,λk=>U5 k\/L' (Y va vl vc)=T k,va,vl,vc,wa,wl,b9,Q,?_,?_,?_,?_⟩;refine Me.j (X:=λk=>k=(w:M)) (w:=w5) ⟨_,_,Q,CN a8.o<|Ar _,λk c=>zn c,c5.o.more λk c=>zo c⟩ ?_ ?_;iterate 5 refine O.wS ?_ _ _
  exact oq;intro k c;rcases c with c|c
  have:=(a7.o k c).1;simp at this;omega;have:=(u.o.lt k c).1;simp at this;omega;intro k c;simp only[World.size_setCell];rcases c with c|c
  have:=a7.o k c;simp at this;omega;have j:=(u.o.lt k c).1;have o:=(a8.o.lt k c).2;simp at j;omega;refine W.j (X:=λk=>k=(w:M)) c3.o ?_ (by omega);iterate 5 refine O.wS ?_ _ _
  exact oq;iterate 5 refine O.xB ?_ _ _ (Ad _)
  exact c1.o
theorem Tryz.infoTF:(Tryz.prog.info? 151).map (λi=>(i.zero,i.size,i.bytes))=T (T<|N' uQ,5,80):=by kernel_rfl
def Ic(b:Dw)(n:M):M->PS->Df->Df×PS
 |0,x,a=>(a,x)
 |f+1,x,a=>if (CJ b x.q).e=3 then Ic b n f (NQ b n x).2 (a++[(NQ b n x).1])else(a,x)
def FQ(a:Dw)(n:M)(x:PS):Df×M×PS:=
 let r:=Ic a n n (NQ a n x).2 [(NQ a n x).1]
 (r.1,(Di a 0 r.2).t9,CC a n 0 r.2)
def Gt(d:M)(U:Ce)(w:I')(c:H')(b:Df):Prop:=∃a:List<|Ci,J' w 0 151 5 c b a.flatten/\L a=b/\(∀k,L' c=T k->U k)/\∀j (g:j<L b) (e:j<L a),Me d U w b[j] a[j]
def vB(b g n h:M)(w:I')(r:Df×M×PS)(e:Ending)(f:I'):Prop:=
 ∃(d:M) (U:Ce) (a:Ch) (l c:M),e=N' #[Y a l c,r.2.1]/\Gt d U f (Y a l c) r.1/\(∀k,U k->(w:M)<=k/\k<(f:M))/\DA b g n h r.2.2 f/\O (λk=>k=b) w f
structure FW(lo lb d:M)(U:Ce)(w:I')(sv:H')(acc:Df)(css:List<|Ci):Prop where
 row:w.ownsRow lo 151 5 sv acc css.flatten
 len:css.length=acc
 yM:∀j (g:j<acc.length) (g':j<css.length),Me d U w acc[j] css[j]
 u:∀k,U k->lo<=k/\k<(w:M)/\k≠lb
 apart:∀k,sv.ownBlock=T k->¬U k/\k≠lb
theorem FW.j{d}{U:Ce}{w w' sv}{X:Ce}(h:FW B C d U w sv y2 v9)(b:O X w w')(c:∀k,B<=k->k<w.heap.size->k≠C->¬X k):FW B C d U w' sv y2 v9:=
 ⟨Cx h.row b λk a=>c k (h.row.lt k a).1 (h.row.lt k a).2 (h.apart k a).2,h.len,λj g e=>(h.yM j g e).j b λk a=>c k (h.u k a).1 (h.u k a).2.1 (h.u k a).2.2,λk a=>⟨(h.u k a).1,Av (h.u k a).2.1 b.size,(h.u k a).2.2⟩,h.apart⟩
theorem FW.push{b:Ce}{u t}(h:FW B C R z1 P V y2 v9)(E:C<P.heap.size)(s:Me X b P t y1)(i:∀k,b k->B<=k/\k<P.heap.size/\k≠C/\¬L' V=T k)(o:O Cb P y0)
 (F:J' v1 B 151 5 z0 (L y2+1)<|v9.flatten++y1)(r:y0.grownBy v1<|L' V)(n:∀k,L' z0=T k->L' V=T k\/P.heap.size<=k):
 FW B C (max R X) (λk=>z1 k\/b k) (v1.setCell ⟨C,0,Z⟩ u) z0 (y2++[t]) (v9++[y1]):=by
 have f:O (λk=>L' V=T k) P v1:=O.xA (o.mono λ_ _ q=>q.elim) r λk a=>zo a;have g:=(CT (λk=>k=C) v1).wS 0 u;have m:=h.len;have p:∀k,L' z0=T k->k≠C:=λk a=>by
  rcases n k a with e|e
  exact(h.apart k e).2;omega
 refine⟨?_,by simp[m],?_,?_,?_⟩;grind[Cx];intro j v x;by_cases l:j<y2;rw[AD l,AD<|by omega];exact((((h.yM j l<|by omega).j f λk a q=>(h.apart k q).1 a).j g λk a=>(h.u k a).2.2).more λk a=>zo a).yK (Nat.le_max_left _ _);have e:j=y2:=by grind
 subst e;rw[AB<|by omega,AB<|by omega];simp only[Nat.sub_self,m,AA];exact(((s.j f λk a=>(i k a).2.2.2).j g λk a=>(i k a).2.2.1).more λk a=>zn a).yK (Nat.le_max_right _ _);intro k a;have y:=f.size;have z:=g.size;rcases a with a|a
 have:=h.u k a;omega;grind;intro k a;refine⟨λq=>?_,p k a⟩;rcases n k a with e|e
 rcases q with q|q
 exact(h.apart k e).1 q;grind;rcases q with q|q
 have:=(h.u k q).2.1;omega;grind
theorem oG(t a d l f c e):∀u∈(Sk t (Y a l c)<|Y d f e).toList,u.oneCell'=zt:=by intro u b;simp[Sk]at b;rcases b with rfl|rfl|rfl|rfl|rfl<;>rfl
theorem pH{w:I'}(a)(b:a.size=5):J' (w.alloc<|R' a 151) w 151 5 (Y w 1 1) 1 a.toList:=
 ⟨by omega,zn ⟨w,1,a,Q,Ad _,BB w _,Ad _,by grind[E'],by omega,by grind[List.take_of_length_le]⟩⟩
theorem Pp(B0 b2)(hF:EZ B0 b2)(b g n o x0 i w)(hb:B0<=b)(hG:zx B0 b2 w)(hB:B0<=w)(hr:DA b g n o x0 w)(ht:DM g n o i w)(d7:x0.q<n)(hz:(CJ i<|n-1).e=0):
 F' zy 88 #[Z' b] w λe w'=>vB b g n o w (FQ i n x0) e w':=by
 obtain⟨i0,hi,f4,f5,f6⟩:=Bx Tryz.infoTF;have lr:=Cz hr;have lg:=ht.lt;have hn:=ht.2.2.1;have d8:=ht.ne hr (by decide);have r:=Ki hz d7;obtain⟨V,x1,E⟩:=JG<|NQ i n x0;rw[E]at r;have f1:=r.2;obtain⟨l2,x2,h2⟩:=JG<|Ic i n n x1 [V];have hv:FQ i n x0=(l2,(Di i 0 x2).t9,CC i n 0 x2):=by simp only[FQ,E,h2]
 rw[hv];obtain⟨HG,HZ,HF,X1,X2⟩:=Ix hG hz hF E h2;clear E h2 hv hz hG hF r;go_in;go_wp2_with fail;refine(Nf B0 b2 HF.o b g n o x0 i _ hb (O.keeps HG.o ((CT (λk=>k=b) w).alloc _) hB hb) (by simp;omega) (W.alloc hr _) (ht.j ((CT Cb _).alloc _) id) d7 HZ.o).mono ?_;rw[X1.o];rintro e l ⟨d2,U2,fa,fl,fc,b5,b7,b6,rfl,e1,d5,c1,a4⟩;have f7:=a4.size;simp at f7;have c3:D<|W (w:M) #[Y Z 0 0,G A 0] 81 l:=(W.new w _ _).j a4 (by omega);obtain⟨c4,c8,c5,c7,b3⟩:=Ix (((CT (λk=>k=b) w).alloc _).trans a4) ((ht.j ((CT Cb _).alloc<|R' #[Y Z 0 0,G A 0] 81) id).j a4 d8) c1 e1 d5;have g5:=Cz c1;clear c1 a4 hr ht e1 d5;unfold Sk;go_wp2_with fail;go_loopw[] (λwr=>∃(x:PS) (f d:M) (U:Ce) (sv:H') (R:Df) (b4:List<|Ci),x.q<n/\L R<=x.q+1/\n-x.q<=f/\D (DA b g n o x wr)/\D (DM g n o i wr)/\D (W (w:M) #[Y Z 0 0,G A 0] 81 wr)/\D (W ((l:M)+1) #[sv,G A 0] 81 wr)/\D (FW ((w:M)+1) ((l:M)+1) d U wr sv R b4)/\D (O (λk=>k=b) w wr)/\D (Ic i n f x R=(l2,x2))) (λwr=>n-Rh b wr)
 .refine⟨x1,n,d2,U2,Y (T ⟨(l:M),0,Z⟩) 1 1,[V],[(Sk V (Y fa fl fc)<|Y b5 b7 b6).toList],f1,by simp,by omega,W.alloc (W.alloc c5.o _) _,c8.o.j (((CT Cb _).alloc _).alloc _) id,W.alloc (W.alloc c3.o _) _,?_,?_,(c4.o.alloc _).alloc _,X2⟩
  .apply J;have:=W.new (l.alloc<|R' #[Y' V.I.a,G A V.I.t9,Y fa fl fc,G A V.t9,Y b5 b7 b6] 151) #[Y (T ⟨(l:M),0,Z⟩) 1 1,G A 0] 81;simpa using this
  .refine J ⟨?_,Q,?_,?_,?_⟩
   .have:=(pH (w:=l) (Sk V (Y fa fl fc)<|Y b5 b7 b6) Q).alloc<|R' #[Y (T ⟨(l:M),0,Z⟩) 1 1,G A 0] 81;exact CN (by simpa[Sk]using this)<|by omega
   .intro j r g2;have e:j=0:=by simp at r;omega
    subst e;exact c7.o.j (((CT Cb _).alloc _).alloc _) Ed
   .intro k c;have:=b3.o k c;simp at this|-;omega
   .intro k c;simp[L']at c;refine⟨λq=>?_,by omega⟩;have:=b3.o k q;omega
 clear c5 c8 c3 c4 X2 c7 b3;obtain⟨x,f,d,U,sv,R,b4,hx,f8,hf,S,hT,a7,hC,a8,hO,HC⟩:=hrel;have e3:=J<|I4 S.o;by_cases a1:(CJ i x.q).e=3
 .obtain⟨f2,rfl⟩:∃f2,f=f2+1:=⟨f-1,by omega⟩;obtain⟨t3,x3,h3⟩:=JG<|NQ i n x;have d1:Ic i n f2 x3 (R++[t3])=(l2,x2):=by have:=HC.o;rw[Ic,Bb a1,h3]at this;exact this
  have f3:x.q+1<=x3.q/\x3.q<n:=by have r:=Ki (n:=n) HZ.o hx;have g2:=QL HZ.o hx a1;rw[h3]at r g2;exact⟨g2,r.2⟩
  obtain⟨X3,e2,HK⟩:=Dq h3 d1 a1;clear HC h3 d1 a1;go_wp2_with fail;apply(Gx b g n o x i _ S.o hT.o hx).mono;rw[HK.o];rintro e wk ⟨rfl,m⟩;obtain⟨R1,T1,A1,P,C,O1⟩:=QS (W.j S.o m id) (hT.o.j m id) (a7.o.j m id) (hC.o.j m id) (a8.o.j m λ_ _ _ _ q=>q)<|hO.o.xV m;clear S hT a7 hC a8 hO m;obtain⟨y,B,z,rfl⟩:=CA C.o.row;have c0:=P.o.z;have cf:=P.o.wV 0;have lc:=Cz P.o;have g6:=Cz R1.o;have g4:=O1.o.size;have NC:=J λk (c:L' (Y y B z)=T k)=>(⟨(C.o.row.lt k c).1,(C.o.apart k c).2⟩:(w:M)+1<=k/\k≠(l:M)+1);go_wp2_with fail;go_region_law(first
   |(refine C7 Q _ _ 79 Q ((w:M)+1) 151 i0 (N' uQ) 5 80 underlying79 hi f4 f5 f6 Q (by decide) _ _ _ Q (B4.o.row.alloc _) ⟨(w4:M),0,Z⟩ 1 1 (Sk t3 (Y aa al ac)<|Y ba bl bc).toList Q Q (C3 Q _ _) (oG _ _ _ _ _ _ _) (by decide) (by unfold E';omega) (by omega) (by simp;omega) ?_;intro v' N b9 a0 d9;have q1:K' N ⟨(l:M)+1,0,Z⟩=T (Y y B z):=(Ae<|a0.block ((l:M)+1) (by simp;omega) λh=>(NC.o _ h.symm).2 Q).trans (by rw[<-e4];exact Ae<|Ao _ _ _ c2);have q2:N.frozen? ⟨(l:M)+1,0,Z⟩=zr:=(Aj<|a0.block ((l:M)+1) (by simp;omega) λh=>(NC.o _ h.symm).2 Q).trans (by rw[<-e5];exact Aj<|Ao _ _ _ c2);obtain⟨H,K,I,rfl⟩:=CA b9)
   |(go_simp;go_at_call 134;refine(Nf B0 b2 HF.o b g n o x i _ hb (O.keeps HG.o (O1.o.xV oq) hB hb) (by simp;omega) (W.j (X:=Cb) R1.o oq id) (T1.o.j (X:=Cb) oq id) hx HZ.o).mono ?_;rw[X3.o];rintro e w4 ⟨d4,U4,aa,al,ac,ba,bl,bc,rfl,e0,d6,a6,F⟩;have a5:=O.trans (X:=λk=>k=b) (a:=wk) oq F;have B4:=J (C.o.j a5 λk h _ _=>by omega);have s:=J (P.o.j a5<|by omega);have e4:=s.o.j0;have e5:=s.o.wV 0;have c2:=Cz s.o;have g3:=a5.size;obtain⟨c6,c9,R4,O5⟩:=F8 e0 d6 a6 a5;clear e0 d6 a6 F a5;unfold Sk;dsimp only))
  all_goals
   have a2:O (λk=>L' (Y y B z)=T k) w4 N:=O.xA oq a0 λk c=>zo c;have a9:=(CT (λk=>k=(l:M)+1) N).wS 0<|Y H K I;have b8:∀j,j<(w:M)+1->¬L' (Y y B z)=T j:=λj hj q=>by have:=(NC.o j q).1;omega
   have hP:=FW.push (u:=Y H K I) B4.o c2 c6.o (λk c=>by have E:=c9.o k c;simp only[World.size_drew]at E;exact⟨by omega,E.2,by omega,λq=>by have:=(C.o.row.lt k q).2;omega⟩) oq b9 a0 (λk c=>(d9 k c).imp id λq=>by simp at q;omega);have d3:DA b g n o x3<|N.setCell ⟨(l:M)+1,0,Z⟩<|Y H K I:=(R4.o.j a2<|b8 b<|by omega).j a9 (by omega);have f0:DM g n o i<|N.setCell ⟨(l:M)+1,0,Z⟩<|Y H K I:=((T1.o.j O5.o d8).j a2<|b8 g<|by omega).j a9 (by omega);have e6:=((A1.o.j O5.o<|by omega).j a2<|b8 (w:M)<|by omega).j a9 (by omega);have e7:W ((l:M)+1) #[Y H K I,G A 0] 81<|N.setCell ⟨(l:M)+1,0,Z⟩<|Y H K I:=by have:=(s.o.j a2 λq=>(NC.o _ q).2 Q).set 0<|Y H K I;simpa using this
   have e9:O (λk=>k=b) w<|N.setCell ⟨(l:M)+1,0,Z⟩<|Y H K I:=(O.xA ((O1.o.trans O5.o).alloc _) a0 λk c=>zn<|by have:=(NC.o k c).1;omega).xB 0 _ (by omega);have e8:=I4 d3;clear b9 a0 d9 q1 q2 c6 c9 B4 s R4 a2 a9;go_wp2_with fail;go_roundw;exact⟨x3,f2,_,_,_,R++[t3],_,f3.2,by simp;omega,by omega,d3,f0,e6,e7,hP,e9,e2⟩;rw[e8,e3.o];omega
 .have hv:(R,x)=(l2,x2):=by
   rw[<-HC.o];cases f with
   |zero=>rfl
   |succ f=>rw[Ic,Ba a1]
  simp only[AU]at hv
  obtain⟨rfl,rfl⟩:=hv
  have g0:=Ka ((CJ i x.q).e:zw) 3<|by omega
  clear HC a1
  go_wp2_with fail
  apply(Gx b g n o x i _ S.o hT.o hx).mono
  rintro e wk ⟨rfl,m⟩
  obtain⟨R1,T1,A1,P,C,O1⟩:=QS (W.j S.o m id) (hT.o.j m id) (a7.o.j m id) (hC.o.j m id) (a8.o.j m λ_ _ _ _ q=>q)<|hO.o.xV m
  clear S hT a7 hC a8 hO m
  go_wp2_with fail
  apply(Ek b g n o 0 x i _ R1.o T1.o hx).mono
  rintro e w4 ⟨rfl,a6,F⟩
  obtain⟨A4,s,B4,O4,R4⟩:=Ix (A1.o.j F<|by omega) (P.o.j F<|by omega) (C.o.j F λk h _ _=>by omega) (O1.o.trans F) a6
  clear R1 T1 A1 P C O1 a6 F
  obtain⟨y,B,z,rfl⟩:=CA B4.o.row
  obtain⟨b0,b1⟩:=A4.o.k2
  have bf:=A4.o.wV
  have d0:=s.o.z
  have df:=s.o.wV
  have lB:=Cz A4.o
  have lC:=Cz s.o
  obtain⟨t,k1⟩:=Dv<|Di i 0 x
  rw[k1]
  have K1:=J k1
  clear k1
  unfold fM
  have f9:=Tryz.placeOf
  go_wp2
  apply Ak (v:=N' #[Y y B z,G A t.t9]) (by simp[zz,results88,go_sem,b0,b1]) Q
  have hs:=(((CT (λk=>k=(w:M)\/k=(l:M)+1) w4).setCell (p:=⟨(l:M)+1,1,Z⟩) (zo<|zn Q)<|G A t.t9).setCell (p:=⟨(w:M),0,Z⟩) (zo<|zo Q)<|Y y B z).setCell (p:=⟨(w:M),1,Z⟩) (zo<|zo Q)<|G A t.t9
  have a3:=B4.o.j hs λk E _ h3=>by omega
  refine⟨d,λk=>U k\/L' (Y y B z)=T k,y,B,z,by rw[K1.o],⟨b4,CN a3.row<|Ar _,a3.len,λk c=>zn c,λj r g2=>(a3.yM j r g2).more λk c=>zo c⟩,?_,R4.o.j hs<|by omega,((O4.o.xB 1 _<|by omega).xB 0 _<|Ad _).xB 1 _<|Ad _⟩
  intro k c
  rcases c with c|c
  .have:=a3.u k c;exact⟨by omega,this.2.1⟩
  .have:=a3.row.lt k c;exact⟨by omega,this.2⟩
theorem Rs{a b}(h:a=b):T' (O' a)=T' (O' b):=by rw[h]
def K5(c:zw):Bool:=(zu (97<=c) && zu (c<=122))||(zu (224<=c) && zu (c<=255) && (c !=247))
def Km(c:zw):Bool:=c==40||c==41||c==123||c==125||c==59||c==61||c==38||c==42||c==64||c==46||c==63
theorem Kz(c w):
 F' zy 58 #[G A c] w λe a=>e=T' (O'<|K5 c)/\a=w:=by
 go_in;go_wp2;all_goals
  go_ret;exact⟨Rs<|by rw[Bool.eq_iff_iff];simp[K5];omega,Q⟩
theorem lL(c w):
 F' zy 59 #[G A c] w λe a=>e=T' (O'<|Km c)/\a=w:=by
 go_in;go_wp2;all_goals
  go_ret;refine⟨Rs ?_,Q⟩;first
   |(unfold Km;rfl)
   |(simp[Km, *];done)
def iX(l:Cj):Bool:=l==[102,110]||l==[118,97,114]||l==[110,101,119]||l==[114,101,116,117,114,110]||l==[105,102]||l==[101,108,115,101]||l==[119,104,105,108,101]
theorem VX(s w):
 F' zy 62 #[Y' s] w λe a=>e=T' (O'<|iX s.toList)/\a=w:=by
 go_in;go_wp2;all_goals
  go_ret;refine⟨Rs ?_,Q⟩;first
   |(unfold iX;rfl)
   |(simp[iX, *];done)
theorem XT(s:Cd)(i:M)(d:i<s)(_hs:s.size<=4000)(b:bt s i<128)(w:I'):
 F' zy 57 #[s,i] w λe f=>e=P' #[(DR s i).1,(DR s i).2]/\f=w:=by
 have c:DR s i=(bt s i,1):=by simp only[DR,Bb b]
 have a:=II s i d;rw[c];clear c;rw[a]at b|-;clear a;go_in;go_wp2;go_ret2;exact⟨Q,Q⟩
theorem gS(s:Cd)(i:M)(f:i<s)(_hs:s.size<=4000)(d:128<=bt s i)(a:bt s i<194\/245<=bt s i)(w:I'):
 F' zy 57 #[s,i] w λe h=>e=P' #[(DR s i).1,(DR s i).2]/\h=w:=by
 have c:DR s i=(0,0):=by simp only[DR];rw[Ba<|by omega,Ba<|by omega,Ba<|by omega,Ba<|by omega]
 have b:=II s i f;have g:=gN s i;rw[c];clear c;rw[b]at d a g;clear b;rcases a with a|a
 all_goals
  go_in;go_wp2;go_ret2;exact⟨Q,Q⟩
theorem gT(s i)(x:i<s.size)(X:s.size<=4000)(n:194<=bt s i)(o:bt s i<224)(w):
 F' zy 57 #[s,i] w λe C=>e=P' #[(DR s i).1,(DR s i).2]/\C=w:=by
 have r:DR s i=Ij s i 2 128 (bt s i-192):=by simp only[DR];rw[Ba<|by omega,Bb ⟨n,o⟩]
 have h:=II s i x;rw[r];clear r;by_cases z:s.size<i+2
 .rw[MB z];rw[h]at n o;clear h;go_in;go_wp2;go_ret2;exact⟨Q,Q⟩
 .generalize d:Ij s i 2 128 (bt s i-192)=v;have f:D<|Ij s i 2 128 (s[i].toNat-192)=v:=by rw[<-h];exact d
  clear d;rw[h]at n o;clear h;have H:zu ((s[i].toNat:zw)<128)=zr:=by simp;omega
  have I:zu ((s[i].toNat:zw)<224)=zt:=by simp;omega
  have K:zu ((s.size:zw)<(i:zw)+2)=zr:=by simp;omega
  go_in;go_wp2;go_loop[6,9,10] (λc k _=>∃m a:M,m<=1/\k=G A (m+1:M)/\c=G A a/\Eo s i (s[i].toNat-192) m=a) (λ_ k _=>2-(zm k).toNat);exact⟨0,_,by omega,Q,by go_num,Q⟩;obtain⟨m,a,S,rfl,rfl,b⟩:=hrel;have u:=Qz (by omega) (by omega) b;unfold Qu at u;by_cases R:m+1<2
  .have y:i+(m+1)<s:=by omega
   have j:=II s (i+(m+1)) y;have V:s[i+(m+1)].toNat<256:=UInt8.toNat_lt _;by_cases g:bt s (i+1+m)<128\/191<bt s (i+1+m)
   .have d:v=(0,0):=by rw[<-f.o,Oe<|JZ (Oi b g)<|by omega]
    subst d;clear f b;rw[show i+1+m=i+(m+1) from by omega,j]at g;clear j;rcases g with g|g
    all_goals
     go_wp2;go_ret2;exact⟨Q,Q⟩
   .have t:D<|Eo s i (s[i].toNat-192) (m+1)=T (a*64+s[i+(m+1)].toNat-128):=by have:=Ik b (by omega) (by omega);rw[show i+1+m=i+(m+1) from by omega,j]at this;exact this
    rw[show i+1+m=i+(m+1) from by omega,j]at g
    have E:128<=s[i+(m+1)].toNat:=by omega
    have F:s[i+(m+1)].toNat<=191:=by omega
    clear g j b f
    go_wp2
    go_round
    exact⟨m+1,_,by omega,by go_num,by go_num,t.o⟩
    simp[intOf];omega
  .have B:m=2-1:=by omega
   subst B;by_cases l:a<128\/1114111<a\/(55296<=a/\a<57344)
   .have d:v=(0,0):=by rw[<-f.o,Qt b l]
    subst d;clear f b;rcases l with q|q|⟨q,U⟩
    all_goals
     go_wp2;go_ret2;exact⟨Q,Q⟩
   .have d:v=(a,2):=by rw[<-f.o,PO (by omega) b l]
    subst d;have N:128<=a:=by omega
    have P:a<=1114111:=by omega
    have p:a<55296\/57344<=a:=by omega
    clear f b l;rcases p with p|p
    all_goals
     go_wp2;go_ret2;exact⟨Q,Q⟩
theorem XU(s i)(x:i<s.size)(hs:s.size<=4000)(n:224<=bt s i)(o:bt s i<240)(w):
 F' zy 57 #[s,i] w λe C=>e=P' #[(DR s i).1,(DR s i).2]/\C=w:=by
 have r:DR s i=Ij s i 3 2048 (bt s i-224):=by simp only[DR];rw[Ba<|by omega,Ba<|by omega,Bb ⟨n,o⟩]
 have h:=II s i x;rw[r];clear r;by_cases z:s.size<i+3
 .rw[MB z];rw[h]at n o;clear h;go_in;go_wp2;go_ret2;exact⟨Q,Q⟩
 .generalize d:Ij s i 3 2048 (bt s i-224)=v;have f:D<|Ij s i 3 2048 (s[i].toNat-224)=v:=by rw[<-h];exact d
  clear d;rw[h]at n o;clear h;have H:zu ((s[i].toNat:zw)<128)=zr:=by simp;omega
  have I:zu ((s[i].toNat:zw)<224)=zr:=by simp;omega
  have K:zu ((s[i].toNat:zw)<240)=zt:=by simp;omega
  have N:zu ((s.size:zw)<(i:zw)+3)=zr:=by simp;omega
  go_in;go_wp2;go_loop[6,9,10] (λc k _=>∃m a:M,m<=2/\k=G A (m+1:M)/\c=G A a/\Eo s i (s[i].toNat-224) m=a) (λ_ k _=>3-(zm k).toNat);exact⟨0,_,by omega,Q,by go_num,Q⟩;obtain⟨m,a,U,rfl,rfl,b⟩:=hrel;have u:=Qz (by omega) (by omega) b;unfold Qu at u;by_cases S:m+1<3
  .have y:i+(m+1)<s:=by omega
   have j:=II s (i+(m+1)) y;have X:s[i+(m+1)].toNat<256:=UInt8.toNat_lt _;by_cases g:bt s (i+1+m)<128\/191<bt s (i+1+m)
   .have d:v=(0,0):=by rw[<-f.o,Oe<|JZ (Oi b g)<|by omega]
    subst d;clear f b;rw[show i+1+m=i+(m+1) from by omega,j]at g;clear j;rcases g with g|g
    all_goals
     go_wp2;go_ret2;exact⟨Q,Q⟩
   .have t:D<|Eo s i (s[i].toNat-224) (m+1)=T (a*64+s[i+(m+1)].toNat-128):=by have:=Ik b (by omega) (by omega);rw[show i+1+m=i+(m+1) from by omega,j]at this;exact this
    rw[show i+1+m=i+(m+1) from by omega,j]at g
    have E:128<=s[i+(m+1)].toNat:=by omega
    have F:s[i+(m+1)].toNat<=191:=by omega
    clear g j b f
    go_wp2
    go_round
    exact⟨m+1,_,by omega,by go_num,by go_num,t.o⟩
    simp[intOf];omega
  .have B:m=3-1:=by omega
   subst B;by_cases l:a<2048\/1114111<a\/(55296<=a/\a<57344)
   .have d:v=(0,0):=by rw[<-f.o,Qt b l]
    subst d;clear f b;rcases l with q|q|⟨q,V⟩
    all_goals
     go_wp2;go_ret2;exact⟨Q,Q⟩
   .have d:v=(a,3):=by rw[<-f.o,PO (by omega) b l]
    subst d;have P:2048<=a:=by omega
    have R:a<=1114111:=by omega
    have p:a<55296\/57344<=a:=by omega
    clear f b l;rcases p with p|p
    all_goals
     go_wp2;go_ret2;exact⟨Q,Q⟩
theorem bM(s i)(x:i<s.size)(hs:s.size<=4000)(n:240<=bt s i)(o:bt s i<245)(w):
 F' zy 57 #[s,i] w λe C=>e=P' #[(DR s i).1,(DR s i).2]/\C=w:=by
 have r:DR s i=Ij s i 4 65536 (bt s i-240):=by simp only[DR];rw[Ba<|by omega,Ba<|by omega,Ba<|by omega,Bb ⟨n,o⟩]
 have h:=II s i x;rw[r];clear r;by_cases z:s.size<i+4
 .rw[MB z];rw[h]at n o;clear h;go_in;go_wp2;go_ret2;exact⟨Q,Q⟩
 .generalize d:Ij s i 4 65536 (bt s i-240)=v;have f:D<|Ij s i 4 65536 (s[i].toNat-240)=v:=by rw[<-h];exact d
  clear d;rw[h]at n o;clear h;have H:zu ((s[i].toNat:zw)<128)=zr:=by simp;omega
  have I:zu ((s[i].toNat:zw)<224)=zr:=by simp;omega
  have K:zu ((s[i].toNat:zw)<240)=zr:=by simp;omega
  have N:zu ((s[i].toNat:zw)<245)=zt:=by simp;omega
  have P:zu ((s.size:zw)<(i:zw)+4)=zr:=by simp;omega
  go_in;go_wp2;go_loop[6,9,10] (λc k _=>∃m a:M,m<=3/\k=G A (m+1:M)/\c=G A a/\Eo s i (s[i].toNat-240) m=a) (λ_ k _=>4-(zm k).toNat);exact⟨0,_,by omega,Q,by go_num,Q⟩;obtain⟨m,a,V,rfl,rfl,b⟩:=hrel;have u:=Qz (by omega) (by omega) b;unfold Qu at u;by_cases U:m+1<4
  .have y:i+(m+1)<s:=by omega
   have j:=II s (i+(m+1)) y;have hq:s[i+(m+1)].toNat<256:=UInt8.toNat_lt _;by_cases g:bt s (i+1+m)<128\/191<bt s (i+1+m)
   .have d:v=(0,0):=by rw[<-f.o,Oe<|JZ (Oi b g)<|by omega]
    subst d;clear f b;rw[show i+1+m=i+(m+1) from by omega,j]at g;clear j;rcases g with g|g
    all_goals
     go_wp2;go_ret2;exact⟨Q,Q⟩
   .have t:D<|Eo s i (s[i].toNat-240) (m+1)=T (a*64+s[i+(m+1)].toNat-128):=by have:=Ik b (by omega) (by omega);rw[show i+1+m=i+(m+1) from by omega,j]at this;exact this
    rw[show i+1+m=i+(m+1) from by omega,j]at g
    have E:128<=s[i+(m+1)].toNat:=by omega
    have F:s[i+(m+1)].toNat<=191:=by omega
    clear g j b f
    go_wp2
    go_round
    exact⟨m+1,_,by omega,by go_num,by go_num,t.o⟩
    simp[intOf];omega
  .have B:m=4-1:=by omega
   subst B;by_cases l:a<65536\/1114111<a\/(55296<=a/\a<57344)
   .have d:v=(0,0):=by rw[<-f.o,Qt b l]
    subst d;clear f b;rcases l with q|q|⟨q,X⟩
    all_goals
     go_wp2;go_ret2;exact⟨Q,Q⟩
   .have d:v=(a,4):=by rw[<-f.o,PO (by omega) b l]
    subst d;have R:65536<=a:=by omega
    have S:a<=1114111:=by omega
    have p:a<55296\/57344<=a:=by omega
    clear f b l;rcases p with p|p
    omega
    .go_wp2;go_ret2;exact⟨Q,Q⟩
theorem Kh(s:Cd)(i:M)(b:i<s)(c:s.size<=4000)(w:I'):
 F' zy 57 #[s,i] w λe a=>e=P' #[(DR s i).1,(DR s i).2]/\a=w:=by
 grind[XT,gS,gT,XU,bM]
def Kw(s:Cd):M->M->M×Bool
 |0,i=>(i,zt)
 |f+1,i=>if i<s/\bt s i≠10 then(if (DR s i).2=0 then(i,zr)else Kw s f (i+(DR s i).2))else(i,zt)
theorem PP(h:¬(C<u0.size/\bt u0 C≠10)):Kw u0 B C=(C,zt):=by
 cases B with
 |zero=>rfl
 |succ B=>simp only[Kw,Ba h]
theorem ZB(c:u0.size-C<=B)(h:C<u0.size)(a:bt u0 C≠10)(b:(DR u0 C).2=0):Kw u0 B C=(C,zr):=by
 cases B with
 |zero=>omega
 |succ B=>simp only[Kw,Bb<|And.intro h a,Bb b]
theorem Ue{f}(c:u0.size-B<=f)(h:B<u0.size)(b:bt u0 B≠10)(d:(DR u0 B).2≠0):∃a,u0-(B+(DR u0 B).2)<=a/\Kw u0 f B=Kw u0 a (B+(DR u0 B).2):=by
 cases f with
 |zero=>omega
 |succ f=>exact⟨f,by omega,by grind[Kw]⟩
theorem Vn(s:Cd)(i d:M)(B:i<=s)(t:s.size<=4000)(y:s-i<=d)(w:I'):
 F' zy 60 #[s,i] w λe m=>e=P' #[(Kw s d i).1,(Kw s d i).2]/\m=w:=by
 generalize b:Kw s d i=v;have n:D<|Kw s d i=v:=b;clear b;go_in;go_wp2;go_loop[1,6,7] (λj _ _=>∃k f:M,k<=s/\j=G A k/\s-k<=f/\Kw s f k=v) (λj _ _=>s-(zm j).toNat);exact⟨i,d,B,Q,y,n.o⟩;obtain⟨k,f,E,rfl,q,p⟩:=hrel;have a:D<|Kw s f k=v:=p;clear p n;by_cases g:k<s
 .have h:=II s k g;by_cases c:bt s k=10
  .have b:v=(k,zt):=by rw[<-a.o,PP<|by omega]
   subst b;clear a;have x:(((s[k].toNat:M):zw) !=10)=zr:=by rw[h]at c;simp;omega
   clear h c;go_wp2;go_ret2;exact⟨Q,Q⟩
  .have x:(((s[k].toNat:M):zw) !=10)=zt:=by rw[h]at c;simp;omega
   have F:=JY s k g;by_cases l:(DR s k).2=0
   .have b:v=(k,zr):=by rw[<-a.o,ZB q g c l]
    subst b;have C:(((DR s k).2:zw)==0)=zt:=by simp[l]
    clear a h c l;go_wp2_with(go_at_call 57;refine(Kh _ _ ?_ ?_ _).mono ?_;exact g;exact t;rintro e m ⟨rfl,rfl⟩);go_ret2;exact⟨Q,Q⟩
   .have⟨o,z,r⟩:=Ue q g c l;have u:D<|Kw s o (k+(DR s k).2)=v:=by rw[<-r];exact a.o
    have C:(((DR s k).2:zw)==0)=zr:=by simp[l]
    clear a h c r;go_wp2_with(go_at_call 57;refine(Kh _ _ ?_ ?_ _).mono ?_;exact g;exact t;rintro e m ⟨rfl,rfl⟩);go_round;exact⟨k+(DR s k).2,o,by omega,by go_num,z,u.o⟩;simp[intOf];omega
 .have b:v=(k,zt):=by rw[<-a.o,PP<|by omega]
  subst b;clear a;go_wp2;go_ret2;exact⟨Q,Q⟩
def Ie(s:Cd):M->M->M->M×M
 |0,i,k=>(i,k)
 |f+1,i,k=>if i<s/\(DR s i).2≠0/\K5 (DR s i).1=zt then Ie s f (i+(DR s i).2) (k+1)else(i,k)
theorem NN(h:¬(C<u0.size/\(DR u0 C).2≠0/\K5 (DR u0 C).1=zt)):Ie u0 B C R=(C,R):=by
 cases B with
 |zero=>rfl
 |succ B=>simp only[Ie,Ba h]
theorem US{f k}(b:u0.size-B<=f)(h:B<u0.size)(d:(DR u0 B).2≠0)(c:K5 (DR u0 B).1=zt):∃a,u0-(B+(DR u0 B).2)<=a/\Ie u0 f B k=Ie u0 a (B+(DR u0 B).2) (k+1):=by
 cases f with
 |zero=>omega
 |succ f=>exact⟨f,by omega,by grind[Ie]⟩
theorem MT(s:Cd):∀(f i k:M),i<=s->i<=(Ie s f i k).1/\(Ie s f i k).1<=s/\k<=(Ie s f i k).2/\(Ie s f i k).2+i<=k+(Ie s f i k).1
 |0,i,k,h=>by grind[Ie]
 |f+1,i,k,h=>by
  simp only[Ie];split
  .rename_i a;have b:=JY s i a.1;have c:=MT s f (i+(DR s i).2) (k+1) (by omega);omega
  omega
theorem Qw(s:Cd):∀(f i:M),i<=s->i<=(Kw s f i).1/\(Kw s f i).1<=s
 |0,i,h=>by grind[Kw]
 |f+1,i,h=>by
  simp only[Kw];split
  .rename_i a;have b:=JY s i a.1;split
   .omega
   .have c:=Qw s f (i+(DR s i).2) (by omega);omega
  omega
theorem mL(s:Cd)(i d:M)(C:i<=s)(o:s.size<=4000)(y:s-i<=d)(w:I'):
 F' zy 61 #[s,i] w λe c=>e=P' #[(Ie s d i 0).1,(Ie s d i 0).2]/\c=w:=by
 generalize b:Ie s d i 0=v;have p:D<|Ie s d i 0=v:=b;clear b;go_in;go_wp2;go_loop[1,6,7,8,9] (λj m _ _ _=>∃k f q:M,k<=s/\q<=k/\j=G A k/\m=G A q/\s-k<=f/\Ie s f k q=v) (λj _ _ _ _=>s-(zm j).toNat);exact⟨i,d,0,C,Ar _,Q,Q,y,p.o⟩;obtain⟨k,f,q,F,K,rfl,rfl,z,t⟩:=hrel;have a:D<|Ie s f k q=v:=t;clear t p;by_cases g:k<s
 .have I:=JY s k g;by_cases n:(DR s k).2=0
  .have b:v=(k,q):=by rw[<-a.o,NN<|by omega]
   subst b;have E:(((DR s k).2:zw)==0)=zt:=by simp[n]
   clear a n;go_wp2_with(first|(go_at_call 57;refine(Kh _ _ ?_ ?_ _).mono ?_;exact g;exact o;rintro e c ⟨rfl,rfl⟩)|(go_at_call 58;apply(Kz _ _).mono;rintro e c ⟨rfl,rfl⟩));go_ret2;exact⟨Q,Q⟩
  .have E:(((DR s k).2:zw)==0)=zr:=by simp[n]
   by_cases l:K5 (DR s k).1=zt
   .have⟨r,B,u⟩:=US (k:=q) z g n l;have x:D<|Ie s r (k+(DR s k).2) (q+1)=v:=by rw[<-u];exact a.o
    clear a u;go_wp2_with(first|(go_at_call 57;refine(Kh _ _ ?_ ?_ _).mono ?_;exact g;exact o;rintro e c ⟨rfl,rfl⟩)|(go_at_call 58;apply(Kz _ _).mono;rintro e c ⟨rfl,rfl⟩));go_round;exact⟨k+(DR s k).2,r,q+1,by omega,by omega,by go_num,by go_num,B,x.o⟩;simp[intOf];omega
   .have b:v=(k,q):=by rw[<-a.o,NN λh=>l h.2.2]
    subst b;have H:K5 (DR s k).1=zr:=by simpa using l
    clear a l;go_wp2_with(first|(go_at_call 57;refine(Kh _ _ ?_ ?_ _).mono ?_;exact g;exact o;rintro e c ⟨rfl,rfl⟩)|(go_at_call 58;apply(Kz _ _).mono;rintro e c ⟨rfl,rfl⟩));go_ret2;exact⟨Q,Q⟩
 .have b:v=(k,q):=by rw[<-a.o,NN<|by omega]
  subst b;clear a;go_wp2;go_ret2;exact⟨Q,Q⟩
structure Tk where
 a:Cd
 pos:M
 h:M
abbrev DH:=List Tk
variable {o8:DH}
def GJ(t:Tk):Ci:=[Y' t.a,t.pos,t.h]
def DZ(l:DH):Ci:=l.flatMap GJ
theorem J8(l t):DZ (l++[t])=DZ l++GJ t:=by simp[DZ]
def Dz(s:Cd)(i:M):M ⊕ (Option Tk×M):=
 if (DR s i).2=0 then .inl i
 else if (DR s i).1=32\/(DR s i).1=9\/(DR s i).1=10 then .inr (Z,i+1)
 else if (DR s i).1=35 then(if (Kw s s i).2=zt then .inr (Z,(Kw s s i).1)else .inl (Kw s s i).1)
 else if K5 (DR s i).1=zt then
  (if iX (s.extract i (Ie s s i 0).1).toList=zt then .inr (T ⟨s.extract i (Ie s s i 0).1,i,2⟩,(Ie s s i 0).1)
   else if 8<(Ie s s i 0).2 then .inl i else .inr (T ⟨s.extract i (Ie s s i 0).1,i,1⟩,(Ie s s i 0).1))
 else if 48<=(DR s i).1/\(DR s i).1<=51 then .inr (T ⟨s.extract i<|i+1,i,3⟩,i+1)
 else if Km (DR s i).1=zt then .inr (T ⟨s.extract i<|i+1,i,4⟩,i+1)
 else .inl i
theorem bN(h:B<u0.size)(b:(DR u0 B).2≠0)(a:bt u0 B≠10):B<(Kw u0 u0 B).1:=by have⟨c,_,d⟩:=Ue (f:=u0) (by omega) h a b;grind[JY,Qw]
theorem TK(h:B<u0.size)(b:(DR u0 B).2≠0)(a:K5 (DR u0 B).1=zt):B<(Ie u0 u0 B 0).1:=by have⟨c,_,d⟩:=US (f:=u0) (k:=0) (by omega) h b a;grind[JY,MT]
theorem M6(b:(DR u0 B).2≠0)(a:(DR u0 B).1<128):bt u0 B=(DR u0 B).1/\(DR u0 B).2=1:=by grind[DR,ZA]
theorem Lr{t}(a:B<u0.size)(h:Dz u0 B=.inr (t,C)):B<C/\C<=u0:=by grind[Dz,M6,bN,Qw,TK,MT]
def Ex(s:Cd):M->M->DH->M ⊕ DH
 |0,_,a=>.inr a
 |f+1,i,a=>if i<s then
   (match Dz s i with
   |.inl p=>.inl p
   |.inr (t,j)=>Ex s f j<|a++t.toList)else .inr a
theorem QX(h:¬C<u0.size):Ex u0 B C o8=.inr o8:=by
 cases B with
 |zero=>rfl
 |succ B=>simp only[Ex,Ba h]
theorem Jq{p}(b:u0.size-C<=B)(h:C<u0.size)(a:Dz u0 C=.inl p):Ex u0 B C o8=.inl p:=by
 cases B with
 |zero=>omega
 |succ B=>simp only[Ex,Bb h,a]
theorem IV{j acc t}(d:u0.size-C<=B)(h:C<u0.size)(b:Dz u0 C=.inr (t,j)):
 ∃a,u0-j<=a/\Ex u0 B C acc=Ex u0 a j (acc++t.toList):=by
 have c:=Lr h b;cases B with
 |zero=>omega
 |succ B=>exact⟨B,by omega,by grind[Ex]⟩
structure FS where
 e:M
 p:Tk
 q:Tk
 wU:M
 k:DH
 t9:M
 body:Cf
 other:Cf
 br:zw
 xY:zw
 l:M
abbrev C8:=List FS
def Ob:Option M->zw
 |none=> -1
 |some b=>b
def RM:Tk:=⟨ByteArray.empty,0,0⟩
def CI(l:DH)(i:M):Tk:=l[i]?.getD RM
def Dl(e d g n b:M)(c:M)(a:Option M)(w:I'):Prop:=
 w.heap[e]? =T (R' #[Y g n b,c,(Ob a),Z' d] 162 (0,0))
def Dt(g n b:M)(a:DH)(w:I'):Prop:=J' w 0 104 3 (Y g n b) n (DZ a)/\n=a/\n<=4001
theorem Pv{l i}(h:i<L l):(DZ l)[i*3]? =T (Y' (CI l i).a)/\(DZ l)[i*3+1]? =T (G A (CI l i).pos)/\(DZ l)[i*3+2]? =T (G A (CI l i).h):=by
 induction l generalizing i with
 |nil=>simp at h
 |cons t l a=>
  cases i with
  |zero=>simp[DZ,GJ,CI]
  |succ i=> have:=a (i:=i) (by simpa using h);simp only[DZ,List.flatMap_cons,CI,Ab]at this|-;grind[GJ]
theorem Dt.cells{g a w}(h:Dt g B C a w){i}(c:i<B):
 w (g,i*3)=(CI a i).a/\w (g,i*3+1)=(CI a i).pos/\w (g,i*3+2)=(CI a i).h:=
 have d:=h.2.1
 have b:=Pv (l:=a) (i:=i)<|by omega
 ⟨by rw[h.1.cellAt _<|by omega];exact b.1,by rw[h.1.cellAt _<|by omega];exact b.2.1,by rw[h.1.cellAt _<|by omega];exact b.2.2⟩
def VU(t:Tk)(l:Cj):Bool:=t.a.toList==l && (t.h==2||t.h==4)
def Ei(a:Option M)(t:Tk)(l:Cj):Bool:=a.isNone && VU t l
theorem Q9(p x g n o d l f s w)(m:Dl p x g n o d l w)(k:Dt g n o f w)(u:d<n):
 F' zy 106 #[Z' p,Y' s] w λe y=>e=T' (O'<|Ei l (CI f d) s.toList)/\O Cb w y:=by
 have⟨H,I,K⟩:=k.cells u;have B:=k.2.2;have F:=W.z m;have E:=Cz m;have C:g<w:=(k.1.lt g Q).2;clear m k;have i:O Cb w<|(w.alloc<|R' #[(CI f d).a,(CI f d).pos,(CI f d).h] 104).drew:=((CT _ _).alloc _).drew;generalize CI f d=t at*;cases l with
 |some b=>
  have z:zu ((b:zw)<0)=zr:=by simp
  have a:Ei b t s.toList=zr:=Q;rw[a];clear a;go_in;go_wp2;go_region;go_wp2;go_ret;exact⟨Q,i⟩
 |none=>
  by_cases c:t.a.toList=s.toList
  .have v:(t.a.toList==s.toList)=zt:=by simp[c]
   by_cases h:t.h=2
   .have q:((t.h:zw)==2)=zt:=by simp[h]
    have a:Ei Z t s.toList=zt:=by simp[Ei,VU,c,h]
    rw[a];clear a c h;go_in;go_wp2;go_region;go_wp2;go_ret;exact⟨Q,i⟩
   .have q:=Ka t.h 2 (by omega);by_cases j:t.h=4;have r:((t.h:zw)==4)=zt:=by simp[j]
    have a:Ei Z t s.toList=zt:=by simp[Ei,VU,c,j]
    rotate_left;have r:=Ka t.h 4 (by omega);have a:Ei Z t s.toList=zr:=by simp[Ei,VU,h,j]
    all_goals
     rw[a];clear a c h j;go_in;go_wp2;go_region;go_wp2;go_ret;exact⟨Q,i⟩
  .have v:(t.a.toList==s.toList)=zr:=by simp[c]
   have a:Ei Z t s.toList=zr:=by simp[Ei,VU,c]
   rw[a];clear a c;go_in;go_wp2;go_region;go_wp2;go_ret;exact⟨Q,i⟩
def JL(a:Option M)(p:M):Option M:=match a with|none=>T p|some b=>T b
theorem QJ(a j g n h c f m w)(d:Dl a j g n h c f w)(i:Dt g n h m w)(q:c<n):
 F' zy 107 #[Z' a] w λe o=>e=P' #[]/\Dl a j g n h c (JL f (CI m c).pos) o/\O (λk=>k=a) w o:=by
 have⟨y,z,B⟩:=i.cells q;have t:=i.2.2;have x:=W.z d;have r:=CZ d 2;have v:=Cz d;have u:g<w:=(i.1.lt g Q).2;have H:=d;have l:D<|Dl a j g n h c f w:=H;clear d i H;cases f with
 |some b=>
  have s:zu ((b:zw)<0)=zr:=by simp
  go_in;go_wp2;go_end0;exact⟨Q,l.o,oq⟩
 |none=> go_in;go_wp2;go_region;go_wp2;go_end0;refine⟨Q,?_,((CT (λk=>k=a) w).setCell (p:=(a,2)) (zo Q) _).drew⟩;exact JT (w:=w.drew) l.o 2 _
theorem Dl.j{a}{X:Ce}{w w'}(h:Dl B C R v0 p0 o1 a w)(b:O X w w')(c:¬X B):Dl B C R v0 p0 o1 a w':=by unfold Dl at h|-;rw[b.block B (Cz h) c];exact h
theorem Dt.j{a}{X:Ce}{w w'}(h:Dt B C R a w)(b:O X w w')(d:¬X B):Dt B C R a w':=
 ⟨Cx h.1 b λk c=>by grind[L'],h.2⟩
theorem Dt.ne{i w}(h:Dt B C R i w){c}(e:w.heap[X]? =T (R' q1 q0 c))(f:q0≠104):B≠X:=by
 rintro rfl;rcases h.1.2 with⟨d,_⟩|⟨l,j,k,b,_,a,_⟩
 simp at d;simp only[BU,Ai,Addr.mk.injEq]at b;rw[<-b.1.1,e]at a;simp only[Ai,Aq]at a;exact f a.2.1
def Jl(c:DH)(a:M)(b:Option M)(l:Cj):M×Option M:=
 if Ei b (CI c a) l=zt then(a+1,b)else(a,JL b (CI c a).pos)
theorem oB(c o g n f a b d s w)(j:Dl c o g n f a b w)(m:Dt g n f d w)(u:a<n):
 F' zy 63 #[Z' c,Y' s] w λe x=>e=T' (P' #[])/\Dl c o g n f (Jl d a b s.toList).1 (Jl d a b s.toList).2 x/\O (λk=>k=c) w x:=by
 have H:=m.ne j (by decide);have F:=m.2.2;unfold Jl;cases r:Ei b (CI d a) s.toList with
 |false=> have v:=r;have t:D<|Ei b (CI d a) s.toList=zr:=v;clear r v;go_in;go_wp2_with fail;apply(Q9 c o g n f a b d s w j m u).mono;rintro e q ⟨rfl,i⟩;rw[t.o];have l:=j.j i λh=>h;have C:=m.j i λh=>h;go_wp2_with fail;apply(QJ c o g n f a b d q l C u).mono;rintro e K ⟨rfl,B,z⟩;go_wp2_with fail;go_end0;exact⟨Q,by simpa using B,(i.mono λ_ _ h=>h.elim).trans z⟩
 |true=> have t:D<|Ei b (CI d a) s.toList=zt:=r;clear r;go_in;go_wp2_with fail;apply(Q9 c o g n f a b d s w j m u).mono;rintro e q ⟨rfl,i⟩;rw[t.o];have l:=j.j i λh=>h;have I:=W.z l;have E:=CZ l 1;have y:D<|Dl c o g n f a b q:=l;clear l j m;go_wp2;go_end0;refine⟨Q,?_,(i.mono λ_ _ h=>h.elim).trans<|(CT (λk=>k=c) q).setCell (p:=(c,1)) (zo Q) _⟩;have:=JT (w:=q) y.o 1<|G A<|(a:zw)+1;simpa[Dl]using this
theorem Pa(b h g n d a c f s l)(m:s.toList=l)(w)(o:Dl b h g n d a c w)(p:Dt g n d f w)(j:a<n):
 F' zy 63 #[Z'<|T ⟨b,0,Z⟩,Y' s] w λe i=>e=T' (P' #[])/\Dl b h g n d (Jl f a c l).1 (Jl f a c l).2 i/\O (λk=>k=b) w i:=by
 grind[oB]
theorem Ys(d h g n c a b f s l)(k:s.toList=l)(w)(m:Dl d h g n c a b w)(o:Dt g n c f w)(j:a<n):
 F' zy 106 #[Z'<|T ⟨d,0,Z⟩,Y' s] w λe i=>e=T' (O'<|Ei b (CI f a) l)/\O Cb w i:=by
 grind[Q9]
theorem Vt{a bad l}(c:(CI a<|B-1).h=0)(b:C<B):C<=(Jl a C bad l).1/\(Jl a C bad l).1<B:=by grind[Jl,Ei,VU]
def MR(t:Tk):Value:=N' #[t.a,t.pos,t.h]
def Gj(c:DH)(a:M)(b:Option M)(d:M):Tk×M×Option M:=
 if b.isNone=zt/\(CI c a).h=d then(CI c a,a+1,b)else(RM,a,JL b (CI c a).pos)
theorem PU(f p g n j a i:M)(q:Option M)(c:DH)(w:I')(r:Dl f p g n j a q w)(l:Dt g n j c w)(H:a<n):
 F' zy 64 #[Z' f,i] w λe K=>e=(MR (Gj c a q i).1)/\Dl f p g n j (Gj c a q i).2.1 (Gj c a q i).2.2 K/\O (λk=>k=f) w K:=by
 have⟨t0,t1,t2⟩:=l.cells H;have a0:=l.ne r (by decide);have hn:=l.2.2;have r0:=W.z r;have f1:=CZ r 1;have lr:=Cz r;have lg:g<w:=(l.1.lt g Q).2;have z:D<|Dl f p g n j a q w:=r;have I:D<|Dt g n j c w:=l;clear r l;cases q with
 |some b=>
  have hb:zu ((0:zw)<=(b:zw))=zt:=by simp
  have m:Gj c a b i=(RM,a,T b):=by simp[Gj,JL]
  rw[m];clear m;generalize CI c a=t at*;go_in;go_wp2;go_region;go_wp2_with fail;refine(QJ f p g n j a b c _ ?_ ?_ H).mono ?_;exact(z.o).j (((((CT Cb w).alloc _).alloc _)).drew) (λh=>h);exact(I.o).j (((((CT Cb w).alloc _).alloc _)).drew) (λh=>h);rintro e x ⟨rfl,s,o⟩;have d:x.heap[(w:M)]? =T (R' #[Y' {data:=#[]},G A 0,G A 0] 104 (0,0)):=by rw[o.block w (by simp;omega)<|by omega];exact(Ao _ _ _<|by simp).trans (BB w _)
  have C:=W.j0 d;have E:=W.j1 d;have F:=W.j2 d;have P:=CZ d 0;have R:=CZ d 1;have S:=CZ d 2;have V:=Cz d;have B:D<|Dl f p g n j a (T b) x:=s;have y:=(((CT (λk=>k=f) w).alloc _).alloc _).drew.trans o;clear s o d;go_wp2;refine Ak (v:=MR RM) (by simp[zz,results64,go_sem,MR,RM,C,E,F];rfl) Q ⟨Q,?_,?_⟩;exact B.o.j (X:=λk=>k=(w:M)) (by repeat(first|exact oq|refine O.drew ?_|refine O.alloc ?_ _|refine O.wS ?_ _ _)) (by omega);repeat(first|exact y|refine O.drew ?_|refine O.alloc ?_ _|refine O.xB ?_ _ _ (Ad _))
 |none=>
  by_cases u:(CI c a).h=i
  .have U:(((CI c a).h:zw) !=(i:zw))=zr:=by simp[u]
   have m:Gj c a Z i=(CI c a,a+1,Z):=by simp[Gj,u]
   rw[m];clear m u;generalize CI c a=t at*;go_in;go_wp2;go_region;go_wp2;refine Ak (v:=MR t) (by simp[zz,results64,go_sem,MR]) Q ⟨Q,?_,?_⟩;refine Dl.j (X:=Cb) (w:=w.setCell (f,1)<|G A<|(a:zw)+1) ?_ (((CT _ _).alloc _).alloc _).drew (λh=>h);have:=JT (w:=w) z.o 1<|G A<|(a:zw)+1;simpa[Dl]using this;repeat(first|exact oq|refine O.drew ?_|refine O.alloc ?_ _|refine O.wS ?_ _ _)
  .have U:=qO ((CI c a).h:zw) i (by omega);have m:Gj c a Z i=(RM,a,JL Z (CI c a).pos):=by simp[Gj,u]
   rw[m];clear m u;have HP:D<|JL Z (CI c a).pos=(CI c a).pos:=Q;generalize l:CI c a=t at*;have N:D<|CI c a=t:=l;clear l;go_in;go_wp2;go_region;go_wp2_with fail;refine(QJ f p g n j a Z c _ ?_ ?_ H).mono ?_;exact(z.o).j (((((CT Cb w).alloc _).alloc _)).drew) (λh=>h);exact(I.o).j (((((CT Cb w).alloc _).alloc _)).drew) (λh=>h);rw[N.o];rintro e x ⟨rfl,s,o⟩;have d:x.heap[(w:M)]? =T (R' #[Y' {data:=#[]},G A 0,G A 0] 104 (0,0)):=by rw[o.block w (by simp;omega)<|by omega];exact(Ao _ _ _<|by simp).trans (BB w _)
   have C:=W.j0 d;have E:=W.j1 d;have F:=W.j2 d;have P:=CZ d 0;have R:=CZ d 1;have S:=CZ d 2;have V:=Cz d;have B:D<|Dl f p g n j a (JL Z t.pos) x:=s;have y:=(((CT (λk=>k=f) w).alloc _).alloc _).drew.trans o;clear s o d;go_wp2;refine Ak (v:=MR RM) (by simp[zz,results64,go_sem,MR,RM,C,E,F];rfl) Q ⟨Q,?_,?_⟩;exact B.o.j (X:=λk=>k=(w:M)) (by repeat(first|exact oq|refine O.drew ?_|refine O.alloc ?_ _|refine O.wS ?_ _ _)) (by omega);repeat(first|exact y|refine O.drew ?_|refine O.alloc ?_ _|refine O.xB ?_ _ _ (Ad _))
