/- Part of the proof: LexF RdC RdD RdE RdG RdI RdJ RdM. -/
import Derived.Test.YtaningfhibkemaaGreatDoorG05
import Derived.Deep.CutBlock
set_option maxRecDepth 100000
set_option maxHeartbeats 40000000
namespace Go.Proofs.YtaningfhibkemaaGreatDoor
open Go.RowKit Go.Proofs.Tryz
open Option renaming none->Z,some->T
open Value renaming int->G,slice->Y
open IntKind renaming i64->A
def JW(t:Tk):Value:=.agg #[.string t.d9,G A t.pos,G A t.sort]
def Dl(c:List Tk)(a:Nat)(b:Option Nat)(d:Nat):Tk×Nat×Option Nat:=
 if b.isNone=true/\(tokAt c a).sort=d then(tokAt c a,a+1,b)else(MH,a,FI b (tokAt c a).pos)
theorem Lf(f q g n j a i:Nat)(r:Option Nat)(c:List Tk)(w:World)(m:AJ f q g n j a r w)(l:AP g n j c w)(H:a<n):
 Calls prog 52 #[.pointer (T ⟨f,0,Z⟩),G A i] w fun e L=>e=.returned (JW (Dl c a r i).1)/\AJ f q g n j (Dl c a r i).2.1 (Dl c a r i).2.2 L/\O (fun k=>k=f) w L:=by
 obtain⟨t0,t1,t2⟩:=l.cells H;have a0:=l.ne m (by decide);have hn:=l.2.2;have U:=Ak m 0;have V:=Ak m 1;have I:=Ak m 2;have f1:=Az m 1;simp only[gR,gP,gQ]at U V I;have lr:=Ae m;have lg:g<w.heap.size:=(l.1.lt g rfl).2;have E:D (AJ f q g n j a r w):=m;have K:D (AP g n j c w):=l;clear m l;cases r with
 |some b=>
  have hb:decide ((0:Int)<=(b:Int))=true:=by simp
  simp only[Gh]at I;have o:Dl c a (T b) i=(MH,a,T b):=by simp[Dl,FI]
  rw[o];clear o;generalize tokAt c a=t at*;go_enter func52,ntmps52;go_wp2;go_region;go_wp2_with fail;refine(LS f q g n j a (T b) c _ ?_ ?_ H).mono ?_
  .exact(E.o).d8 (((((O.refl kJ w).alloc _).alloc _)).drew) (fun h=>h)
  .exact(K.o).d8 (((((O.refl kJ w).alloc _).alloc _)).drew) (fun h=>h)
  rintro e B ⟨rfl,y,p⟩;have d:B.heap[w.heap.size]? =T (.cells #[.string {data:=#[]},G A 0,G A 0] 49 (0,0)):=by rw[p.block w.heap.size (by simp;omega) (by omega)];exact(iC _ _ _ (by simp)).trans (heap_alloc_new w _)
  have s:=Ak d 0;have u:=Ak d 1;have x:=Ak d 2;have N:=Az d 0;have P:=Az d 1;have Q:=Az d 2;simp only[gR,gP,gQ]at s u x;have S:=Ae d;have F:D (AJ f q g n j a (T b) B):=y;have C:=(((O.refl (fun k=>k=f) w).alloc _).alloc _).drew.trans p;clear y p d;go_wp2;refine gZ (v:=JW MH) (by simp[results,results52,go_sem,JW,MH,s,u,x];rfl) rfl ⟨rfl,?_,?_⟩
  .exact F.o.d8 (X:=fun k=>k=w.heap.size) (by repeat(first|exact O.refl _ _|refine O.drew ?_|refine O.alloc ?_ _|refine O.t9 ?_ _ _)) (by omega)
  .repeat(first|exact C|refine O.drew ?_|refine O.alloc ?_ _|refine O.cO ?_ _ _ (gS _))
 |none=>
  simp only[Gh]at I;by_cases z:(tokAt c a).sort=i
  .have R:(((tokAt c a).sort:Int) !=(i:Int))=false:=by simp[z]
   have o:Dl c a Z i=(tokAt c a,a+1,Z):=by simp[Dl,z]
   rw[o];clear o z;generalize tokAt c a=t at*;go_enter func52,ntmps52;go_wp2;go_region;go_wp2;refine gZ (v:=JW t) (by simp[results,results52,go_sem,JW]) rfl ⟨rfl,?_,?_⟩
   .refine AJ.d8 (X:=kJ) (w:=w.setCell ⟨f,1,Z⟩ (G A ((a:Int)+1))) ?_ (((O.refl _ _).alloc _).alloc _).drew (fun h=>h);have:=FQ (w:=w) E.o 1 (G A ((a:Int)+1));simpa[AJ]using this
   .repeat(first|exact O.refl _ _|refine O.drew ?_|refine O.alloc ?_ _|refine O.t9 ?_ _ _)
  .have R:(((tokAt c a).sort:Int) !=(i:Int))=true:=by simp;omega
   have o:Dl c a Z i=(MH,a,FI Z (tokAt c a).pos):=by simp[Dl,z]
   rw[o];clear o z;have HP:D (FI Z (tokAt c a).pos=T (tokAt c a).pos):=rfl;generalize l:tokAt c a=t at*;have M:D (tokAt c a=t):=l;clear l;go_enter func52,ntmps52;go_wp2;go_region;go_wp2_with fail;refine(LS f q g n j a Z c _ ?_ ?_ H).mono ?_
   .exact(E.o).d8 (((((O.refl kJ w).alloc _).alloc _)).drew) (fun h=>h)
   .exact(K.o).d8 (((((O.refl kJ w).alloc _).alloc _)).drew) (fun h=>h)
   rw[M.o];rintro e B ⟨rfl,y,p⟩;have d:B.heap[w.heap.size]? =T (.cells #[.string {data:=#[]},G A 0,G A 0] 49 (0,0)):=by rw[p.block w.heap.size (by simp;omega) (by omega)];exact(iC _ _ _ (by simp)).trans (heap_alloc_new w _)
   have s:=Ak d 0;have u:=Ak d 1;have x:=Ak d 2;have N:=Az d 0;have P:=Az d 1;have Q:=Az d 2;simp only[gR,gP,gQ]at s u x;have S:=Ae d;have F:D (AJ f q g n j a (FI Z t.pos) B):=y;have C:=(((O.refl (fun k=>k=f) w).alloc _).alloc _).drew.trans p;clear y p d;go_wp2;refine gZ (v:=JW MH) (by simp[results,results52,go_sem,JW,MH,s,u,x];rfl) rfl ⟨rfl,?_,?_⟩
   .exact F.o.d8 (X:=fun k=>k=w.heap.size) (by repeat(first|exact O.refl _ _|refine O.drew ?_|refine O.alloc ?_ _|refine O.t9 ?_ _ _)) (by omega)
   .repeat(first|exact C|refine O.drew ?_|refine O.alloc ?_ _|refine O.cO ?_ _ _ (gS _))
theorem Tryz.infoTk:(Tryz.prog.info? 49).map (fun i=>(i.zero,i.size,i.bytes))=T (T (.agg #[.string ByteArray.empty,G A 0,G A 0]),3,32):=by kernel_rfl
theorem LD(w:World)(a b c:Value)(t:TypeId):∀j u,[a,b,c][j]? =T u->(w.alloc (.cells #[a,b,c] t)).cell? ((⟨w.heap.size,0,Z⟩:Addr).add j)=T u:=by
 intro j u h;rcases j with _|_|_|j
 .simp at h;subst h;simp[Addr.add]
 .simpa[Addr.add]using h
 .simpa[Addr.add]using h
 .simp at h
theorem De{w:World}{g:Nat}(d:g=w.heap.size)(a b c:Value)(t:TypeId):∀j u,[a,b,c][j]? =T u->(w.alloc (.cells #[a,b,c] t)).cell? ((⟨g,0,Z⟩:Addr).add j)=T u:=by subst d;exact LD w a b c t
def YT(w:World)(s:ByteArray)(V:Nat ⊕ List Tk)(e:Ending)(a:World):Prop:=
 match V with
 |.inl p=>e=.returned (.tuple #[Y Z 0 0,G A p,.bool false])/\Below w.heap.size w a
 |.inr l=>∃v,e=.returned (.tuple #[v,G A 0,.bool true])/\a.ownsRow w.heap.size 49 3 v (l.length+1) (Bh (l++[⟨ByteArray.empty,s.size,0⟩]))/\Below w.heap.size w a
theorem Ga(s)(q:s.size<=4000)(w):
 Calls prog 17 #[.string s] w fun e b=>YT w s (BD s s.size 0 []) e b:=by
 obtain⟨i0,S,U,X,a0⟩:=info_parts Tryz.infoTk;generalize hV:BD s s.size 0 []=V;have HV:D (BD s s.size 0 []=V):=hV;clear hV;go_enter func17,ntmps17;go_wp2;go_loopw[5,6] (fun v j wr=>∃(k f:Nat) (c:List Tk),k<=s.size/\c.length<=k/\j=G A k/\wr.ownsRow w.heap.size 49 3 v c.length (Bh c)/\Below w.heap.size w wr/\s.size-k<=f/\D (BD s f k c=V)) (fun _ j _=>s.size-(intOf j).toNat)
 case atStart=>exact⟨0,s.size,[],by omega,by simp,rfl,iB _ _ _ _,Below.refl _ _,by omega,HV⟩
 case round=>
  obtain⟨k,f,c,P,a6,rfl,r,d,E,i⟩:=hrel;clear HV;by_cases h:k<s.size
  .have b4:=Ff s k h;by_cases l:(A7 s k).2=0
   .have K:V=.inl k:=by rw[<-i.o,DC (p:=k) E h (by unfold Bb;rw[jR l])]
    subst K;have a5:(((A7 s k).2:Int)==0)=true:=by simp[l]
    clear i l;go_wp2_with(first|(go_at_call 45;refine(BY _ _ ?_ ?_ _).mono ?_;exact h;exact q;rintro e b ⟨rfl,a⟩;have a:=a.symm;subst a)|(go_at_call 46;refine(Bz _ _).mono ?_;rintro e b ⟨rfl,a⟩;have a:=a.symm;subst a)|(go_at_call 47;refine(Dc _ _).mono ?_;rintro e b ⟨rfl,a⟩;have a:=a.symm;subst a));go_ret3;exact⟨rfl,d⟩
   .have a5:(((A7 s k).2:Int)==0)=false:=by simp[l]
    by_cases g:(A7 s k).1=32\/(A7 s k).1=9\/(A7 s k).1=10
    .obtain⟨m,z,o⟩:=CO (acc:=c) E h (t:=Z) (j:=k+1) (by unfold Bb;rw[jQ l,jR g]);have y:D (BD s m (k+1) c=V):=by rw[show c=c++(Z:Option Tk).toList from by simp,<-o];exact i.o
     clear i o;rcases g with g|g|g
     .have e1:(((A7 s k).1:Int)==32)=true:=by simp[g]
      clear g;go_wp2_with(first|(go_at_call 45;refine(BY _ _ ?_ ?_ _).mono ?_;exact h;exact q;rintro e b ⟨rfl,a⟩;have a:=a.symm;subst a)|(go_at_call 46;refine(Bz _ _).mono ?_;rintro e b ⟨rfl,a⟩;have a:=a.symm;subst a)|(go_at_call 47;refine(Dc _ _).mono ?_;rintro e b ⟨rfl,a⟩;have a:=a.symm;subst a));go_roundw
      case rel=>exact⟨k+1,m,c,by omega,by omega,by go_num,r,d,z,y⟩
      case measure=>simp[intOf];omega
     .have e1:(((A7 s k).1:Int)==32)=false:=by simp[g]
      have e2:(((A7 s k).1:Int)==9)=true:=by simp[g]
      clear g;go_wp2_with(first|(go_at_call 45;refine(BY _ _ ?_ ?_ _).mono ?_;exact h;exact q;rintro e b ⟨rfl,a⟩;have a:=a.symm;subst a)|(go_at_call 46;refine(Bz _ _).mono ?_;rintro e b ⟨rfl,a⟩;have a:=a.symm;subst a)|(go_at_call 47;refine(Dc _ _).mono ?_;rintro e b ⟨rfl,a⟩;have a:=a.symm;subst a));go_roundw
      case rel=>exact⟨k+1,m,c,by omega,by omega,by go_num,r,d,z,y⟩
      case measure=>simp[intOf];omega
     .have e1:(((A7 s k).1:Int)==32)=false:=by simp[g]
      have e2:(((A7 s k).1:Int)==9)=false:=by simp[g]
      have e3:(((A7 s k).1:Int)==10)=true:=by simp[g]
      clear g;go_wp2_with(first|(go_at_call 45;refine(BY _ _ ?_ ?_ _).mono ?_;exact h;exact q;rintro e b ⟨rfl,a⟩;have a:=a.symm;subst a)|(go_at_call 46;refine(Bz _ _).mono ?_;rintro e b ⟨rfl,a⟩;have a:=a.symm;subst a)|(go_at_call 47;refine(Dc _ _).mono ?_;rintro e b ⟨rfl,a⟩;have a:=a.symm;subst a));go_roundw
      case rel=>exact⟨k+1,m,c,by omega,by omega,by go_num,r,d,z,y⟩
      case measure=>simp[intOf];omega
    .have e1:(((A7 s k).1:Int)==32)=false:=by simp;omega
     have e2:(((A7 s k).1:Int)==9)=false:=by simp;omega
     have e3:(((A7 s k).1:Int)==10)=false:=by simp;omega
     by_cases n:(A7 s k).1=35
     .have e4:(((A7 s k).1:Int)==35)=true:=by simp[n]
      have a9:=LI s s.size k P;by_cases a1:(Gd s s.size k).2=true
      .have a3:Bb s k=.inr (Z,(Gd s s.size k).1):=by unfold Bb;rw[jQ l,jQ g,jR n,jR a1]
       have a7:=G7 h a3;obtain⟨m,z,o⟩:=CO (acc:=c) E h a3;have y:D (BD s m (Gd s s.size k).1 c=V):=by rw[show c=c++(Z:Option Tk).toList from by simp,<-o];exact i.o
       clear i o a3 n g l;go_wp2_with(first|(go_at_call 45;refine(BY _ _ ?_ ?_ _).mono ?_;exact h;exact q;rintro e b ⟨rfl,a⟩;have a:=a.symm;subst a)|(go_at_call 46;refine(Bz _ _).mono ?_;rintro e b ⟨rfl,a⟩;have a:=a.symm;subst a)|(go_at_call 47;refine(Dc _ _).mono ?_;rintro e b ⟨rfl,a⟩;have a:=a.symm;subst a)|(go_at_call 48;refine(Kx s k s.size ?_ ?_ ?_ _).mono ?_;exact P;exact q;omega;rintro e b ⟨rfl,a⟩;have a:=a.symm;subst a));go_roundw
       case rel=>exact⟨(Gd s s.size k).1,m,c,by omega,by omega,by go_num,r,d,z,y⟩
       case measure=>simp[intOf];omega
      .have K:V=.inl (Gd s s.size k).1:=by rw[<-i.o,DC (p:=(Gd s s.size k).1) E h (by unfold Bb;rw[jQ l,jQ g,jR n,jQ a1])]
       subst K;have a8:(Gd s s.size k).2=false:=by simpa using a1
       clear i n g l a1;go_wp2_with(first|(go_at_call 45;refine(BY _ _ ?_ ?_ _).mono ?_;exact h;exact q;rintro e b ⟨rfl,a⟩;have a:=a.symm;subst a)|(go_at_call 46;refine(Bz _ _).mono ?_;rintro e b ⟨rfl,a⟩;have a:=a.symm;subst a)|(go_at_call 47;refine(Dc _ _).mono ?_;rintro e b ⟨rfl,a⟩;have a:=a.symm;subst a)|(go_at_call 48;refine(Kx s k s.size ?_ ?_ ?_ _).mono ?_;exact P;exact q;omega;rintro e b ⟨rfl,a⟩;have a:=a.symm;subst a));go_ret3;exact⟨rfl,d⟩
     .have e4:(((A7 s k).1:Int)==35)=false:=by simp;omega
      by_cases C:GI (A7 s k).1=true
      .have b7:=IY s s.size k 0 P;have b6:=NZ h l C;by_cases R:Vs (s.extract k (DA s s.size k 0).1).toList=true
       .obtain⟨m,z,o⟩:=CO (acc:=c) E h (t:=T ⟨s.extract k (DA s s.size k 0).1,k,2⟩) (j:=(DA s s.size k 0).1) (by unfold Bb;rw[jQ l,jQ g,jQ n,jR C,jR R]);have y:D (BD s m (DA s s.size k 0).1 (c++[⟨s.extract k (DA s s.size k 0).1,k,2⟩])=V):=by rw[show[(⟨s.extract k (DA s s.size k 0).1,k,2⟩:Tk)]=(T (⟨s.extract k (DA s s.size k 0).1,k,2⟩:Tk)).toList from by simp,<-o];exact i.o
        clear i o n g l;go_wp2_with(first|(go_at_call 45;refine(BY _ _ ?_ ?_ _).mono ?_;exact h;exact q;rintro e b ⟨rfl,a⟩;have a:=a.symm;subst a)|(go_at_call 46;refine(Bz _ _).mono ?_;rintro e b ⟨rfl,a⟩;have a:=a.symm;subst a)|(go_at_call 47;refine(Dc _ _).mono ?_;rintro e b ⟨rfl,a⟩;have a:=a.symm;subst a)|(go_at_call 49;refine(MQ s k s.size ?_ ?_ ?_ _).mono ?_;exact P;exact q;omega;rintro e b ⟨rfl,a⟩;have a:=a.symm;subst a)|(go_at_call 50;refine(G5 _ _).mono ?_;rintro e b ⟨rfl,a⟩;have a:=a.symm;subst a)|(at_builtin;refine jA _ rfl _ _ 38 rfl w.heap.size 49 i0 (.agg #[.string ByteArray.empty,G A 0,G A 0]) 3 32 underlying38 S U X a0 rfl (by decide) _ _ _ rfl ((r.alloc _).alloc _) ⟨wr.heap.size+1,0,Z⟩ 1 1 [.string (s.extract k (DA s s.size k 0).1),G A (k:Int),G A 2] rfl rfl (De (by simp) _ _ _ _) (fun x u=>by simp at u;rcases u with rfl|rfl|rfl<;>rfl) (by unfold maxLen;omega) (by omega) (by have:=d.size;simp;omega) ?_;intro v' L I B N));have F:Below w.heap.size w L:=Below.grown ((d.alloc d.size _).alloc (by have:=d.size;simp;omega) _) B (by have:=d.size;simp;omega) (fun j H=>(r.lt j H).1);clear B N;go_wp2;go_roundw
        case rel=>exact⟨(DA s s.size k 0).1,m,c++[⟨s.extract k (DA s s.size k 0).1,k,2⟩],by omega,by simp;omega,by go_num,by rw[Dh,gW];exact I,F,z,y⟩
        case measure=>simp[intOf];omega
       .have b2:Vs (s.extract k (DA s s.size k 0).1).toList=false:=by simpa using R
        by_cases a4:8<(DA s s.size k 0).2
        .have K:V=.inl k:=by rw[<-i.o,DC (p:=k) E h (by unfold Bb;rw[jQ l,jQ g,jQ n,jR C,jQ R,jR a4])]
         subst K;clear i n g l R;go_wp2_with(first|(go_at_call 45;refine(BY _ _ ?_ ?_ _).mono ?_;exact h;exact q;rintro e b ⟨rfl,a⟩;have a:=a.symm;subst a)|(go_at_call 46;refine(Bz _ _).mono ?_;rintro e b ⟨rfl,a⟩;have a:=a.symm;subst a)|(go_at_call 47;refine(Dc _ _).mono ?_;rintro e b ⟨rfl,a⟩;have a:=a.symm;subst a)|(go_at_call 49;refine(MQ s k s.size ?_ ?_ ?_ _).mono ?_;exact P;exact q;omega;rintro e b ⟨rfl,a⟩;have a:=a.symm;subst a)|(go_at_call 50;refine(G5 _ _).mono ?_;rintro e b ⟨rfl,a⟩;have a:=a.symm;subst a));go_ret3;exact⟨rfl,d.alloc d.size _⟩
        .obtain⟨m,z,o⟩:=CO (acc:=c) E h (t:=T ⟨s.extract k (DA s s.size k 0).1,k,1⟩) (j:=(DA s s.size k 0).1) (by unfold Bb;rw[jQ l,jQ g,jQ n,jR C,jQ R,jQ a4]);have y:D (BD s m (DA s s.size k 0).1 (c++[⟨s.extract k (DA s s.size k 0).1,k,1⟩])=V):=by rw[show[(⟨s.extract k (DA s s.size k 0).1,k,1⟩:Tk)]=(T (⟨s.extract k (DA s s.size k 0).1,k,1⟩:Tk)).toList from by simp,<-o];exact i.o
         clear i o n g l R;go_wp2_with(first|(go_at_call 45;refine(BY _ _ ?_ ?_ _).mono ?_;exact h;exact q;rintro e b ⟨rfl,a⟩;have a:=a.symm;subst a)|(go_at_call 46;refine(Bz _ _).mono ?_;rintro e b ⟨rfl,a⟩;have a:=a.symm;subst a)|(go_at_call 47;refine(Dc _ _).mono ?_;rintro e b ⟨rfl,a⟩;have a:=a.symm;subst a)|(go_at_call 49;refine(MQ s k s.size ?_ ?_ ?_ _).mono ?_;exact P;exact q;omega;rintro e b ⟨rfl,a⟩;have a:=a.symm;subst a)|(go_at_call 50;refine(G5 _ _).mono ?_;rintro e b ⟨rfl,a⟩;have a:=a.symm;subst a)|(at_builtin;refine jA _ rfl _ _ 38 rfl w.heap.size 49 i0 (.agg #[.string ByteArray.empty,G A 0,G A 0]) 3 32 underlying38 S U X a0 rfl (by decide) _ _ _ rfl ((r.alloc _).alloc _) ⟨wr.heap.size+1,0,Z⟩ 1 1 [.string (s.extract k (DA s s.size k 0).1),G A (k:Int),G A 1] rfl rfl (De (by simp) _ _ _ _) (fun x u=>by simp at u;rcases u with rfl|rfl|rfl<;>rfl) (by unfold maxLen;omega) (by omega) (by have:=d.size;simp;omega) ?_;intro v' L I B N));have F:Below w.heap.size w L:=Below.grown ((d.alloc d.size _).alloc (by have:=d.size;simp;omega) _) B (by have:=d.size;simp;omega) (fun j H=>(r.lt j H).1);clear B N;go_wp2;go_roundw
         case rel=>exact⟨(DA s s.size k 0).1,m,c++[⟨s.extract k (DA s s.size k 0).1,k,1⟩],by omega,by simp;omega,by go_num,by rw[Dh,gW];exact I,F,z,y⟩
         case measure=>simp[intOf];omega
      .have b3:GI (A7 s k).1=false:=by simpa using C
       by_cases M:48<=(A7 s k).1/\(A7 s k).1<=51
       .have b0:48<=(A7 s k).1:=M.1;have b1:(A7 s k).1<=51:=M.2;obtain⟨m,z,o⟩:=CO (acc:=c) E h (t:=T ⟨s.extract k (k+1),k,3⟩) (j:=k+1) (by unfold Bb;rw[jQ l,jQ g,jQ n,jQ C,jR M]);have y:D (BD s m (k+1) (c++[⟨s.extract k (k+1),k,3⟩])=V):=by rw[show[(⟨s.extract k (k+1),k,3⟩:Tk)]=(T (⟨s.extract k (k+1),k,3⟩:Tk)).toList from by simp,<-o];exact i.o
        clear i o n g l C M;go_wp2_with(first|(go_at_call 45;refine(BY _ _ ?_ ?_ _).mono ?_;exact h;exact q;rintro e b ⟨rfl,a⟩;have a:=a.symm;subst a)|(go_at_call 46;refine(Bz _ _).mono ?_;rintro e b ⟨rfl,a⟩;have a:=a.symm;subst a)|(go_at_call 47;refine(Dc _ _).mono ?_;rintro e b ⟨rfl,a⟩;have a:=a.symm;subst a)|(at_builtin;refine jA _ rfl _ _ 38 rfl w.heap.size 49 i0 (.agg #[.string ByteArray.empty,G A 0,G A 0]) 3 32 underlying38 S U X a0 rfl (by decide) _ _ _ rfl (r.alloc _) ⟨wr.heap.size,0,Z⟩ 1 1 [.string (s.extract k (k+1)),G A (k:Int),G A 3] rfl rfl (De (by simp) _ _ _ _) (fun x u=>by simp at u;rcases u with rfl|rfl|rfl<;>rfl) (by unfold maxLen;omega) (by omega) (by have:=d.size;simp;omega) ?_;intro v' L I B N));have F:Below w.heap.size w L:=Below.grown (d.alloc d.size _) B (by have:=d.size;simp;omega) (fun j H=>(r.lt j H).1);clear B N;go_wp2;go_roundw
        case rel=>exact⟨k+1,m,c++[⟨s.extract k (k+1),k,3⟩],by omega,by simp;omega,by go_num,by rw[Dh,gW];exact I,F,z,y⟩
        case measure=>simp[intOf];omega
       .have Q:(A7 s k).1<48\/51<(A7 s k).1:=by omega
        by_cases a2:Hg (A7 s k).1=true
        .obtain⟨m,z,o⟩:=CO (acc:=c) E h (t:=T ⟨s.extract k (k+1),k,4⟩) (j:=k+1) (by unfold Bb;rw[jQ l,jQ g,jQ n,jQ C,jQ M,jR a2]);have y:D (BD s m (k+1) (c++[⟨s.extract k (k+1),k,4⟩])=V):=by rw[show[(⟨s.extract k (k+1),k,4⟩:Tk)]=(T (⟨s.extract k (k+1),k,4⟩:Tk)).toList from by simp,<-o];exact i.o
         clear i o n g l C M;rcases Q with Q|Q
         all_goals
          go_wp2_with(first|(go_at_call 45;refine(BY _ _ ?_ ?_ _).mono ?_;exact h;exact q;rintro e b ⟨rfl,a⟩;have a:=a.symm;subst a)|(go_at_call 46;refine(Bz _ _).mono ?_;rintro e b ⟨rfl,a⟩;have a:=a.symm;subst a)|(go_at_call 47;refine(Dc _ _).mono ?_;rintro e b ⟨rfl,a⟩;have a:=a.symm;subst a)|(at_builtin;refine jA _ rfl _ _ 38 rfl w.heap.size 49 i0 (.agg #[.string ByteArray.empty,G A 0,G A 0]) 3 32 underlying38 S U X a0 rfl (by decide) _ _ _ rfl (r.alloc _) ⟨wr.heap.size,0,Z⟩ 1 1 [.string (s.extract k (k+1)),G A (k:Int),G A 4] rfl rfl (De (by simp) _ _ _ _) (fun x u=>by simp at u;rcases u with rfl|rfl|rfl<;>rfl) (by unfold maxLen;omega) (by omega) (by have:=d.size;simp;omega) ?_;intro v' L I B N));have F:Below w.heap.size w L:=Below.grown (d.alloc d.size _) B (by have:=d.size;simp;omega) (fun j H=>(r.lt j H).1);clear B N;go_wp2;go_roundw
          case rel=>exact⟨k+1,m,c++[⟨s.extract k (k+1),k,4⟩],by omega,by simp;omega,by go_num,by rw[Dh,gW];exact I,F,z,y⟩
          case measure=>simp[intOf];omega
        .have K:V=.inl k:=by rw[<-i.o,DC (p:=k) E h (by unfold Bb;rw[jQ l,jQ g,jQ n,jQ C,jQ M,jQ a2])]
         subst K;have b5:Hg (A7 s k).1=false:=by simpa using a2
         clear i n g l C M a2;rcases Q with Q|Q
         all_goals
          go_wp2_with(first|(go_at_call 45;refine(BY _ _ ?_ ?_ _).mono ?_;exact h;exact q;rintro e b ⟨rfl,a⟩;have a:=a.symm;subst a)|(go_at_call 46;refine(Bz _ _).mono ?_;rintro e b ⟨rfl,a⟩;have a:=a.symm;subst a)|(go_at_call 47;refine(Dc _ _).mono ?_;rintro e b ⟨rfl,a⟩;have a:=a.symm;subst a));go_ret3;exact⟨rfl,d⟩
  .have K:V=.inr c:=by rw[<-i.o,Gy h]
   subst K;clear i;go_wp2_with((at_builtin;refine jA _ rfl _ _ 38 rfl w.heap.size 49 i0 (.agg #[.string ByteArray.empty,G A 0,G A 0]) 3 32 underlying38 S U X a0 rfl (by decide) _ _ _ rfl (r.alloc _) ⟨wr.heap.size,0,Z⟩ 1 1 [.string ByteArray.empty,G A (s.size:Int),G A 0] rfl rfl (De (by simp) _ _ _ _) (fun x u=>by simp at u;rcases u with rfl|rfl|rfl<;>rfl) (by unfold maxLen;omega) (by omega) (by have:=d.size;simp;omega) ?_;intro v' L I B N));have F:Below w.heap.size w L:=Below.grown (d.alloc d.size _) B (by have:=d.size;simp;omega) (fun j H=>(r.lt j H).1);go_wp2;go_ret3;exact⟨v',rfl,by rw[Dh];exact I,F⟩
def DN(d:List Tk):Nat->Nat->Option Nat->List Tk->List Tk×Nat×Option Nat
 |0,a,b,c=>(c,a,b)
 |f+1,a,b,c=>if b=Z/\(tokAt d a).sort=1 then DN d f (a+1) b (c++[tokAt d a])else(c,a,b)
theorem Gn{d f b a c}(h:¬(a=Z/\(tokAt d b).sort=1)):DN d f b a c=(c,b,a):=by
 cases f with
 |zero=>rfl
 |succ f=>simp only[DN,jQ h]
theorem Ti{b f a n c acc}(i:n-1-a<=f)(g:a<n)(e:(tokAt b (n-1)).sort=0)(h:c=Z/\(tokAt b a).sort=1):
 a+1<n/\∃d,n-1-(a+1)<=d/\DN b f a c acc=DN b d (a+1) c (acc++[tokAt b a]):=by
 have j:a≠n-1:=by rintro rfl;rw[e]at h;omega
 refine⟨by omega,?_⟩;cases f with
 |zero=>omega
 |succ f=>exact⟨f,by omega,by simp only[DN];rw[jR h]⟩
theorem Qa{d:List Tk}{n:Nat}(e:(tokAt d (n-1)).sort=0):∀(f a:Nat) (b:Option Nat) (c:List Tk),a<n->a<=(DN d f a b c).2.1/\(DN d f a b c).2.1<n/\(DN d f a b c).2.2=b
 |0,a,b,c,h=>by unfold DN;exact⟨gS _,h,rfl⟩
 |f+1,a,b,c,h=>by
  simp only[DN];split
  .rename_i g;have i:a≠n-1:=by rintro rfl;rw[e]at g;omega
   have:=Qa e f (a+1) b (c++[tokAt d a]) (by omega);exact⟨by omega,this.2⟩
  .exact⟨gS _,h,rfl⟩
def NM(a:Nat)(w:World):Nat:=match w.cell? ⟨a,1,Z⟩with|some v=>(intOf v).toNat|none=>0
theorem Mq{b e g n d a c w}(h:AJ b e g n d a c w):NM b w=a:=by have:=Ak h 1;simp only[gR,gP,gQ]at this;simp[NM,this,intOf]
def CU(a:List Tk)(c:Nat)(b:Option Nat):List Tk×Nat×Option Nat:=
 ((DN a a.length c b []).1,Fi a (DN a a.length c b []).2.1 (DN a a.length c b []).2.2 [41])
theorem PY(c s g n d q o a w)(l:AJ c s g n d q o w)(m:AP g n d a w)(hc:q<n)(hz:(tokAt a (n-1)).sort=0):
 Calls prog 53 #[.pointer (T ⟨c,0,Z⟩)] w fun e N=>∃v,e=.returned v/\N.ownsRow w.heap.size 49 3 v (CU a q o).1.length (Bh (CU a q o).1)/\AJ c s g n d (CU a q o).2.1 (CU a q o).2.2 N/\O (fun k=>k=c) w N:=by
 obtain⟨i0,hi,b7,b8,b9⟩:=info_parts Tryz.infoTk;have hn:=m.2.2;have a4:=m.2.1;have b4:=m.ne l (by decide);have lr:=Ae l;have lg:g<w.heap.size:=(m.1.lt g rfl).2;unfold CU;generalize hV:DN a a.length q o []=V;have HV:D (DN a a.length q o []=V):=hV;have HZ:D ((tokAt a (n-1)).sort=0):=hz;have P:D (AJ c s g n d q o w):=l;have S:D (AP g n d a w):=m;have a8:D (n=a.length):=a4;clear hV hz l m a4;go_enter func53,ntmps53;go_wp2;go_loopw[3] (fun v wr=>∃(k f:Nat) (i:List Tk),k<n/\i.length<=k/\D (AJ c s g n d k o wr)/\D (AP g n d a wr)/\wr.ownsRow w.heap.size 49 3 v i.length (Bh i)/\O (fun k=>k=c) w wr/\n-1-k<=f/\D (DN a f k o i=V)) (fun _ wr=>n-NM c wr)
 case atStart=>exact⟨q,a.length,[],hc,by simp,P,S,iB _ _ _ _,O.refl _ _,by have:=a8.o;omega,HV⟩
 case round=>
  obtain⟨k,f,i,E,c1,l,m,u,K,hf,z⟩:=hrel;clear HV P S;obtain⟨t0,t1,t2⟩:=m.o.cells E;have r0:=Ak l.o 0;have r1:=Ak l.o 1;have I:=Ak l.o 2;simp only[gR,gP,gQ]at r0 r1 I;have a1:=Mq l.o;have a6:D (NM c wr=k):=a1;clear a1;cases o with
  |some b=>
   simp only[Gh]at I;have hb:decide ((b:Int)<0)=false:=by simp
   have M:V=(i,k,T b):=by rw[<-z.o,Gn (by simp)]
   subst M;clear z;go_wp2_with fail;go_quiet(fail);go_wp2_with fail;refine(Jl c s g n d k (T b) a _ [41] (by simp) (wr.drewN nq) l.o m.o E).mono ?_;rintro e t ⟨rfl,y,r⟩;go_wp2_with fail;go_ret;refine⟨_,rfl,?_,y,(K.drewN nq).trans r⟩;exact Ac (w:=wr.drewN nq) u r (fun j p=>by have:=(u.lt j p).1;omega)
  |none=>
   simp only[Gh]at I;by_cases C:(tokAt a k).sort=1
   .have a0:(((tokAt a k).sort:Int)==1)=true:=by simp[C]
    obtain⟨b3,f',b1,a2⟩:=Ti (acc:=i) hf E HZ.o ⟨rfl,C⟩;have HF:D (DN a f' (k+1) Z (i++[tokAt a k])=V):=by rw[<-a2];exact z.o
    have HG:D (Dl a k Z 1=(tokAt a k,k+1,Z)):=by show _=_;simp[Dl,C]
    clear z a2 C;go_wp2_with fail;go_quiet(fail);go_wp2_with fail;refine(Lf c s g n d k 1 Z a (wr.drewN nq) l.o m.o E).mono ?_;rw[HG.o];rintro e t ⟨rfl,y,r⟩;have F:=Ac (w:=wr.drewN nq) u r (fun j p=>by have:=(u.lt j p).1;omega);have L:=(K.drewN nq).trans r;have Q:D (AJ c s g n d (k+1) Z t):=y;have U:D (AP g n d a t):=(AP.d8 (w:=wr.drewN nq) m.o r b4);have c2:=L.size;have c0:c<t.heap.size:=Ae y;clear y r t0 t1 t2 r0 r1 I l m a0;unfold JW;go_wp2_with(at_builtin;refine jA _ rfl _ _ 38 rfl w.heap.size 49 i0 (.agg #[.string ByteArray.empty,G A 0,G A 0]) 3 32 underlying38 hi b7 b8 b9 rfl (by decide) _ _ _ rfl ((F.alloc _).alloc _) ⟨t.heap.size+1,0,Z⟩ 1 1 [.string (tokAt a k).d9,G A ((tokAt a k).pos:Int),G A ((tokAt a k).sort:Int)] rfl rfl (De (by simp) _ _ _ _) (fun x hx=>by simp at hx;rcases hx with rfl|rfl|rfl<;>rfl) (by unfold maxLen;omega) (by omega) (by simp;omega) ?_;intro v' B a5 H b5);have b6:O (fun k=>k=c) w B:=O.grown ((L.alloc _).alloc _) H (fun j p=>.inr (F.lt j p).1);have a3:∀j,j<t.heap.size->T j≠u3.ownBlock->B.heap[j]? =t.heap[j]? :=fun j p b2=>(H.block j (by simp;omega) b2).trans ((iC _ _ _ (by simp;omega)).trans (iC _ _ _ p))
    have R:D (AJ c s g n d (k+1) Z B):=by show _=_;rw[a3 c c0 (fun h=>by have:=(F.lt _ h.symm).1;omega)];exact Q.o
    have b0:D (AP g n d a B):=by refine AP.d8 (w:=t) (X:=fun j=>u3.ownBlock=T j) U.o ?_ (fun h=>by have:=(F.lt _ h).1;omega);exact O.grown (((O.refl _ _).alloc _).alloc _) H (fun j p=>.inl p)
    have a9:D (B.ownsRow w.heap.size 49 3 v' (i.length+1) (Bh i++CH (tokAt a k))):=a5;have a7:D (NM c B=k+1):=Mq R.o;clear H b5 a5 a3 u F Q U L;go_wp2;go_roundw
    case rel=>exact⟨k+1,f',i++[tokAt a k],b3,by simp;omega,R,b0,by rw[Dh,gW];exact a9.o,b6,b1,HF⟩
    case measure=>rw[a7.o,a6.o];omega
   .have a0:(((tokAt a k).sort:Int)==1)=false:=by simp;omega
    have M:V=(i,k,Z):=by rw[<-z.o,Gn (fun h=>C h.2)]
    subst M;clear z;go_wp2_with fail;go_quiet(fail);go_wp2_with fail;refine(Jl c s g n d k Z a _ [41] (by simp) (wr.drewN nq) l.o m.o E).mono ?_;rintro e t ⟨rfl,y,r⟩;go_wp2_with fail;go_ret;refine⟨_,rfl,?_,y,(K.drewN nq).trans r⟩;exact Ac (w:=wr.drewN nq) u r (fun j p=>by have:=(u.lt j p).1;omega)
def AG(t:Tk):List UInt8:=if t.sort=2\/t.sort=4 then t.d9.toList else[]
structure St where
 cJ:Nat
 cL:Option Nat
 pl:Nat
 ca:Nat
def Aw(d:List Tk)(l:List UInt8)(x:St):St:=⟨(Fi d x.cJ x.cL l).1,(Fi d x.cJ x.cL l).2,x.pl,x.ca⟩
def Bo(d:List Tk)(a:Nat)(x:St):Tk×St:=((Dl d x.cJ x.cL a).1,⟨(Dl d x.cJ x.cL a).2.1,(Dl d x.cJ x.cL a).2.2,x.pl,x.ca⟩)
def Cb(d:List Tk)(x:St):List Tk×St:=((CU d x.cJ x.cL).1,⟨(CU d x.cJ x.cL).2.1,(CU d x.cJ x.cL).2.2,x.pl,x.ca⟩)
theorem We{d n a b c}(g:(tokAt d (n-1)).sort=0)(k:b≠0)(e:a<n):a<=(Dl d a c b).2.1/\(Dl d a c b).2.1<n:=by
 unfold Dl;split
 .rename_i h;have i:a≠n-1:=by rintro rfl;rw[g]at h;omega
  exact⟨by simp,by simp only;omega⟩
 .exact⟨gS _,e⟩
theorem Us{d n a b}(g:(tokAt d (n-1)).sort=0)(h:a<n):a<=(CU d a b).2.1/\(CU d a b).2.1<n:=by have c:=Qa g d.length a b [] h;have e:=Pu (bad:=(DN d d.length a b []).2.2) (l:=[41]) g c.2.1;unfold CU;exact⟨iG c.1 e.1,e.2⟩
def Pt(l:List UInt8)(a:Nat):Nat->Nat
 |0=>a
 |k+1=>if l=[UInt8.ofNat (48+k)]then k else Pt l a k
def Dd(d:List Tk)(x:St)(s:FS):FS×St:=
 if AG (tokAt d x.cJ)=[110,101,119]then
  let b:=Aw d [110,101,119] x
  ({s with kind:=2,l7:=b.pl+1},{b with pl:=b.pl+1})
 else if AG (tokAt d x.cJ)=[38]then
  let b:=Aw d [38] x
  let a:=Bo d 1 b
  if Bu a.2.cL (tokAt d a.2.cJ) [46]=true then
   let m:=Aw d [46] a.2
   let k:=Bo d 3 m
   ({s with kind:=4,q:=a.1,field:=Pt k.1.d9.toList s.field 4},k.2)
  else({s with kind:=3,q:=a.1},a.2)
 else if AG (tokAt d x.cJ)=[42]then
  let b:=Aw d [42] x
  let a:=Bo d 1 b
  ({s with kind:=5,q:=a.1},a.2)
 else if AG (tokAt d x.cJ)=[64]then
  let b:=Aw d [64] x
  let a:=Bo d 1 b
  ({s with kind:=6,q:=a.1},a.2)
 else if AG (tokAt d x.cJ)=[40]then
  let b:=Aw d [40] x
  let g:=Aw d [42] b
  let e:=Bo d 1 g
  let n:=Aw d [41] e.2
  let h:=Aw d [40] n
  let i:St:={h with ca:=h.ca+1}
  let l:=Cb d i
  ({s with kind:=9,q:=e.1,l7:=i.ca,args:=l.1},l.2)
 else
  let c:=Bo d 1 x
  if Bu c.2.cL (tokAt d c.2.cJ) [40]=true then
   let g:=Aw d [40] c.2
   let e:=Cb d g
   ({s with kind:=8,q:=c.1,args:=e.1},e.2)
  else({s with kind:=7,q:=c.1},c.2)
def Br(s:FS)(a b c:Value):Array Value:=
 #[G A s.kind,.string s.p.d9,G A s.p.pos,G A s.p.sort,.string s.q.d9,G A s.q.pos,G A s.q.sort,G A s.field,a,G A s.l7,b,c,G A s.br,G A s.dR,G A s.dD]
def Cg(f:Nat)(p v:Value)(b a:Nat)(w:World):Prop:=w.heap[f]? =T (.cells #[p,v,G A b,G A a] 47 (0,0))
theorem Cg.cI{f p v b a w}(h:Cg f p v b a w):W f #[p,v,G A b,G A a] 47 w:=h
theorem AJ.cI{j f g n o b a w}(h:AJ j f g n o b a w):W j #[Y (T ⟨g,0,Z⟩) n o,G A b,G A (Gh a),.pointer (T ⟨f,0,Z⟩)] 143 w:=h
structure VF(j f y B g n o:Nat)(d:List Tk)(p v:Value)(x:St)(E C:Array Value)(w:World):Prop where
 rd:AJ j f g n o x.cJ x.cL w
 tk:AP g n o d w
 pr:Cg f p v x.pl x.ca w
 sx:W y E 92 w
 ox:W B C 92 w
 ne:y≠B
section
variable{j f y B g n o:Nat}{d:List Tk}{p v:Value}{x:St}{E C:Array Value}{w F:World}
theorem VF.eA(h:VF j f y B g n o d p v x E C w):g≠j/\f≠j/\y≠j/\B≠j/\g≠f/\y≠f/\B≠f/\g≠y/\g≠B:=
 ⟨h.tk.ne h.rd (by decide),h.pr.cI.ne h.rd.cI (by decide),h.sx.ne h.rd.cI (by decide),h.ox.ne h.rd.cI (by decide),h.tk.ne h.pr (by decide),h.sx.ne h.pr.cI (by decide),h.ox.ne h.pr.cI (by decide),h.tk.ne h.sx (by decide),h.tk.ne h.ox (by decide)⟩
theorem VF.call{c b}(h:VF j f y B g n o d p v x E C w)(e:O (fun k=>k=j) w F)(i:AJ j f g n o c b F):VF j f y B g n o d p v ⟨c,b,x.pl,x.ca⟩ E C F:=by have a:=h.eA;exact⟨i,h.tk.d8 e a.1,h.pr.cI.d8 e a.2.1,h.sx.d8 e a.2.2.1,h.ox.d8 e a.2.2.2.1,h.ne⟩
theorem VF.quiet(h:VF j f y B g n o d p v x E C w)(a:O kJ w F):VF j f y B g n o d p v x E C F:=
 ⟨h.rd.d8 a id,h.tk.d8 a id,h.pr.cI.d8 a id,h.sx.d8 a id,h.ox.d8 a id,h.ne⟩
theorem VF.cU(h:VF j f y B g n o d p v x E C w)(i u):VF j f y B g n o d p v x (E.setIfInBounds i u) C (w.setCell ⟨y,i,Z⟩ u):=by have a:=h.eA;exact⟨h.rd.cI.dA i u a.2.2.1.symm,h.tk.d8 ((O.refl (fun k=>k=y) w).t9 i u) a.2.2.2.2.2.2.2.1,h.pr.cI.dA i u a.2.2.2.2.2.1.symm,h.sx.set i u,h.ox.dA i u h.ne.symm,h.ne⟩
theorem VF.eV(h:VF j f y B g n o d p v x E C w)(m):VF j f y B g n o d p v ⟨x.cJ,x.cL,m,x.ca⟩ E C (w.setCell ⟨f,2,Z⟩ (G A m)):=by have a:=h.eA;exact⟨h.rd.cI.dA 2 _ a.2.1.symm,h.tk.d8 ((O.refl (fun k=>k=f) w).t9 2 _) a.2.2.2.2.1,h.pr.cI.set 2 _,h.sx.dA 2 _ a.2.2.2.2.2.1,h.ox.dA 2 _ a.2.2.2.2.2.2.1,h.ne⟩
theorem VF.fM(h:VF j f y B g n o d p v x E C w){u:Int}{m:Nat}(a:u=m):VF j f y B g n o d p v ⟨x.cJ,x.cL,m,x.ca⟩ E C (w.setCell ⟨f,2,Z⟩ (G A u)):=by subst a;exact h.eV m
theorem VF.eU(h:VF j f y B g n o d p v x E C w)(m):VF j f y B g n o d p v ⟨x.cJ,x.cL,x.pl,m⟩ E C (w.setCell ⟨f,3,Z⟩ (G A m)):=by have a:=h.eA;exact⟨h.rd.cI.dA 3 _ a.2.1.symm,h.tk.d8 ((O.refl (fun k=>k=f) w).t9 3 _) a.2.2.2.2.1,h.pr.cI.set 3 _,h.sx.dA 3 _ a.2.2.2.2.2.1,h.ox.dA 3 _ a.2.2.2.2.2.2.1,h.ne⟩
theorem VF.fL(h:VF j f y B g n o d p v x E C w){u:Int}{m:Nat}(a:u=m):VF j f y B g n o d p v ⟨x.cJ,x.cL,x.pl,m⟩ E C (w.setCell ⟨f,3,Z⟩ (G A u)):=by subst a;exact h.eU m
theorem VF.dP{L a}(h:VF j f y B g n o d p v x E C w)(e:Aw d L x=a)(b:O (fun k=>k=j) w F)(c:AJ j f g n o (Fi d x.cJ x.cL L).1 (Fi d x.cJ x.cL L).2 F):VF j f y B g n o d p v a E C F:=by subst e;exact h.call b c
theorem VF.get{k q a}(h:VF j f y B g n o d p v x E C w)(i:Bo d k x=(q,a))(b:O (fun k=>k=j) w F)(c:AJ j f g n o (Dl d x.cJ x.cL k).2.1 (Dl d x.cJ x.cL k).2.2 F):VF j f y B g n o d p v a E C F:=by have e:a=⟨(Dl d x.cJ x.cL k).2.1,(Dl d x.cJ x.cL k).2.2,x.pl,x.ca⟩:=(congrArg Prod.snd i).symm;subst e;exact h.call b c
theorem VF.list{q a}(h:VF j f y B g n o d p v x E C w)(i:Cb d x=(q,a))(b:O (fun k=>k=j) w F)(c:AJ j f g n o (CU d x.cJ x.cL).2.1 (CU d x.cJ x.cL).2.2 F):VF j f y B g n o d p v a E C F:=by have e:a=⟨(CU d x.cJ x.cL).2.1,(CU d x.cJ x.cL).2.2,x.pl,x.ca⟩:=(congrArg Prod.snd i).symm;subst e;exact h.call b c
end
theorem Ci{d n x a L}(c:Aw d L x=a)(e:(tokAt d (n-1)).sort=0)(b:x.cJ<n):a.cJ<n:=by subst c;exact(Pu e b).2
theorem ED{d n k x a q}(g:Bo d k x=(q,a))(c:k≠0)(h:(tokAt d (n-1)).sort=0)(b:x.cJ<n):a.cJ<n:=by have e:a.cJ=(Dl d x.cJ x.cL k).2.1:=congrArg (fun z=>z.2.cJ) g.symm;rw[e];exact(We h c b).2
theorem EY{d n x a q}(c:Cb d x=(q,a))(g:(tokAt d (n-1)).sort=0)(b:x.cJ<n):a.cJ<n:=by have e:a.cJ=(CU d x.cJ x.cL).2.1:=congrArg (fun z=>z.2.cJ) c.symm;rw[e];exact(Us g b).2
theorem O.fA{j f a w}(h:O (fun k=>k=j\/k=f) a w)(i u):O (fun k=>k=j\/k=f) a (w.setCell ⟨f,i,Z⟩ u):=h.setCell (.inr rfl|> .inl) u
abbrev AX:Value:=Y Z 0 0
def TC(j f g n o:Nat)(d:List Tk)(p v:Value)(w:World)(r:FS×St)(e:Ending)(F:World):Prop:=
 ∃a,e=.returned (.agg (Br r.1 a AX AX))/\F.ownsRow w.heap.size 49 3 a r.1.args.length (Bh r.1.args)/\AJ j f g n o r.2.cJ r.2.cL F/\AP g n o d F/\Cg f p v r.2.pl r.2.ca F/\O (fun k=>k=j\/k=f) w F
abbrev zS:Array Value:=#[G A 0,.string {data:=#[]},G A 0,G A 0,.string {data:=#[]},G A 0,G A 0,G A 0,AX,G A 0,AX,AX,G A 0,G A 0,G A 0]
def CC(a:Nat)(b:Int):FS:=⟨0,MH,MH,0,[],0,[],[],b,b,a⟩
abbrev XR:List UInt8:=[105,102]
abbrev Hm:List UInt8:=[119,104,105,108,101]
abbrev Ef:List UInt8:=[101,108,115,101]
abbrev Vm:List UInt8:=[118,97,114]
abbrev Ic:List UInt8:=[114,101,116,117,114,110]
def Bc(a:List Tk)(b:Nat)(x:St):FS×St:=
 if AG (tokAt a x.cJ)=Vm then
  let y:=Bo a 1 (Aw a Vm x)
  ({CC b (-1)with kind:=1,p:=y.1},y.2)
 else if AG (tokAt a x.cJ)=Ic then
  let y:=Bo a 1 (Aw a Ic x)
  ({CC b (-1)with kind:=11,q:=y.1},y.2)
 else if AG (tokAt a x.cJ)=[42]then
  let y:=Bo a 1 (Aw a [42] x)
  let z:=Bo a 1 (Aw a [61] y.2)
  ({CC b (-1)with kind:=10,p:=y.1,q:=z.1},z.2)
 else
  let y:=Bo a 1 x
  Dd a (Aw a [61] y.2) {CC b (-1)with p:=y.1}
mutual
def AA(toks:List Tk):Nat->Nat->St->List FS->List Nat->List Nat×St×List FS
 |0,_,x,fs,out=>(out,x,fs)
 |f+1,inn,x,fs,out=>
  if x.cL≠Z\/Bu x.cL (tokAt toks x.cJ) [125]=true then(out,x,fs)
  else AA toks f inn (AK toks f inn x fs).2.1 (AK toks f inn x fs).2.2 (out++[(AK toks f inn x fs).1])
def AK(toks:List Tk):Nat->Nat->St->List FS->Nat×St×List FS
 |0,_,x,fs=>(fs.length,x,fs)
 |f+1,inn,x,fs=>
  if AG (tokAt toks x.cJ)=XR\/AG (tokAt toks x.cJ)=Hm then
   let x2:=Aw toks [63] (Aw toks (AG (tokAt toks x.cJ)) x)
   let r:=AA toks f inn (Aw toks [123] x2) (fs++[CC 0 0]) []
   let x3:=Aw toks [125] r.2.1
   let s:FS:={CC inn (-1)with kind:=13,br:=(tokAt toks x2.cJ).pos,cT:=r.1}
   if AG (tokAt toks x.cJ)=XR then
    if Bu x3.cL (tokAt toks x3.cJ) Ef=true then
     let x4:=Aw toks Ef x3
     let r2:=AA toks f inn (Aw toks [123] x4) r.2.2 []
     (fs.length,Aw toks [125] r2.2.1,r2.2.2.set fs.length {s with kind:=12,dR:=(tokAt toks x4.cJ).pos,other:=r2.1})
    else(fs.length,x3,r.2.2.set fs.length {s with kind:=12})
   else(fs.length,x3,r.2.2.set fs.length s)
  else
   let y:=Bc toks inn x
   (fs.length,Aw toks [59] y.2,(fs++[CC 0 0]).set fs.length y.1)
end
def Ay(B:Nat)(w:World)(v:Value)(l:List Nat):Prop:=w.ownsRow B 3 1 v l.length (l.map fun i:Nat=>Value.int .i64 (i:Int))
def CM(B:Nat)(w:World)(v:Value)(l:List Tk):Prop:=w.ownsRow B 49 3 v l.length (Bh l)
def FG(B:Nat)(U:Nat->Prop)(w:World)(c:List Value)(s:FS):Prop:=
 ∃a b d,c=(Br s a b d).toList/\CM B w a s.args/\Ay B w b s.cT/\Ay B w d s.other/\∀k,(a.ownBlock=T k\/b.ownBlock=T k\/d.ownBlock=T k)->U k
def BA(B:Nat)(U:Nat->Prop)(w:World)(c:Value)(b:List FS):Prop:=
 ∃a:List (List Value),w.ownsRow B 92 15 c b.length a.flatten/\a.length=b.length/\∀i (h:i<a.length) (d:i<b.length),FG B U w a[i] b[i]
theorem FG.d8{B:Nat}{U:Nat->Prop}{w g:World}{c:List Value}{s:FS}{X:Nat->Prop}(h:FG B U w c s)(e:O X w g)(f:∀k a t b,X k->w.heap[k]? =T (.cells a t b)->t≠3/\t≠49):FG B U g c s:=by obtain⟨i,j,r,n,l,m,o,p⟩:=h;exact⟨i,j,r,n,Ai l e (fun k a b d q=>(f k a _ b d q).2 rfl),Ai m e (fun k a b d q=>(f k a _ b d q).1 rfl),Ai o e (fun k a b d q=>(f k a _ b d q).1 rfl),p⟩
theorem FG.eS{B:Nat}{U:Nat->Prop}{w f:World}{c:List Value}{s:FS}{X:Nat->Prop}(h:FG B U w c s)(d:O X w f)(e:∀k,U k->¬X k):FG B U f c s:=by obtain⟨g,i,o,m,j,l,n,b⟩:=h;exact⟨g,i,o,m,Ac j d (fun k a=>e k (b k (.inl a))),Ac l d (fun k a=>e k (b k (.inr (.inl a)))),Ac n d (fun k a=>e k (b k (.inr (.inr a)))),b⟩
theorem FG.more{B:Nat}{U U':Nat->Prop}{w:World}{c:List Value}{s:FS}(h:FG B U w c s)(l:∀k,U k->U' k):FG B U' w c s:=by obtain⟨a,b,m,g,e,f,j,d⟩:=h;exact⟨a,b,m,g,e,f,j,fun k i=>l k (d k i)⟩
theorem FG.length{B:Nat}{U:Nat->Prop}{w:World}{c:List Value}{s:FS}(h:FG B U w c s):c.length=15:=by obtain⟨a,b,d,rfl,_⟩:=h;rfl
def Gf(k:Nat)(x y:St):Prop:=x.cJ<=y.cJ/\x.pl<=y.pl/\y.pl<=x.pl+1/\x.ca<=y.ca/\y.ca<=x.ca+1/\(y.cL=Z->x.cL=Z/\x.cJ+k<=y.cJ)
def Ge(k:Nat)(x y:St):Prop:=x.cJ<=y.cJ/\y.pl=x.pl/\y.ca=x.ca/\(y.cL=Z->x.cL=Z/\x.cJ+k<=y.cJ)
theorem Ge.trans{k l:Nat}{x y z:St}(h:Ge k x y)(q:Ge l y z):Ge (k+l) x z:=
 ⟨by have:=h.1;have:=q.1;omega,by rw[q.2.1,h.2.1],by rw[q.2.2.1,h.2.2.1],fun e=>by have a:=q.2.2.2 e;have b:=h.2.2.2 a.1;exact⟨b.1,by omega⟩⟩
theorem Ge.one{k x y}(h:Ge k x y):Gf k x y:=⟨h.1,by rw[h.2.1];omega,by rw[h.2.1];omega,by rw[h.2.2.1];omega,by rw[h.2.2.1];omega,h.2.2.2⟩
theorem Gf.behind{k l:Nat}{x y z:St}(h:Ge k x y)(q:Gf l y z):Gf (k+l) x z:=by obtain⟨f,g,i,c⟩:=h;obtain⟨j,m,n,o,p,d⟩:=q;exact⟨by omega,by omega,by omega,by omega,by omega,fun e=>by have a:=d e;have b:=c a.1;exact⟨b.1,by omega⟩⟩
theorem Gf.ahead{k l:Nat}{x y z:St}(h:Gf k x y)(q:Ge l y z):Gf (k+l) x z:=by obtain⟨f,g,i,j,m,c⟩:=h;obtain⟨n,o,p,d⟩:=q;exact⟨by omega,by omega,by omega,by omega,by omega,fun e=>by have a:=d e;have b:=c a.1;exact⟨b.1,by omega⟩⟩
theorem Gf.less{k l:Nat}{x y:St}(h:Gf k x y)(a:l<=k):Gf l x y:=⟨h.1,h.2.1,h.2.2.1,h.2.2.2.1,h.2.2.2.2.1,fun e=>by have:=h.2.2.2.2.2 e;exact⟨this.1,by omega⟩⟩
theorem LR(a p):FI a p≠Z:=by cases a<;>simp[FI]
theorem A9(a L x):Ge 1 x (Aw a L x):=by
 unfold Aw Fi;split
 .rename_i h;refine⟨by simp,rfl,rfl,fun e=>⟨e,gS _⟩⟩
 .exact⟨gS _,rfl,rfl,fun e=>jY e (LR _ _)⟩
theorem EX(a k x):Ge 1 x (Bo a k x).2:=by
 unfold Bo Dl;split
 .refine⟨by simp,rfl,rfl,fun e=>⟨e,gS _⟩⟩
 .exact⟨gS _,rfl,rfl,fun e=>jY e (LR _ _)⟩
theorem Nw(d:List Tk):∀(f a:Nat) (b:Option Nat) (c:List Tk),a<=(DN d f a b c).2.1/\(DN d f a b c).2.2=b
 |0,a,b,c=>by unfold DN;exact⟨gS _,rfl⟩
 |f+1,a,b,c=>by
  unfold DN;split
  .have:=Nw d f (a+1) b (c++[tokAt d a]);exact⟨by omega,this.2⟩
  .exact⟨gS _,rfl⟩
theorem Fm(a x):Ge 1 x (Cb a x).2:=by have h:=Nw a a.length x.cJ x.cL [];have e:=A9 a [41] ⟨(DN a a.length x.cJ x.cL []).2.1,(DN a a.length x.cJ x.cL []).2.2,x.pl,x.ca⟩;obtain⟨b,d,f,c⟩:=e;refine⟨iG h.1 b,rfl,rfl,fun q=>?_⟩;have:=c q;exact⟨by rw[<-h.2];exact this.1,by have:=this.2;simp only at this;exact iG (by omega) this⟩
theorem Vg(a x s):Gf 1 x (Dd a x s).2:=by
 have E:=A9 a;have d:=EX a;have I:=Fm a;unfold Dd;split
 .have:=E [110,101,119] x;obtain⟨i,r,t,j⟩:=this;exact⟨i,by simp only;omega,by simp only;omega,by simp only;omega,by simp only;omega,j⟩
 .split
  .simp only;split
   .exact((((E _ _).trans (d _ _)).trans ((E _ _).trans (d _ _))).one).less (by omega)
   .exact(((E _ _).trans (d _ _)).one).less (by omega)
  .split
   .exact(((E _ _).trans (d _ _)).one).less (by omega)
   .split
    .exact(((E _ _).trans (d _ _)).one).less (by omega)
    .split
     .have f:=((E [40] x).trans (E [42] _)).trans ((d 1 (Aw a [42] (Aw a [40] x))).trans ((E [41] _).trans (E [40] _)));have g:=I ⟨(Aw a [40] (Aw a [41] (Bo a 1 (Aw a [42] (Aw a [40] x))).2)).cJ,(Aw a [40] (Aw a [41] (Bo a 1 (Aw a [42] (Aw a [40] x))).2)).cL,(Aw a [40] (Aw a [41] (Bo a 1 (Aw a [42] (Aw a [40] x))).2)).pl,(Aw a [40] (Aw a [41] (Bo a 1 (Aw a [42] (Aw a [40] x))).2)).ca+1⟩;obtain⟨n,o,p,h⟩:=f;obtain⟨k,l,m,e⟩:=g;simp only at k l m e;refine⟨by simp only;omega,by simp only;omega,by simp only;omega,by simp only;omega,by simp only;omega,fun q=>?_⟩;have b:=e q;have c:=h b.1;exact⟨c.1,by simp only;omega⟩
     .simp only;split
      .exact(((d _ _).trans ((E _ _).trans (I _))).one).less (by omega)
      .exact((d _ _).one).less (by omega)
theorem Qr(b c x):Gf 1 x (Bc b c x).2:=by
 have E:=A9 b;have a:=EX b;unfold Bc;split
 .exact(((E _ _).trans (a _ _)).one).less (by omega)
 .split
  .exact(((E _ _).trans (a _ _)).one).less (by omega)
  .split
   .exact((((E _ _).trans (a _ _)).trans ((E _ _).trans (a _ _))).one).less (by omega)
   .exact(Gf.behind ((a _ _).trans (E _ _)) (Vg b _ _)).less (by omega)
theorem Zz(k)(h:k<4):(({data:=#[48,49,50,51]}:ByteArray).extract k (k+1)).toList=[UInt8.ofNat (48+k)]:=by
 have:k=0\/k=1\/k=2\/k=3:=by omega
 rcases this with rfl|rfl|rfl|rfl<;>decide+kernel
structure VG(j p I H g n B:Nat)(f:List Tk)(C E:Value)(x:St)(N M:Array Value)(L:Value)(K:List Tk)(F w:World):Prop where
 v:VF j p I H g n B f C E x N M w
 o:O (fun k=>k=j\/k=p) F w
 b:F.heap.size<=I
 d:F.heap.size<=H
 c:x.cJ<n
 z:(tokAt f (n-1)).sort=0
 r:w.ownsRow F.heap.size 49 3 L K.length (Bh K)
section
variable{j p I H g n B:Nat}{f:List Tk}{C E:Value}{x:St}{N M:Array Value}{L:Value}{K:List Tk}{F w P:World}
theorem VG.quiet(h:VG j p I H g n B f C E x N M L K F w)(a:O kJ w P):VG j p I H g n B f C E x N M L K F P:=
 ⟨h.v.quiet a,h.o.dM a,h.b,h.d,h.c,h.z,Ac h.r a (fun _ _ q=>q)⟩
theorem VG.cU(h:VG j p I H g n B f C E x N M L K F w)(i u):VG j p I H g n B f C E x (N.setIfInBounds i u) M L K F (w.setCell ⟨I,i,Z⟩ u):=
 ⟨h.v.cU i u,h.o.cO i u h.b,h.b,h.d,h.c,h.z,Ai h.r ((O.refl _ _).t9 i u) (C6 h.v.sx (by decide))⟩
theorem VG.eV(h:VG j p I H g n B f C E x N M L K F w){u:Int}{m:Nat}(a:u=m):VG j p I H g n B f C E ⟨x.cJ,x.cL,m,x.ca⟩ N M L K F (w.setCell ⟨p,2,Z⟩ (G A u)):=
 ⟨h.v.fM a,h.o.fA 2 _,h.b,h.d,h.c,h.z,Ai h.r ((O.refl _ _).t9 2 _) (C6 h.v.pr.cI (by decide))⟩
theorem VG.eU(h:VG j p I H g n B f C E x N M L K F w){u:Int}{m:Nat}(a:u=m):VG j p I H g n B f C E ⟨x.cJ,x.cL,x.pl,m⟩ N M L K F (w.setCell ⟨p,3,Z⟩ (G A u)):=
 ⟨h.v.fL a,h.o.fA 3 _,h.b,h.d,h.c,h.z,Ai h.r ((O.refl _ _).t9 3 _) (C6 h.v.pr.cI (by decide))⟩
theorem VG.next(h:VG j p I H g n B f C E x N M L K F w)(v l)(a:v.toList=l):
 Calls prog 97 #[.pointer (T ⟨j,0,Z⟩),.string v] w fun e P=>e=.returned (.bool (Bu x.cL (tokAt f x.cJ) l))/\D (VG j p I H g n B f C E x N M L K F P):=
 (RM j p g n B x.cJ x.cL f v l a w h.v.rd h.v.tk h.c).mono (fun _ _ q=>⟨q.1,h.quiet q.2⟩)
theorem VG.dP(h:VG j p I H g n B f C E x N M L K F w)(v l)(b:v.toList=l):
 Calls prog 51 #[.pointer (T ⟨j,0,Z⟩),.string v] w fun e P=>∃a,D (Aw f l x=a)/\e=.returned (.tuple #[])/\D (VG j p I H g n B f C E a N M L K F P):=
 (Jl j p g n B x.cJ x.cL f v l b w h.v.rd h.v.tk h.c).mono (fun _ _ q=>⟨_,rfl,q.1,h.v.dP rfl q.2.2 q.2.1,h.o.tr q.2.2,h.b,h.d,Ci rfl h.z h.c,h.z,Ai h.r q.2.2 (C6 h.v.rd.cI (by decide))⟩)
theorem VG.get(h:VG j p I H g n B f C E x N M L K F w)(k:Nat)(b:k≠0):
 Calls prog 52 #[.pointer (T ⟨j,0,Z⟩),G A k] w fun e P=>∃q a,D (Bo f k x=(q,a))/\e=.returned (JW q)/\D (VG j p I H g n B f C E a N M L K F P):=
 (Lf j p g n B x.cJ k x.cL f w h.v.rd h.v.tk h.c).mono (fun _ _ q=>⟨_,_,rfl,q.1,h.v.get rfl q.2.2 q.2.1,h.o.tr q.2.2,h.b,h.d,ED rfl b h.z h.c,h.z,Ai h.r q.2.2 (C6 h.v.rd.cI (by decide))⟩)
theorem VG.list(h:VG j p I H g n B f C E x N M L K F w):
 Calls prog 53 #[.pointer (T ⟨j,0,Z⟩)] w fun e P=>∃q i a l c,D (Cb f x=(q,i))/\e=.returned (Y a l c)/\D (VG j p I H g n B f C E i N M (Y a l c) q F P):=by
 refine(PY j p g n B x.cJ x.cL f w h.v.rd h.v.tk h.c h.z).mono ?_;rintro e P ⟨v,rfl,d,k,b⟩;obtain⟨a,l,c,rfl⟩:=Ad d;exact⟨_,_,a,l,c,rfl,rfl,h.v.list rfl b k,h.o.tr b,h.b,h.d,EY rfl h.z h.c,h.z,Aq d h.o.size⟩
theorem VG.post{y r}(h:VG j p I H g n B f C E x N M L K F w)(e:y.args=K)(l:r=(y,x))(c)(a:O (fun k=>k=H) w c):TC j p g n B f C E F r (.returned (.agg (Br y L AX AX))) c:=by subst e l;have b:=h.v.eA;have m:=h.d;refine⟨L,rfl,Ai h.r a (C6 h.v.ox (by decide)),h.v.rd.d8 a (Ne.symm b.2.2.2.1),h.v.tk.d8 a b.2.2.2.2.2.2.2.2,h.v.pr.cI.d8 a (Ne.symm b.2.2.2.2.2.2.1),a.os.trans h.o.os,a.tape.trans h.o.tape,a.output.trans h.o.output,iG h.o.size a.size,fun k d i=>?_⟩;rw[a.block k (iI d h.o.size) (fun q=>by omega)];exact h.o.block k d i
end
theorem Vj(j p g n B f C E V s w)(hr:AJ j p g n B V.cJ V.cL w)(ht:AP g n B f w)(hp:Cg p C E V.pl V.ca w)(c8:V.cJ<n)(hz:(tokAt f (n-1)).sort=0)(ha:s.args=[])(f1:V.pl<=4001)(e9:V.ca<=4001):
 Calls prog 132 #[.pointer (T ⟨j,0,Z⟩),.agg (Br s AX AX AX)] w fun e P=>TC j p g n B f C E w (Dd f V s) e P:=by
 have hn:=ht.2.2;have lr:=Ae hr;have lp:=Ae hp;have b2:D (VG j p w.heap.size (w.heap.size+1) g n B f C E V (Br s AX AX AX) zS AX s.args w ((w.alloc (.cells (Br s AX AX AX) 92)).alloc (.cells zS 92))):=
  ⟨⟨(hr.cI.alloc _).alloc _,(ht.d8 (((O.refl kJ w).alloc _).alloc _) id),(hp.cI.alloc _).alloc _,(W.new _ _ _).alloc _,by have:=W.new (w.alloc (.cells (Br s AX AX AX) 92)) zS 92;simpa using this,by omega⟩,((O.refl _ _).alloc _).alloc _,gS _,Nat.le_succ _,c8,hz,by rw[ha];exact iB _ _ _ _⟩
 obtain⟨y,hy⟩:∃y,Dd f V s=y:=⟨_,rfl⟩;rw[hy];have HY:=J hy;obtain⟨t,HT⟩:∃t,D (tokAt f V.cJ=t):=⟨_,rfl⟩;clear hy hr ht hp hz ha;go_enter func132,ntmps132;go_wp2;generalize (w.alloc (.cells (Br s AX AX AX) 92)).alloc (.cells zS 92)=W0 at b2⊢;obtain⟨t0,t1,t2⟩:=b2.o.v.tk.cells c8;rw[HT.o]at t0 t1 t2;obtain⟨r0,r1⟩:=b2.o.v.rd.cI.e2 0 1;simp only[gR,gP,gQ]at r0 r1;have l0:=Ae b2.o.v.rd;have l1:g<W0.heap.size:=(b2.o.v.tk.1.lt g rfl).2;have ls:w.heap.size<W0.heap.size:=Ae b2.o.v.sx;have lo:w.heap.size+1<W0.heap.size:=Ae b2.o.v.ox;have i:=b2.o.v.sx.frozen;have d:=b2.o.v.sx.cell 0;simp[Br]at d;go_region;go_upto_region 3 with fail;go_cut[28] (fun v wx=>v=.bool (decide (t.sort=2\/t.sort=4))/\D (W W0.heap.size #[.string t.d9,G A t.pos,G A t.sort] 49 wx)/\D (VG j p w.heap.size (w.heap.size+1) g n B f C E V (Br s AX AX AX) zS AX s.args w wx))
 case first=>
  have hs:(t.sort=2/\((t.sort:Int)==2)=true)\/(t.sort=4/\((t.sort:Int)==2)=false/\((t.sort:Int)==4)=true)\/((¬(t.sort=2\/t.sort=4))/\((t.sort:Int)==2)=false/\((t.sort:Int)==4)=false):=by
   by_cases h:t.sort=2
   .simp[h]
   by_cases k:t.sort=4
   .simp[k]
   .simp;omega
  rcases hs with⟨hs,d0⟩|⟨hs,d0,f2⟩|⟨hs,d0,f2⟩
  all_goals
   have HS:=J hs;clear hs;go_wp2_with fail;go_meet
   case rel=>exact⟨by simp[HS.o],W.d8 (W.new _ _ _) (X:=kJ) (by repeat first|exact BI _ _|apply BG|apply BH|apply BE) id,b2.o.quiet (by repeat first|exact BI _ _|apply BG|apply BH|apply BE)⟩
 case rest=>
 obtain⟨rfl,d6,b3⟩:=hcut;have b0:=d6.o.cell 0;simp at b0;go_upto_if 28 with fail;go_cut[6] (fun v wx=>∃b:ByteArray,v=.string b/\D (b.toList=AG (tokAt f V.cJ))/\D (VG j p w.heap.size (w.heap.size+1) g n B f C E V (Br s AX AX AX) zS AX s.args w wx))
 case first=>
  by_cases hc:t.sort=2\/t.sort=4;all_goals
   have HS:=J hc;simp only[hc,decide_true,decide_false];clear hc;go_wp2_with fail;go_meet
   case rel=>exact⟨_,rfl,by show _=_;rw[HT.o];simp[AG,HS.o],b3.o.quiet (by repeat first|exact BI _ _|apply BG|apply BH|apply BE)⟩
 case rest=>
  obtain⟨b,rfl,HB,b3⟩:=hcut;clear HT;go_upto_block 0 with fail;go_cut[] (fun wx=>∃(y1:FS) (Q:St) (a:Option Addr) (l c:Nat),D (VG j p w.heap.size (w.heap.size+1) g n B f C E Q (Br y1 (Y a l c) AX AX) zS (Y a l c) y1.args w wx)/\D (y=(y1,Q)))
  case first=>
   have hb:=HB.o;clear HB b0;by_cases h0:b.toList=[110,101,119]
   .have e0:(b.toList==[110,101,119])=true:=beq_iff_eq.2 h0;have HW:=J (hb.symm.trans h0);clear h0 hb;go_wp2_with fail;refine((b3.o.quiet (by repeat first|exact BI _ _|apply BG|apply BH|apply BE)).dP _ [110,101,119] (by simp)).mono ?_;rintro e w1 ⟨Q,U,rfl,z⟩;have p0:=z.o.v.rd.cI.cell 3;have p1:=z.o.v.pr.cI.cell 2;have p2:=z.o.v.pr.cI.frozen 2;obtain⟨d,a9⟩:=z.o.v.sx.e2 0 9;have i:=z.o.v.sx.frozen;simp[Br]at p0 p1 d a9;obtain⟨n1,n2,n3,n4,n5,n6,n7,n8,n9⟩:=z.o.v.eA;have f4:Q.pl<=4001:=by rw[<-U.o];exact f1
    go_wp2_with fail;go_meet
    case rel=> refine⟨{s with kind:=2,l7:=Q.pl+1},⟨Q.cJ,Q.cL,Q.pl+1,Q.ca⟩,Z,0,0,?_,by show _=_;rw[<-HY.o];simp[Dd,HW.o,U.o]⟩;exact((z.o.cU 0 (G A 2)).eV (u:=(Q.pl:Int)+1) (m:=Q.pl+1) (by omega)).cU 9 (G A ((Q.pl:Int)+1))
   have e0:(b.toList==[110,101,119])=false:=beq_eq_false_iff_ne.2 h0;by_cases h1:b.toList=[38]
   .have e1:(b.toList==[38])=true:=beq_iff_eq.2 h1;have HW:=J (hb.symm.trans h1);clear h0 h1 hb;go_wp2_with fail;refine((b3.o.quiet (by repeat first|exact BI _ _|apply BG|apply BH|apply BE)).dP _ [38] (by simp)).mono ?_;rintro e w1 ⟨Q,U,rfl,z⟩;obtain⟨o,r,x,d⟩:=z.o.v.sx.e4 4 5 6 0;have i:=z.o.v.sx.frozen;simp[Br]at d o r x;go_wp2_with fail;clear d o r x i;refine((z.o.cU 0 (G A 3)).get 1 (by decide)).mono ?_;rintro e w2 ⟨S,x2,b5,rfl,R⟩;unfold JW;obtain⟨o,r,x,d⟩:=R.o.v.sx.e4 4 5 6 0;have i:=R.o.v.sx.frozen;simp[Br]at d o r x;go_wp2_with fail;clear d o r x i;refine((((R.o.cU 4 (.string S.d9)).cU 5 (G A S.pos)).cU 6 (G A S.sort)).next _ [46] (by simp)).mono ?_;rcases hd:Bu x2.cL (tokAt f x2.cJ) [46]with _|_
    .rintro e w3 ⟨rfl,b1⟩;go_wp2_with fail;go_meet
     case rel=>exact⟨{s with kind:=3,q:=S},_,Z,0,0,b1.o.quiet (by repeat first|exact BI _ _|apply BG|apply BH|apply BE),by show _=_;rw[<-HY.o];simp[Dd,HW.o,U.o,b5.o,hd]⟩
    .rintro e w3 ⟨rfl,b1⟩;go_wp2_with fail;refine(b1.o.dP _ [46] (by simp)).mono ?_;rintro e w4 ⟨x3,b9,rfl,c0⟩;have d:=c0.o.v.sx.cell 0;have i:=c0.o.v.sx.frozen;simp[Br]at d;go_wp2_with fail;clear d i;refine((c0.o.cU 0 (G A 4)).get 3 (by decide)).mono ?_;rintro e w5 ⟨q4,x4,c1,rfl,b4⟩;unfold JW;have c2:D (y=({s with kind:=4,q:=S,field:=Pt q4.d9.toList s.field 4},x4)):=by show _=_;rw[<-HY.o];simp[Dd,HW.o,U.o,b5.o,hd,b9.o,c1.o]
     clear hd HY;go_wp2;go_loopw[9] (fun kv wr=>∃k:Nat,k<=4/\kv=G A k/\D (VG j p w.heap.size (w.heap.size+1) g n B f C E x4 (Br {s with kind:=4,q:=S,field:=Pt q4.d9.toList s.field k} AX AX AX) zS AX s.args w wr)/\D (W w5.heap.size #[.string q4.d9,G A q4.pos,G A q4.sort] 49 wr)) (fun kv _=>4-(intOf kv).toNat)
     case atStart=>exact⟨0,by omega,rfl,b4.o.quiet ((O.refl _ _).alloc _),W.new _ _ _⟩
     case round=>
      obtain⟨k,hk,rfl,b6,HB⟩:=hrel;by_cases f0:k=4
      .subst f0;go_wp2_with fail;go_meet
       case rel=>exact⟨_,_,_,_,_,b6.o,c2.o⟩
      .have b0:=HB.o.cell 0;have a7:=b6.o.v.sx.cell 7;have i:=b6.o.v.sx.frozen;simp[Br]at b0 a7;have c9:=Zz k (by omega);obtain⟨d8,c5,c6⟩:=Ax (HB.o.ne b6.o.v.sx (by decide)) (fun(m:Nat)=>HB.o.d8 ((O.refl kJ _).drewN m) id) (fun(m:Nat)=>b6.o.quiet ((O.refl _ _).drewN m));by_cases hl:q4.d9.toList=[UInt8.ofNat (48+k)];all_goals
        have hq:(q4.d9.toList==(({data:=#[48,49,50,51]}:ByteArray).extract k (k+1)).toList)=decide (q4.d9.toList=[UInt8.ofNat (48+k)]):=by rw[c9,Bool.eq_iff_iff];simp
        have c3:Pt q4.d9.toList s.field (k+1)=if q4.d9.toList=[UInt8.ofNat (48+k)]then k else Pt q4.d9.toList s.field k:=rfl
        first|rw[jR hl]at c3;rw[decide_eq_true hl]at hq|rw[jQ hl]at c3;rw[decide_eq_false hl]at hq
        have d7:=J c3;clear c9 hl c3;go_wp2_with fail;go_quiet(fail);go_wp2_with fail
       all_goals
        go_roundw
        case rel=>
         refine⟨k+1,by omega,by simp,?_,?_⟩
         .rw[d7.o];first|exact(c6.o _).cU 7 (G A k)|exact c6.o _
         .first|exact(c5.o _).dA 7 (G A k) d8.o|exact c5.o _
        case measure=>simp[intOf];omega
   have e1:(b.toList==[38])=false:=beq_eq_false_iff_ne.2 h1;by_cases h2:b.toList=[42]
   .have e2:(b.toList==[42])=true:=beq_iff_eq.2 h2;have HW:=J (hb.symm.trans h2);clear h0 h1 h2 hb;go_wp2_with fail;refine((b3.o.quiet (by repeat first|exact BI _ _|apply BG|apply BH|apply BE)).dP _ [42] (by simp)).mono ?_;rintro e w1 ⟨Q,U,rfl,z⟩;obtain⟨o,r,x,d⟩:=z.o.v.sx.e4 4 5 6 0;have i:=z.o.v.sx.frozen;simp[Br]at d o r x;go_wp2_with fail;clear d o r x i;refine((z.o.cU 0 (G A 5)).get 1 (by decide)).mono ?_;rintro e w2 ⟨S,x2,b5,rfl,R⟩;unfold JW;obtain⟨o,r,x,d⟩:=R.o.v.sx.e4 4 5 6 0;have i:=R.o.v.sx.frozen;simp[Br]at d o r x;go_wp2_with fail;clear d o r x i;go_meet
    case rel=>exact⟨{s with kind:=5,q:=S},_,Z,0,0,((R.o.cU 4 (.string S.d9)).cU 5 (G A S.pos)).cU 6 (G A S.sort),by show _=_;rw[<-HY.o];simp[Dd,HW.o,U.o,b5.o]⟩
   have e2:(b.toList==[42])=false:=beq_eq_false_iff_ne.2 h2;by_cases h3:b.toList=[64]
   .have e3:(b.toList==[64])=true:=beq_iff_eq.2 h3;have HW:=J (hb.symm.trans h3);clear h0 h1 h2 h3 hb;go_wp2_with fail;refine((b3.o.quiet (by repeat first|exact BI _ _|apply BG|apply BH|apply BE)).dP _ [64] (by simp)).mono ?_;rintro e w1 ⟨Q,U,rfl,z⟩;obtain⟨o,r,x,d⟩:=z.o.v.sx.e4 4 5 6 0;have i:=z.o.v.sx.frozen;simp[Br]at d o r x;go_wp2_with fail;clear d o r x i;refine((z.o.cU 0 (G A 6)).get 1 (by decide)).mono ?_;rintro e w2 ⟨S,x2,b5,rfl,R⟩;unfold JW;obtain⟨o,r,x,d⟩:=R.o.v.sx.e4 4 5 6 0;have i:=R.o.v.sx.frozen;simp[Br]at d o r x;go_wp2_with fail;clear d o r x i;go_meet
    case rel=>exact⟨{s with kind:=6,q:=S},_,Z,0,0,((R.o.cU 4 (.string S.d9)).cU 5 (G A S.pos)).cU 6 (G A S.sort),by show _=_;rw[<-HY.o];simp[Dd,HW.o,U.o,b5.o]⟩
   have e3:(b.toList==[64])=false:=beq_eq_false_iff_ne.2 h3;by_cases h4:b.toList=[40]
   .have e4:(b.toList==[40])=true:=beq_iff_eq.2 h4;have HW:=J (hb.symm.trans h4);clear h0 h1 h2 h3 h4 hb;go_wp2_with fail;refine((b3.o.quiet (by repeat first|exact BI _ _|apply BG|apply BH|apply BE)).dP _ [40] (by simp)).mono ?_;rintro e w1 ⟨Q,U,rfl,z⟩;obtain⟨o,r,x,d⟩:=z.o.v.sx.e4 4 5 6 0;have i:=z.o.v.sx.frozen;simp[Br]at d o r x;go_wp2_with fail;clear d o r x i;refine((z.o.cU 0 (G A 9)).dP _ [42] (by simp)).mono ?_;rintro e w2 ⟨x2,b5,rfl,R⟩;go_wp2_with fail;refine(R.o.get 1 (by decide)).mono ?_;rintro e w3 ⟨q3,x3,b9,rfl,b1⟩;unfold JW;obtain⟨o,r,x,d⟩:=b1.o.v.sx.e4 4 5 6 0;have i:=b1.o.v.sx.frozen;simp[Br]at d o r x;go_wp2_with fail;clear d o r x i;refine((((b1.o.cU 4 (.string q3.d9)).cU 5 (G A q3.pos)).cU 6 (G A q3.sort)).dP _ [41] (by simp)).mono ?_;rintro e w4 ⟨x4,c1,rfl,c0⟩;go_wp2_with fail;refine(c0.o.dP _ [40] (by simp)).mono ?_;rintro e w5 ⟨x5,c7,rfl,b4⟩;have f3:x5.ca<=4001:=by rw[<-c7.o,<-c1.o,show x3=(Bo f 1 x2).2 from(congrArg Prod.snd b9.o).symm,<-b5.o,<-U.o];exact e9
    obtain⟨n1,n2,n3,n4,n5,n6,n7,n8,n9⟩:=b4.o.v.eA;have p0:=b4.o.v.rd.cI.cell 3;have p1:=b4.o.v.pr.cI.cell 3;have p2:=b4.o.v.pr.cI.frozen 3;have a9:=b4.o.v.sx.cell 9;have i:=b4.o.v.sx.frozen;simp[Br]at p0 p1 a9;go_wp2_with fail;clear p0 p1 p2 a9 i n1 n2 n3 n4 n5 n6 n7 n8 n9;refine((b4.o.eU (u:=(x5.ca:Int)+1) (m:=x5.ca+1) (by omega)).cU 9 (G A ((x5.ca:Int)+1))).list.mono ?_;rintro e w7 ⟨q7,x7,v1,v2,v3,c4,rfl,b7⟩;have a8:=b7.o.v.sx.cell 8;have i:=b7.o.v.sx.frozen;simp[Br]at a8;go_wp2_with fail;go_meet
    case rel=>exact⟨{s with kind:=9,q:=q3,l7:=x5.ca+1,args:=q7},_,v1,v2,v3,b7.o.cU 8 (Y v1 v2 v3),by show _=_;rw[<-HY.o];simp[Dd,HW.o,U.o,b5.o,b9.o,c1.o,c7.o,c4.o]⟩
   have e4:(b.toList==[40])=false:=beq_eq_false_iff_ne.2 h4;rw[hb]at h0 h1 h2 h3 h4;have HW:=J (And.intro h0 (And.intro h1 (And.intro h2 (And.intro h3 h4))));clear h0 h1 h2 h3 h4 hb;have d:=b3.o.v.sx.cell 0;have i:=b3.o.v.sx.frozen;simp[Br]at d;go_wp2_with fail;clear d i;refine(((b3.o.cU 0 (G A 7)).quiet (by repeat first|exact BI _ _|apply BG|apply BH|apply BE)).get 1 (by decide)).mono ?_;rintro e w1 ⟨q1,Q,U,rfl,z⟩;unfold JW;obtain⟨o,r,x,d⟩:=z.o.v.sx.e4 4 5 6 0;have i:=z.o.v.sx.frozen;simp[Br]at d o r x;go_wp2_with fail;clear d o r x i;refine((((z.o.cU 4 (.string q1.d9)).cU 5 (G A q1.pos)).cU 6 (G A q1.sort)).next _ [40] (by simp)).mono ?_;rcases hd:Bu Q.cL (tokAt f Q.cJ) [40]with _|_
   .rintro e w2 ⟨rfl,R⟩;go_wp2_with fail;go_meet
    case rel=>exact⟨{s with kind:=7,q:=q1},_,Z,0,0,R.o.quiet (by repeat first|exact BI _ _|apply BG|apply BH|apply BE),by show _=_;rw[<-HY.o];simp[Dd,HW.o,U.o,hd]⟩
   .rintro e w2 ⟨rfl,R⟩;go_wp2_with fail;refine(R.o.dP _ [40] (by simp)).mono ?_;rintro e w3 ⟨x3,b9,rfl,b1⟩;have d:=b1.o.v.sx.cell 0;have i:=b1.o.v.sx.frozen;simp[Br]at d;go_wp2_with fail;clear d i;refine(b1.o.cU 0 (G A 8)).list.mono ?_;rintro e w7 ⟨q7,x7,v1,v2,v3,c4,rfl,b7⟩;have a8:=b7.o.v.sx.cell 8;have i:=b7.o.v.sx.frozen;simp[Br]at a8;go_wp2_with fail;go_meet
    case rel=>exact⟨{s with kind:=8,q:=q1,args:=q7},_,v1,v2,v3,b7.o.cU 8 (Y v1 v2 v3),by show _=_;rw[<-HY.o];simp[Dd,HW.o,U.o,hd,b9.o,c4.o]⟩
  case rest=>
   obtain⟨y1,Q,za,zl,zc,b6,c2⟩:=hcut;have HP:=J (b6.o.post rfl c2.o);have b8:=b6.o.v;obtain⟨n1,n2,n3,n4,n5,n6,n7,n8,n9⟩:=b8.eA;obtain⟨d,a1,a2,a3,o,r,x,a7,a8,a9,d9,e5,e6,e7,e8⟩:=b8.sx.e15 0 1 2 3 4 5 6 7 8 9 10 11 12 13 14;obtain⟨o0,o1,o2,o3,o4,o5,o6,o7,o8,o9,d1,d2,d3,d4,d5⟩:=b8.ox.e15 0 1 2 3 4 5 6 7 8 9 10 11 12 13 14;have i:=b8.sx.frozen;have fo:=b8.ox.frozen;simp[Br]at d a1 a2 a3 o r x a7 a8 a9 d9 e5 e6 e7 e8 o0 o1 o2 o3 o4 o5 o6 o7 o8 o9 d1 d2 d3 d4 d5;clear b8 HY c2;go_wp2;refine gZ (v:=.agg (Br y1 (Y za zl zc) AX AX)) (by simp[results,results132,go_sem,Br,o0,o1,o2,o3,o4,o5,o6,o7,o8,o9,d1,d2,d3,d4,d5]) rfl ?_;refine HP.o _ ?_;iterate 15 refine O.t9 ?_ _ _
   exact O.refl _ _
theorem Tryz.infoSt:(Tryz.prog.info? 92).map (fun i=>(i.zero,i.size,i.bytes))=T (T (.agg zS),15,184):=by kernel_rfl
theorem Z4:∀u∈zS.toList,u.oneCell'=true:=by intro u a;simp at a;rcases a with rfl|rfl|rfl|rfl|rfl|rfl|rfl|rfl|rfl<;>rfl
theorem BA.d8{B}{U:Nat->Prop}{w j sv l}{X:Nat->Prop}(h:BA B U w sv l)(b:O X w j)(r:∀k,sv.ownBlock=T k->¬X k)(u:∀k a t c,X k->w.heap[k]? =T (.cells a t c)->t≠3/\t≠49):BA B U j sv l:=by obtain⟨a,q,n,o⟩:=h;exact⟨a,Ac q b r,n,fun i e g=>(o i e g).d8 b u⟩
theorem BA.eS{B}{U:Nat->Prop}{w j sv l}{X:Nat->Prop}(h:BA B U w sv l)(a:O X w j)(q:∀k,sv.ownBlock=T k->¬X k)(r:∀k,U k->¬X k):BA B U j sv l:=by obtain⟨b,o,g,n⟩:=h;exact⟨b,Ac o a q,g,fun i c e=>(n i c e).eS a r⟩
theorem BA.more{B}{U U':Nat->Prop}{w sv l}(h:BA B U w sv l)(o:∀k,U k->U' k):BA B U' w sv l:=by obtain⟨a,n,e,g⟩:=h;exact⟨a,n,e,fun i b c=>(g i b c).more o⟩
structure SF(d f m g n s B:Nat)(U:Nat->Prop)(p:List Tk)(v sv:Value)(x:St)(l:List FS)(y:Array Value)(w:World):Prop where
 rd:AJ d f g n s x.cJ x.cL w
 tk:AP g n s p w
 pr:Cg f v sv x.pl x.ca w
 sx:W m y 92 w
 st:BA B U w sv l
 nb:∀k,sv.ownBlock=T k->k≠m
section
variable{d f m g n s B:Nat}{U:Nat->Prop}{p:List Tk}{v sv:Value}{x:St}{l:List FS}{y:Array Value}{w j:World}
theorem SF.eA(h:SF d f m g n s B U p v sv x l y w):g≠d/\f≠d/\m≠d/\g≠f/\m≠f/\g≠m:=
 ⟨h.tk.ne h.rd (by decide),h.pr.cI.ne h.rd.cI (by decide),h.sx.ne h.rd.cI (by decide),h.tk.ne h.pr (by decide),h.sx.ne h.pr.cI (by decide),h.tk.ne h.sx (by decide)⟩
theorem SF.eJ(h:SF d f m g n s B U p v sv x l y w):∀k,sv.ownBlock=T k->k≠d/\k≠f/\k≠m:=by intro k a;obtain⟨c,b,_⟩:=h.st;exact⟨Am b h.rd (by decide) k a,Am b h.pr (by decide) k a,h.nb k a⟩
theorem SF.call{c b}(h:SF d f m g n s B U p v sv x l y w)(e:O (fun k=>k=d) w j)(r:AJ d f g n s c b j):SF d f m g n s B U p v sv ⟨c,b,x.pl,x.ca⟩ l y j:=by have i:=h.eA;refine⟨r,h.tk.d8 e i.1,h.pr.cI.d8 e i.2.1,h.sx.d8 e i.2.2.1,h.st.d8 e (fun k a=>(h.eJ k a).1) ?_,h.nb⟩;intro k u t z a q;have a:k=d:=a;subst a;have o:w.heap[k]? =_:=h.rd;rw[q]at o;simp only[gX,iE]at o;rw[o.2.1];decide
theorem SF.quiet(h:SF d f m g n s B U p v sv x l y w)(a:O kJ w j):SF d f m g n s B U p v sv x l y j:=
 ⟨h.rd.d8 a id,h.tk.d8 a id,h.pr.cI.d8 a id,h.sx.d8 a id,h.st.d8 a (fun _ _ q=>q) (fun _ _ _ _ q=>q.elim),h.nb⟩
theorem SF.cU(h:SF d f m g n s B U p v sv x l y w)(i u):SF d f m g n s B U p v sv x l (y.setIfInBounds i u) (w.setCell ⟨m,i,Z⟩ u):=by have b:=h.eA;have e:=(O.refl (fun k=>k=m) w).t9 i u;refine⟨h.rd.cI.dA i u b.2.2.1.symm,h.tk.d8 e b.2.2.2.2.2,h.pr.cI.dA i u b.2.2.2.2.1.symm,h.sx.set i u,h.st.d8 e (fun k a=>(h.eJ k a).2.2) ?_,h.nb⟩;intro k q t r a o;have a:k=m:=a;subst a;have c:w.heap[k]? =_:=h.sx;rw[o]at c;simp only[gX,iE]at c;rw[c.2.1];decide
theorem SF.dP{L a}(h:SF d f m g n s B U p v sv x l y w)(e:Aw p L x=a)(b:O (fun k=>k=d) w j)(c:AJ d f g n s (Fi p x.cJ x.cL L).1 (Fi p x.cJ x.cL L).2 j):SF d f m g n s B U p v sv a l y j:=by subst e;exact h.call b c
theorem SF.get{k q a}(h:SF d f m g n s B U p v sv x l y w)(i:Bo p k x=(q,a))(b:O (fun k=>k=d) w j)(c:AJ d f g n s (Dl p x.cJ x.cL k).2.1 (Dl p x.cJ x.cL k).2.2 j):SF d f m g n s B U p v sv a l y j:=by have e:a=⟨(Dl p x.cJ x.cL k).2.1,(Dl p x.cJ x.cL k).2.2,x.pl,x.ca⟩:=(congrArg Prod.snd i).symm;subst e;exact h.call b c
end
structure Fy(d f:Nat)(sv sv':Value)(w j:World):Prop where
 d8:O (fun k=>k=d\/k=f\/sv.ownBlock=T k) w j
 own:∀k,sv'.ownBlock=T k->sv.ownBlock=T k\/w.heap.size<=k
theorem Fy.refl(d f sv w):Fy d f sv sv w w:=⟨O.refl _ _,fun _ h=>.inl h⟩
theorem Fy.trans{d f:Nat}{a b c:Value}{w o r:World}(h:Fy d f a b w o)(k:Fy d f b c o r):Fy d f a c w r:=by
 refine⟨⟨k.d8.os.trans h.d8.os,k.d8.tape.trans h.d8.tape,k.d8.output.trans h.d8.output,iG h.d8.size k.d8.size,fun i e g=>?_⟩,fun i e=>?_⟩
 .rw[k.d8.block i (iI e h.d8.size) ?_,h.d8.block i e g];rintro(q|q|q)
  .exact g (.inl q)
  .exact g (.inr (.inl q))
  .rcases h.own i q with n|n
   .exact g (.inr (.inr n))
   .omega
 .rcases k.own i e with q|q
  .exact h.own i q
  .exact .inr (iG h.d8.size q)
theorem Fy.dG{d f sv w j}(h:O (fun k=>k=d\/k=f) w j):Fy d f sv sv w j:=
 ⟨h.mono (fun _ _ q=>q.elim .inl (fun r=>.inr (.inl r))),fun _ h=>.inl h⟩
theorem Fy.cO{d f b sv a w j}(h:Fy d f sv a w j)(i u)(c:w.heap.size<=b):Fy d f sv a w (j.setCell ⟨b,i,Z⟩ u):=⟨h.d8.cO i u c,h.own⟩
theorem Fy.alloc{d f sv a w j}(h:Fy d f sv a w j)(o):Fy d f sv a w (j.alloc o):=⟨h.d8.alloc o,h.own⟩
theorem Fy.drew{d f sv a w j}(h:Fy d f sv a w j):Fy d f sv a w j.drew:=⟨h.d8.drew,h.own⟩
theorem Fy.drewN{d f sv a w j}(h:Fy d f sv a w j)(n):Fy d f sv a w (j.drewN n):=⟨h.d8.drewN n,h.own⟩
theorem Fy.tr{d f sv a w j b}(h:Fy d f sv a w j)(k:O (fun k=>k=d) j b):Fy d f sv a w b:=h.trans (Fy.dG (k.mono (fun _ _ q=>.inl q)))
