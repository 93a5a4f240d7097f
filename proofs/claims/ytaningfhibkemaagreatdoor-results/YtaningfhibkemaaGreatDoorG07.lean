/- Part of the proof: LexF RdB RdC RdD RdE RdI RdM. -/
import Derived.Test.YtaningfhibkemaaGreatDoorG06
set_option maxRecDepth 100000
set_option maxHeartbeats 2000000
namespace Go.Proofs.YtaningfhibkemaaGreatDoor
open Go.RowKit Go.Proofs.Tryz
def Pz(t:Tk)(l:List UInt8):Bool:=t.d9.toList==l && (t.sort==2||t.sort==4)
def Bs(a:Option Nat)(t:Tk)(l:List UInt8):Bool:=a.isNone && Pz t l
theorem LW(q y g n p d m h s w)(k:AI q y g n p d m w)(l:AO g n p h w)(v:d<n):
 Calls prog 97 #[.pointer (some ⟨q,0,none⟩),.string s] w fun e B=>e=.returned (.bool (Bs m (tokAt h d) s.toList))/\O kD w B:=by
 obtain⟨H,I,K⟩:=l.cells v;have E:=l.2.2;have z:=Ak k 0;have A:=Ak k 1;have o:=Ak k 2;simp only[gH,gF,gG]at z A o;have G:=Ae k;have F:g<w.heap.size:=(l.1.lt g rfl).2;clear k l;have i:O kD w ((w.alloc (.cells #[.string (tokAt h d).d9,.int .i64 (tokAt h d).pos,.int .i64 (tokAt h d).sort] 49)).drew):=((O.refl _ _).alloc _).drew;generalize tokAt h d=t at*;cases m with
 |some b=> have C:decide ((b:Int)<0)=false:=jY;simp only[F7]at o;have a:Bs (some b) t s.toList=false:=rfl;rw[a];clear a;go_enter func97,ntmps97;go_wp2;go_region;go_wp2;go_ret;exact⟨rfl,i⟩
 |none=>
  simp only[F7]at o;by_cases c:t.d9.toList=s.toList
  .have x:(t.d9.toList==s.toList)=true:=by simp[c]
   by_cases f:t.sort=2
   .have r:((t.sort:Int)==2)=true:=by simp[f]
    have a:Bs none t s.toList=true:=by simp[Bs,Pz,c,f]
    rw[a];clear a c f;go_enter func97,ntmps97;go_wp2;go_region;go_wp2;go_ret;exact⟨rfl,i⟩
   .have r:((t.sort:Int)==2)=false:=jX;by_cases j:t.sort=4
    .have u:((t.sort:Int)==4)=true:=by simp[j]
     have a:Bs none t s.toList=true:=by simp[Bs,Pz,c,j]
     rw[a];clear a c f j;go_enter func97,ntmps97;go_wp2;go_region;go_wp2;go_ret;exact⟨rfl,i⟩
    .have u:((t.sort:Int)==4)=false:=jX;have a:Bs none t s.toList=false:=by simp[Bs,Pz,f,j]
     rw[a];clear a c f j;go_enter func97,ntmps97;go_wp2;go_region;go_wp2;go_ret;exact⟨rfl,i⟩
  .have x:(t.d9.toList==s.toList)=false:=by simp[c]
   have a:Bs none t s.toList=false:=by simp[Bs,Pz,c]
   rw[a];clear a c;go_enter func97,ntmps97;go_wp2;go_region;go_wp2;go_ret;exact⟨rfl,i⟩
def Fv(a:Option Nat)(p:Nat):Option Nat:=match a with|none=>some p|some b=>some b
theorem LJ(c j g n h d f o w)(a:AI c j g n h d f w)(i:AO g n h o w)(r:d<n):
 Calls prog 98 #[.pointer (some ⟨c,0,none⟩)] w fun e q=>e=.returned (.tuple #[])/\AI c j g n h d (Fv f (tokAt o d).pos) q/\O (fun k=>k=c) w q:=by
 obtain⟨A,B,C⟩:=i.cells r;have x:=i.2.2;have s:=Ak a 0;have t:=Ak a 1;have l:=Ak a 2;have u:=Ay a 2;simp only[gH,gF,gG]at s t l;have z:=Ae a;have y:g<w.heap.size:=(i.1.lt g rfl).2;have H:=a;have m:D (AI c j g n h d f w):=H;clear a i H;cases f with
 |some b=> have v:decide ((b:Int)<0)=false:=jY;simp only[F7]at l;go_enter func98,ntmps98;go_wp2;go_end0;exact⟨rfl,m.o,O.refl _ _⟩
 |none=> simp only[F7]at l;go_enter func98,ntmps98;go_wp2;go_region;go_wp2;go_end0;refine⟨rfl,?_,((O.refl (fun k=>k=c) w).setCell (p:=⟨c,2,none⟩) (.inl rfl) _).drew⟩;exact FC (w:=w.drew) m.o 2 _
theorem AI.d8{a e g n c d b}{X:Nat->Prop}{w f}(h:AI a e g n c d b w)(i:O X w f)(j:¬X a):AI a e g n c d b f:=by unfold AI at h⊢;rw[i.block a (Ae h) j];exact h
theorem AO.d8{g n a c}{X:Nat->Prop}{w d}(h:AO g n a c w)(e:O X w d)(f:¬X g):AO g n a c d:=
 ⟨Ac h.1 e (fun k b=>by simp[Value.ownBlock]at b;subst b;exact f),h.2⟩
theorem AO.ne{g n d c l w}(h:AO g n d l w){e t f}(j:w.heap[c]? =some (.cells e t f))(k:t≠49):g≠c:=by
 rintro rfl;rcases h.1.2 with⟨i,_⟩|⟨p,m,o,b,_,a,_⟩
 .simp at i
 .simp only[Value.slice.injEq,gN,Addr.mk.injEq]at b;rw[<-b.1.1,j]at a;simp only[gN,gU]at a;exact k a.2.1
def E8(c:List Tk)(a:Nat)(b:Option Nat)(l:List UInt8):Nat×Option Nat:=
 if Bs b (tokAt c a) l=true then(a+1,b)else(a,Fv b (tokAt c a).pos)
theorem Yc(c o g n f a b d s w)(j:AI c o g n f a b w)(m:AO g n f d w)(u:a<n):
 Calls prog 51 #[.pointer (some ⟨c,0,none⟩),.string s] w fun e x=>e=.returned (.tuple #[])/\AI c o g n f (E8 d a b s.toList).1 (E8 d a b s.toList).2 x/\O (fun k=>k=c) w x:=by
 have G:=m.ne j T;have F:=m.2.2;unfold E8;cases r:Bs b (tokAt d a) s.toList with
 |false=> have v:=r;have t:D (Bs b (tokAt d a) s.toList=false):=v;clear r v;go_enter func51,ntmps51;go_wp2_with fail;refine(LW c o g n f a b d s w j m u).mono ?_;rintro e q ⟨rfl,i⟩;rw[t.o];have l:=j.d8 i (fun h=>h);have B:=m.d8 i (fun h=>h);go_wp2_with fail;refine(LJ c o g n f a b d q l B u).mono ?_;rintro e H ⟨rfl,A,z⟩;go_wp2_with fail;go_end0;exact⟨rfl,by simpa using A,(i.mono (fun _ _ h=>h.elim)).trans z⟩
 |true=> have t:D (Bs b (tokAt d a) s.toList=true):=r;clear r;go_enter func51,ntmps51;go_wp2_with fail;refine(LW c o g n f a b d s w j m u).mono ?_;rintro e q ⟨rfl,i⟩;rw[t.o];have l:=j.d8 i (fun h=>h);have C:=Ak l 1;have E:=Ay l 1;simp only[gH,gF,gG]at C;have y:D (AI c o g n f a b q):=l;clear l j m;go_wp2;go_end0;refine⟨rfl,?_,(i.mono (fun _ _ h=>h.elim)).trans ((O.refl (fun k=>k=c) q).setCell (p:=⟨c,1,none⟩) (.inl rfl) _)⟩;have:=FC (w:=q) y.o 1 (.int .i64 ((a:Int)+1));simpa[AI]using this
theorem Jc(b h g n d a c f s l)(m:s.toList=l)(w)(o:AI b h g n d a c w)(p:AO g n d f w)(j:a<n):
 Calls prog 51 #[.pointer (some ⟨b,0,none⟩),.string s] w fun e i=>e=.returned (.tuple #[])/\AI b h g n d (E8 f a c l).1 (E8 f a c l).2 i/\O (fun k=>k=b) w i:=by
 subst m;exact Yc b h g n d a c f s w o p j
theorem Rz(d h g n c a b f s l)(j:s.toList=l)(w)(k:AI d h g n c a b w)(m:AO g n c f w)(i:a<n):
 Calls prog 97 #[.pointer (some ⟨d,0,none⟩),.string s] w fun e o=>e=.returned (.bool (Bs b (tokAt f a) l))/\O kD w o:=by
 subst j;exact LW d h g n c a b f s w k m i
theorem Pk{b n a bad l}(d:(tokAt b (n-1)).sort=0)(c:a<n):a<=(E8 b a bad l).1/\(E8 b a bad l).1<n:=by
 unfold E8;split
 .rename_i h;have e:a≠n-1:=by rintro rfl;simp[Bs,Pz,d]at h
  exact⟨jY,kC⟩
 .exact⟨gI _,c⟩
def JN(t:Tk):Value:=.agg #[.string t.d9,.int .i64 t.pos,.int .i64 t.sort]
def De(c:List Tk)(a:Nat)(b:Option Nat)(d:Nat):Tk×Nat×Option Nat:=
 if b.isNone=true/\(tokAt c a).sort=d then(tokAt c a,a+1,b)else(My,a,Fv b (tokAt c a).pos)
theorem K6(f q g n j a i:Nat)(r:Option Nat)(c:List Tk)(w:World)(m:AI f q g n j a r w)(l:AO g n j c w)(F:a<n):
 Calls prog 52 #[.pointer (some ⟨f,0,none⟩),.int .i64 i] w fun e I=>e=.returned (JN (De c a r i).1)/\AI f q g n j (De c a r i).2.1 (De c a r i).2.2 I/\O (fun k=>k=f) w I:=by
 obtain⟨t0,t1,t2⟩:=l.cells F;have a0:=l.ne m T;have hn:=l.2.2;have R:=Ak m 0;have S:=Ak m 1;have G:=Ak m 2;have V:=Ay m 1;simp only[gH,gF,gG]at R S G;have lr:=Ae m;have lg:g<w.heap.size:=(l.1.lt g rfl).2;have C:D (AI f q g n j a r w):=m;have H:D (AO g n j c w):=l;clear m l;cases r with
 |some b=>
  have Y:decide ((0:Int)<=(b:Int))=true:=jY;simp only[F7]at G;have o:De c a (some b) i=(My,a,some b):=by simp[De,Fv]
  rw[o];clear o;generalize tokAt c a=t at*;go_enter func52,ntmps52;go_wp2;go_region;go_wp2_with fail;refine(LJ f q g n j a (some b) c _ ?_ ?_ F).mono ?_
  .exact(C.o).d8 (((((O.refl kD w).alloc _).alloc _)).drew) (fun h=>h)
  .exact(H.o).d8 (((((O.refl kD w).alloc _).alloc _)).drew) (fun h=>h)
  rintro e A ⟨rfl,y,p⟩;have d:A.heap[w.heap.size]? =some (.cells #[.string {data:=#[]},.int .i64 0,.int .i64 0] 49 (0,0)):=by rw[p.block w.heap.size jX Z];exact(gS _ _ _ jY).trans (heap_alloc_new w _)
  have s:=Ak d 0;have u:=Ak d 1;have x:=Ak d 2;have L:=Ay d 0;have M:=Ay d 1;have N:=Ay d 2;simp only[gH,gF,gG]at s u x;have Q:=Ae d;have E:D (AI f q g n j a (some b) A):=y;have B:=(((O.refl (fun k=>k=f) w).alloc _).alloc _).drew.trans p;clear y p d;go_wp2;refine gP (v:=JN My) (by simp[results,results52,go_sem,JN,My,s,u,x];rfl) rfl ⟨rfl,?_,?_⟩
  .exact E.o.d8 (X:=fun k=>k=w.heap.size) (by repeat(first|exact O.refl _ _|refine O.drew ?_|refine O.alloc ?_ _|refine O.t9 ?_ _ _)) Z
  .repeat(first|exact B|refine O.drew ?_|refine O.alloc ?_ _|refine O.cE ?_ _ _ (gI _))
 |none=>
  simp only[F7]at G;by_cases z:(tokAt c a).sort=i
  .have P:(((tokAt c a).sort:Int) !=(i:Int))=false:=by simp[z]
   have o:De c a none i=(tokAt c a,a+1,none):=by simp[De,z]
   rw[o];clear o z;generalize tokAt c a=t at*;go_enter func52,ntmps52;go_wp2;go_region;go_wp2;refine gP (v:=JN t) (by simp[results,results52,go_sem,JN]) rfl ⟨rfl,?_,?_⟩
   .refine AI.d8 (X:=kD) (w:=w.setCell ⟨f,1,none⟩ (.int .i64 ((a:Int)+1))) ?_ (((O.refl _ _).alloc _).alloc _).drew (fun h=>h);have:=FC (w:=w) C.o 1 (.int .i64 ((a:Int)+1));simpa[AI]using this
   .repeat(first|exact O.refl _ _|refine O.drew ?_|refine O.alloc ?_ _|refine O.t9 ?_ _ _)
  .have P:(((tokAt c a).sort:Int) !=(i:Int))=true:=jX;have o:De c a none i=(My,a,Fv none (tokAt c a).pos):=by simp[De,z]
   rw[o];clear o z;have U:D (Fv none (tokAt c a).pos=some (tokAt c a).pos):=rfl;generalize l:tokAt c a=t at*;have K:D (tokAt c a=t):=l;clear l;go_enter func52,ntmps52;go_wp2;go_region;go_wp2_with fail;refine(LJ f q g n j a none c _ ?_ ?_ F).mono ?_
   .exact(C.o).d8 (((((O.refl kD w).alloc _).alloc _)).drew) (fun h=>h)
   .exact(H.o).d8 (((((O.refl kD w).alloc _).alloc _)).drew) (fun h=>h)
   rw[K.o];rintro e A ⟨rfl,y,p⟩;have d:A.heap[w.heap.size]? =some (.cells #[.string {data:=#[]},.int .i64 0,.int .i64 0] 49 (0,0)):=by rw[p.block w.heap.size jX Z];exact(gS _ _ _ jY).trans (heap_alloc_new w _)
   have s:=Ak d 0;have u:=Ak d 1;have x:=Ak d 2;have L:=Ay d 0;have M:=Ay d 1;have N:=Ay d 2;simp only[gH,gF,gG]at s u x;have Q:=Ae d;have E:D (AI f q g n j a (Fv none t.pos) A):=y;have B:=(((O.refl (fun k=>k=f) w).alloc _).alloc _).drew.trans p;clear y p d;go_wp2;refine gP (v:=JN My) (by simp[results,results52,go_sem,JN,My,s,u,x];rfl) rfl ⟨rfl,?_,?_⟩
   .exact E.o.d8 (X:=fun k=>k=w.heap.size) (by repeat(first|exact O.refl _ _|refine O.drew ?_|refine O.alloc ?_ _|refine O.t9 ?_ _ _)) Z
   .repeat(first|exact B|refine O.drew ?_|refine O.alloc ?_ _|refine O.cE ?_ _ _ (gI _))
theorem Tryz.infoTk:(Tryz.prog.info? 49).map (fun i=>(i.zero,i.size,i.bytes))=some (some (.agg #[.string ByteArray.empty,.int .i64 0,.int .i64 0]),3,32):=jW
theorem Lt(w:World)(a b c:Value)(t:TypeId):∀j u,[a,b,c][j]? =some u->(w.alloc (.cells #[a,b,c] t)).cell? ((⟨w.heap.size,0,none⟩:Addr).add j)=some u:=by
 intro j u h;rcases j with _|_|_|j
 .simp at h;subst h;simp[Addr.add]
 .simpa[Addr.add]using h
 .simpa[Addr.add]using h
 .simp at h
theorem C6{w:World}{g:Nat}(d:g=w.heap.size)(a b c:Value)(t:TypeId):∀j u,[a,b,c][j]? =some u->(w.alloc (.cells #[a,b,c] t)).cell? ((⟨g,0,none⟩:Addr).add j)=some u:=by subst d;exact Lt w a b c t
def YI(w:World)(s:ByteArray)(V:Nat ⊕ List Tk)(e:Ending)(a:World):Prop:=
 match V with
 |.inl p=>e=.returned (.tuple #[.slice none 0 0,.int .i64 p,.bool false])/\Below w.heap.size w a
 |.inr l=>∃v,e=.returned (.tuple #[v,.int .i64 0,.bool true])/\a.ownsRow w.heap.size 49 3 v (l.length+1) (Bc (l++[⟨ByteArray.empty,s.size,0⟩]))/\Below w.heap.size w a
theorem FK(s)(q:s.size<=4000)(w):
 Calls prog 17 #[.string s] w fun e b=>YI w s (BA s s.size 0 []) e b:=by
 obtain⟨X,Q,R,S,U⟩:=info_parts Tryz.infoTk;generalize hV:BA s s.size 0 []=V;have HV:D (BA s s.size 0 []=V):=hV;clear hV;go_enter func17,ntmps17;go_wp2;go_loopw[5,6] (fun v j wr=>∃(k f:Nat) (c:List Tk),k<=s.size/\c.length<=k/\j=.int .i64 k/\wr.ownsRow w.heap.size 49 3 v c.length (Bc c)/\Below w.heap.size w wr/\s.size-k<=f/\D (BA s f k c=V)) (fun _ j _=>s.size-(intOf j).toNat)
 case atStart=>exact⟨0,s.size,[],Z,jY,rfl,gR _ _ _ _,Below.refl _ _,Z,HV⟩
 case round=>
  obtain⟨k,f,c,M,a5,rfl,r,d,C,i⟩:=hrel;clear HV;by_cases h:k<s.size
  .have b3:=EY s k h;by_cases l:(A6 s k).2=0
   .have H:V=.inl k:=by rw[<-i.o,Dv (p:=k) C h (by unfold A9;rw[jH l])]
    subst H;have a4:(((A6 s k).2:Int)==0)=true:=by simp[l]
    clear i l;go_wp2_with(first|(go_at_call 45;refine(BM _ _ ?_ ?_ _).mono ?_;exact h;exact q;rintro e b ⟨rfl,a⟩;have a:=a.symm;subst a)|(go_at_call 46;refine(Bw _ _).mono ?_;rintro e b ⟨rfl,a⟩;have a:=a.symm;subst a)|(go_at_call 47;refine(CZ _ _).mono ?_;rintro e b ⟨rfl,a⟩;have a:=a.symm;subst a));go_ret3;exact⟨rfl,d⟩
   .have a4:(((A6 s k).2:Int)==0)=false:=by simp[l]
    by_cases g:(A6 s k).1=32\/(A6 s k).1=9\/(A6 s k).1=10
    .obtain⟨m,z,o⟩:=CH (acc:=c) C h (t:=none) (j:=k+1) (by unfold A9;rw[jG l,jH g]);have y:D (BA s m (k+1) c=V):=by rw[show c=c++(none:Option Tk).toList from jY,<-o];exact i.o
     clear i o;rcases g with g|g|g
     .have e1:(((A6 s k).1:Int)==32)=true:=by simp[g]
      clear g;go_wp2_with(first|(go_at_call 45;refine(BM _ _ ?_ ?_ _).mono ?_;exact h;exact q;rintro e b ⟨rfl,a⟩;have a:=a.symm;subst a)|(go_at_call 46;refine(Bw _ _).mono ?_;rintro e b ⟨rfl,a⟩;have a:=a.symm;subst a)|(go_at_call 47;refine(CZ _ _).mono ?_;rintro e b ⟨rfl,a⟩;have a:=a.symm;subst a));go_roundw
      case rel=>exact⟨k+1,m,c,Z,Z,by go_num,r,d,z,y⟩
      case measure=>simp[intOf];omega
     .have e1:(((A6 s k).1:Int)==32)=false:=by simp[g]
      have e2:(((A6 s k).1:Int)==9)=true:=by simp[g]
      clear g;go_wp2_with(first|(go_at_call 45;refine(BM _ _ ?_ ?_ _).mono ?_;exact h;exact q;rintro e b ⟨rfl,a⟩;have a:=a.symm;subst a)|(go_at_call 46;refine(Bw _ _).mono ?_;rintro e b ⟨rfl,a⟩;have a:=a.symm;subst a)|(go_at_call 47;refine(CZ _ _).mono ?_;rintro e b ⟨rfl,a⟩;have a:=a.symm;subst a));go_roundw
      case rel=>exact⟨k+1,m,c,Z,Z,by go_num,r,d,z,y⟩
      case measure=>simp[intOf];omega
     .have e1:(((A6 s k).1:Int)==32)=false:=by simp[g]
      have e2:(((A6 s k).1:Int)==9)=false:=by simp[g]
      have e3:(((A6 s k).1:Int)==10)=true:=by simp[g]
      clear g;go_wp2_with(first|(go_at_call 45;refine(BM _ _ ?_ ?_ _).mono ?_;exact h;exact q;rintro e b ⟨rfl,a⟩;have a:=a.symm;subst a)|(go_at_call 46;refine(Bw _ _).mono ?_;rintro e b ⟨rfl,a⟩;have a:=a.symm;subst a)|(go_at_call 47;refine(CZ _ _).mono ?_;rintro e b ⟨rfl,a⟩;have a:=a.symm;subst a));go_roundw
      case rel=>exact⟨k+1,m,c,Z,Z,by go_num,r,d,z,y⟩
      case measure=>simp[intOf];omega
    .have e1:(((A6 s k).1:Int)==32)=false:=jX;have e2:(((A6 s k).1:Int)==9)=false:=jX;have e3:(((A6 s k).1:Int)==10)=false:=jX;by_cases n:(A6 s k).1=35
     .have e4:(((A6 s k).1:Int)==35)=true:=by simp[n]
      have a8:=Lx s s.size k M;by_cases a0:(FQ s s.size k).2=true
      .have a2:A9 s k=.inr (none,(FQ s s.size k).1):=by unfold A9;rw[jG l,jG g,jH n,jH a0]
       have a6:=GS h a2;obtain⟨m,z,o⟩:=CH (acc:=c) C h a2;have y:D (BA s m (FQ s s.size k).1 c=V):=by rw[show c=c++(none:Option Tk).toList from jY,<-o];exact i.o
       clear i o a2 n g l;go_wp2_with(first|(go_at_call 45;refine(BM _ _ ?_ ?_ _).mono ?_;exact h;exact q;rintro e b ⟨rfl,a⟩;have a:=a.symm;subst a)|(go_at_call 46;refine(Bw _ _).mono ?_;rintro e b ⟨rfl,a⟩;have a:=a.symm;subst a)|(go_at_call 47;refine(CZ _ _).mono ?_;rintro e b ⟨rfl,a⟩;have a:=a.symm;subst a)|(go_at_call 48;refine(Ko s k s.size ?_ ?_ ?_ _).mono ?_;exact M;exact q;omega;rintro e b ⟨rfl,a⟩;have a:=a.symm;subst a));go_roundw
       case rel=>exact⟨(FQ s s.size k).1,m,c,Z,Z,by go_num,r,d,z,y⟩
       case measure=>simp[intOf];omega
      .have H:V=.inl (FQ s s.size k).1:=by rw[<-i.o,Dv (p:=(FQ s s.size k).1) C h (by unfold A9;rw[jG l,jG g,jH n,jG a0])]
       subst H;have a7:(FQ s s.size k).2=false:=by simpa using a0
       clear i n g l a0;go_wp2_with(first|(go_at_call 45;refine(BM _ _ ?_ ?_ _).mono ?_;exact h;exact q;rintro e b ⟨rfl,a⟩;have a:=a.symm;subst a)|(go_at_call 46;refine(Bw _ _).mono ?_;rintro e b ⟨rfl,a⟩;have a:=a.symm;subst a)|(go_at_call 47;refine(CZ _ _).mono ?_;rintro e b ⟨rfl,a⟩;have a:=a.symm;subst a)|(go_at_call 48;refine(Ko s k s.size ?_ ?_ ?_ _).mono ?_;exact M;exact q;omega;rintro e b ⟨rfl,a⟩;have a:=a.symm;subst a));go_ret3;exact⟨rfl,d⟩
     .have e4:(((A6 s k).1:Int)==35)=false:=jX;by_cases B:Gy (A6 s k).1=true
      .have b6:=IP s s.size k 0 M;have b5:=NN h l B;by_cases P:Vi (s.extract k (Dt s s.size k 0).1).toList=true
       .obtain⟨m,z,o⟩:=CH (acc:=c) C h (t:=some ⟨s.extract k (Dt s s.size k 0).1,k,2⟩) (j:=(Dt s s.size k 0).1) (by unfold A9;rw[jG l,jG g,jG n,jH B,jH P]);have y:D (BA s m (Dt s s.size k 0).1 (c++[⟨s.extract k (Dt s s.size k 0).1,k,2⟩])=V):=by rw[show[(⟨s.extract k (Dt s s.size k 0).1,k,2⟩:Tk)]=(some (⟨s.extract k (Dt s s.size k 0).1,k,2⟩:Tk)).toList from jY,<-o];exact i.o
        clear i o n g l;go_wp2_with(first|(go_at_call 45;refine(BM _ _ ?_ ?_ _).mono ?_;exact h;exact q;rintro e b ⟨rfl,a⟩;have a:=a.symm;subst a)|(go_at_call 46;refine(Bw _ _).mono ?_;rintro e b ⟨rfl,a⟩;have a:=a.symm;subst a)|(go_at_call 47;refine(CZ _ _).mono ?_;rintro e b ⟨rfl,a⟩;have a:=a.symm;subst a)|(go_at_call 49;refine(MF s k s.size ?_ ?_ ?_ _).mono ?_;exact M;exact q;omega;rintro e b ⟨rfl,a⟩;have a:=a.symm;subst a)|(go_at_call 50;refine(GQ _ _).mono ?_;rintro e b ⟨rfl,a⟩;have a:=a.symm;subst a)|(at_builtin;refine iQ _ rfl _ _ 38 rfl w.heap.size 49 X (.agg #[.string ByteArray.empty,.int .i64 0,.int .i64 0]) 3 32 underlying38 Q R S U rfl T _ _ _ rfl ((r.alloc _).alloc _) ⟨wr.heap.size+1,0,none⟩ 1 1 [.string (s.extract k (Dt s s.size k 0).1),.int .i64 (k:Int),.int .i64 2] rfl rfl (C6 jY _ _ _ _) (fun x u=>by simp at u;rcases u with rfl|rfl|rfl<;>rfl) jZ Z (by have:=d.size;simp;omega) ?_;intro Y I G A L));have E:Below w.heap.size w I:=Below.grown ((d.alloc d.size _).alloc (by have:=d.size;simp;omega) _) A (by have:=d.size;simp;omega) (fun j F=>(r.lt j F).1);clear A L;go_wp2;go_roundw
        case rel=>exact⟨(Dt s s.size k 0).1,m,c++[⟨s.extract k (Dt s s.size k 0).1,k,2⟩],Z,jX,by go_num,by rw[Da,gM];exact G,E,z,y⟩
        case measure=>simp[intOf];omega
       .have b1:Vi (s.extract k (Dt s s.size k 0).1).toList=false:=by simpa using P
        by_cases a3:8<(Dt s s.size k 0).2
        .have H:V=.inl k:=by rw[<-i.o,Dv (p:=k) C h (by unfold A9;rw[jG l,jG g,jG n,jH B,jG P,jH a3])]
         subst H;clear i n g l P;go_wp2_with(first|(go_at_call 45;refine(BM _ _ ?_ ?_ _).mono ?_;exact h;exact q;rintro e b ⟨rfl,a⟩;have a:=a.symm;subst a)|(go_at_call 46;refine(Bw _ _).mono ?_;rintro e b ⟨rfl,a⟩;have a:=a.symm;subst a)|(go_at_call 47;refine(CZ _ _).mono ?_;rintro e b ⟨rfl,a⟩;have a:=a.symm;subst a)|(go_at_call 49;refine(MF s k s.size ?_ ?_ ?_ _).mono ?_;exact M;exact q;omega;rintro e b ⟨rfl,a⟩;have a:=a.symm;subst a)|(go_at_call 50;refine(GQ _ _).mono ?_;rintro e b ⟨rfl,a⟩;have a:=a.symm;subst a));go_ret3;exact⟨rfl,d.alloc d.size _⟩
        .obtain⟨m,z,o⟩:=CH (acc:=c) C h (t:=some ⟨s.extract k (Dt s s.size k 0).1,k,1⟩) (j:=(Dt s s.size k 0).1) (by unfold A9;rw[jG l,jG g,jG n,jH B,jG P,jG a3]);have y:D (BA s m (Dt s s.size k 0).1 (c++[⟨s.extract k (Dt s s.size k 0).1,k,1⟩])=V):=by rw[show[(⟨s.extract k (Dt s s.size k 0).1,k,1⟩:Tk)]=(some (⟨s.extract k (Dt s s.size k 0).1,k,1⟩:Tk)).toList from jY,<-o];exact i.o
         clear i o n g l P;go_wp2_with(first|(go_at_call 45;refine(BM _ _ ?_ ?_ _).mono ?_;exact h;exact q;rintro e b ⟨rfl,a⟩;have a:=a.symm;subst a)|(go_at_call 46;refine(Bw _ _).mono ?_;rintro e b ⟨rfl,a⟩;have a:=a.symm;subst a)|(go_at_call 47;refine(CZ _ _).mono ?_;rintro e b ⟨rfl,a⟩;have a:=a.symm;subst a)|(go_at_call 49;refine(MF s k s.size ?_ ?_ ?_ _).mono ?_;exact M;exact q;omega;rintro e b ⟨rfl,a⟩;have a:=a.symm;subst a)|(go_at_call 50;refine(GQ _ _).mono ?_;rintro e b ⟨rfl,a⟩;have a:=a.symm;subst a)|(at_builtin;refine iQ _ rfl _ _ 38 rfl w.heap.size 49 X (.agg #[.string ByteArray.empty,.int .i64 0,.int .i64 0]) 3 32 underlying38 Q R S U rfl T _ _ _ rfl ((r.alloc _).alloc _) ⟨wr.heap.size+1,0,none⟩ 1 1 [.string (s.extract k (Dt s s.size k 0).1),.int .i64 (k:Int),.int .i64 1] rfl rfl (C6 jY _ _ _ _) (fun x u=>by simp at u;rcases u with rfl|rfl|rfl<;>rfl) jZ Z (by have:=d.size;simp;omega) ?_;intro Y I G A L));have E:Below w.heap.size w I:=Below.grown ((d.alloc d.size _).alloc (by have:=d.size;simp;omega) _) A (by have:=d.size;simp;omega) (fun j F=>(r.lt j F).1);clear A L;go_wp2;go_roundw
         case rel=>exact⟨(Dt s s.size k 0).1,m,c++[⟨s.extract k (Dt s s.size k 0).1,k,1⟩],Z,jX,by go_num,by rw[Da,gM];exact G,E,z,y⟩
         case measure=>simp[intOf];omega
      .have b2:Gy (A6 s k).1=false:=by simpa using B
       by_cases K:48<=(A6 s k).1/\(A6 s k).1<=51
       .have a9:48<=(A6 s k).1:=K.1;have b0:(A6 s k).1<=51:=K.2;obtain⟨m,z,o⟩:=CH (acc:=c) C h (t:=some ⟨s.extract k (k+1),k,3⟩) (j:=k+1) (by unfold A9;rw[jG l,jG g,jG n,jG B,jH K]);have y:D (BA s m (k+1) (c++[⟨s.extract k (k+1),k,3⟩])=V):=by rw[show[(⟨s.extract k (k+1),k,3⟩:Tk)]=(some (⟨s.extract k (k+1),k,3⟩:Tk)).toList from jY,<-o];exact i.o
        clear i o n g l B K;go_wp2_with(first|(go_at_call 45;refine(BM _ _ ?_ ?_ _).mono ?_;exact h;exact q;rintro e b ⟨rfl,a⟩;have a:=a.symm;subst a)|(go_at_call 46;refine(Bw _ _).mono ?_;rintro e b ⟨rfl,a⟩;have a:=a.symm;subst a)|(go_at_call 47;refine(CZ _ _).mono ?_;rintro e b ⟨rfl,a⟩;have a:=a.symm;subst a)|(at_builtin;refine iQ _ rfl _ _ 38 rfl w.heap.size 49 X (.agg #[.string ByteArray.empty,.int .i64 0,.int .i64 0]) 3 32 underlying38 Q R S U rfl T _ _ _ rfl (r.alloc _) ⟨wr.heap.size,0,none⟩ 1 1 [.string (s.extract k (k+1)),.int .i64 (k:Int),.int .i64 3] rfl rfl (C6 jY _ _ _ _) (fun x u=>by simp at u;rcases u with rfl|rfl|rfl<;>rfl) jZ Z (by have:=d.size;simp;omega) ?_;intro Y I G A L));have E:Below w.heap.size w I:=Below.grown (d.alloc d.size _) A (by have:=d.size;simp;omega) (fun j F=>(r.lt j F).1);clear A L;go_wp2;go_roundw
        case rel=>exact⟨k+1,m,c++[⟨s.extract k (k+1),k,3⟩],Z,jX,by go_num,by rw[Da,gM];exact G,E,z,y⟩
        case measure=>simp[intOf];omega
       .have N:(A6 s k).1<48\/51<(A6 s k).1:=Z;by_cases a1:G6 (A6 s k).1=true
        .obtain⟨m,z,o⟩:=CH (acc:=c) C h (t:=some ⟨s.extract k (k+1),k,4⟩) (j:=k+1) (by unfold A9;rw[jG l,jG g,jG n,jG B,jG K,jH a1]);have y:D (BA s m (k+1) (c++[⟨s.extract k (k+1),k,4⟩])=V):=by rw[show[(⟨s.extract k (k+1),k,4⟩:Tk)]=(some (⟨s.extract k (k+1),k,4⟩:Tk)).toList from jY,<-o];exact i.o
         clear i o n g l B K;rcases N with N|N
         all_goals
          go_wp2_with(first|(go_at_call 45;refine(BM _ _ ?_ ?_ _).mono ?_;exact h;exact q;rintro e b ⟨rfl,a⟩;have a:=a.symm;subst a)|(go_at_call 46;refine(Bw _ _).mono ?_;rintro e b ⟨rfl,a⟩;have a:=a.symm;subst a)|(go_at_call 47;refine(CZ _ _).mono ?_;rintro e b ⟨rfl,a⟩;have a:=a.symm;subst a)|(at_builtin;refine iQ _ rfl _ _ 38 rfl w.heap.size 49 X (.agg #[.string ByteArray.empty,.int .i64 0,.int .i64 0]) 3 32 underlying38 Q R S U rfl T _ _ _ rfl (r.alloc _) ⟨wr.heap.size,0,none⟩ 1 1 [.string (s.extract k (k+1)),.int .i64 (k:Int),.int .i64 4] rfl rfl (C6 jY _ _ _ _) (fun x u=>by simp at u;rcases u with rfl|rfl|rfl<;>rfl) jZ Z (by have:=d.size;simp;omega) ?_;intro Y I G A L));have E:Below w.heap.size w I:=Below.grown (d.alloc d.size _) A (by have:=d.size;simp;omega) (fun j F=>(r.lt j F).1);clear A L;go_wp2;go_roundw
          case rel=>exact⟨k+1,m,c++[⟨s.extract k (k+1),k,4⟩],Z,jX,by go_num,by rw[Da,gM];exact G,E,z,y⟩
          case measure=>simp[intOf];omega
        .have H:V=.inl k:=by rw[<-i.o,Dv (p:=k) C h (by unfold A9;rw[jG l,jG g,jG n,jG B,jG K,jG a1])]
         subst H;have b4:G6 (A6 s k).1=false:=by simpa using a1
         clear i n g l B K a1;rcases N with N|N
         all_goals
          go_wp2_with(first|(go_at_call 45;refine(BM _ _ ?_ ?_ _).mono ?_;exact h;exact q;rintro e b ⟨rfl,a⟩;have a:=a.symm;subst a)|(go_at_call 46;refine(Bw _ _).mono ?_;rintro e b ⟨rfl,a⟩;have a:=a.symm;subst a)|(go_at_call 47;refine(CZ _ _).mono ?_;rintro e b ⟨rfl,a⟩;have a:=a.symm;subst a));go_ret3;exact⟨rfl,d⟩
  .have H:V=.inr c:=by rw[<-i.o,Gp h]
   subst H;clear i;go_wp2_with((at_builtin;refine iQ _ rfl _ _ 38 rfl w.heap.size 49 X (.agg #[.string ByteArray.empty,.int .i64 0,.int .i64 0]) 3 32 underlying38 Q R S U rfl T _ _ _ rfl (r.alloc _) ⟨wr.heap.size,0,none⟩ 1 1 [.string ByteArray.empty,.int .i64 (s.size:Int),.int .i64 0] rfl rfl (C6 jY _ _ _ _) (fun x u=>by simp at u;rcases u with rfl|rfl|rfl<;>rfl) jZ Z (by have:=d.size;simp;omega) ?_;intro Y I G A L));have E:Below w.heap.size w I:=Below.grown (d.alloc d.size _) A (by have:=d.size;simp;omega) (fun j F=>(r.lt j F).1);go_wp2;go_ret3;exact⟨Y,rfl,by rw[Da];exact G,E⟩
def DG(d:List Tk):Nat->Nat->Option Nat->List Tk->List Tk×Nat×Option Nat
 |0,a,b,c=>(c,a,b)
 |f+1,a,b,c=>if b=none/\(tokAt d a).sort=1 then DG d f (a+1) b (c++[tokAt d a])else(c,a,b)
theorem Ge{d f b a c}(h:¬(a=none/\(tokAt d b).sort=1)):DG d f b a c=(c,b,a):=by
 cases f with
 |zero=>rfl
 |succ f=>simp only[DG,jG h]
theorem S3{b f a n c acc}(i:n-1-a<=f)(g:a<n)(e:(tokAt b (n-1)).sort=0)(h:c=none/\(tokAt b a).sort=1):
 a+1<n/\∃d,n-1-(a+1)<=d/\DG b f a c acc=DG b d (a+1) c (acc++[tokAt b a]):=by
 have j:a≠n-1:=by rintro rfl;rw[e]at h;omega
 refine⟨Z,?_⟩;cases f with
 |zero=>omega
 |succ f=>exact⟨f,Z,by simp only[DG];rw[jH h]⟩
theorem PN{d:List Tk}{n:Nat}(e:(tokAt d (n-1)).sort=0):∀(f a:Nat) (b:Option Nat) (c:List Tk),a<n->a<=(DG d f a b c).2.1/\(DG d f a b c).2.1<n/\(DG d f a b c).2.2=b
 |0,a,b,c,h=>by unfold DG;exact⟨gI _,h,rfl⟩
 |f+1,a,b,c,h=>by
  simp only[DG];split
  .rename_i g;have i:a≠n-1:=by rintro rfl;rw[e]at g;omega
   have:=PN e f (a+1) b (c++[tokAt d a]) Z;exact⟨Z,this.2⟩
  .exact⟨gI _,h,rfl⟩
def Nz(a:Nat)(w:World):Nat:=match w.cell? ⟨a,1,none⟩with|some v=>(intOf v).toNat|none=>0
theorem Mh{b e g n d a c w}(h:AI b e g n d a c w):Nz b w=a:=by have:=Ak h 1;simp only[gH,gF,gG]at this;simp[Nz,this,intOf]
def CM(a:List Tk)(c:Nat)(b:Option Nat):List Tk×Nat×Option Nat:=
 ((DG a a.length c b []).1,E8 a (DG a a.length c b []).2.1 (DG a a.length c b []).2.2 [41])
theorem PK(c s g n d q o a w)(l:AI c s g n d q o w)(m:AO g n d a w)(hc:q<n)(hz:(tokAt a (n-1)).sort=0):
 Calls prog 53 #[.pointer (some ⟨c,0,none⟩)] w fun e L=>∃v,e=.returned v/\L.ownsRow w.heap.size 49 3 v (CM a q o).1.length (Bc (CM a q o).1)/\AI c s g n d (CM a q o).2.1 (CM a q o).2.2 L/\O (fun k=>k=c) w L:=by
 obtain⟨i0,hi,b6,b7,b8⟩:=info_parts Tryz.infoTk;have hn:=m.2.2;have a3:=m.2.1;have b3:=m.ne l T;have lr:=Ae l;have lg:g<w.heap.size:=(m.1.lt g rfl).2;unfold CM;generalize hV:DG a a.length q o []=V;have S:D (DG a a.length q o []=V):=hV;have HZ:D ((tokAt a (n-1)).sort=0):=hz;have M:D (AI c s g n d q o w):=l;have Q:D (AO g n d a w):=m;have a7:D (n=a.length):=a3;clear hV hz l m a3;go_enter func53,ntmps53;go_wp2;go_loopw[3] (fun v wr=>∃(k f:Nat) (i:List Tk),k<n/\i.length<=k/\D (AI c s g n d k o wr)/\D (AO g n d a wr)/\wr.ownsRow w.heap.size 49 3 v i.length (Bc i)/\O (fun k=>k=c) w wr/\n-1-k<=f/\D (DG a f k o i=V)) (fun _ wr=>n-Nz c wr)
 case atStart=>exact⟨q,a.length,[],hc,jY,M,Q,gR _ _ _ _,O.refl _ _,by have:=a7.o;omega,S⟩
 case round=>
  obtain⟨k,f,i,C,c0,l,m,u,H,hf,z⟩:=hrel;clear S M Q;obtain⟨t0,t1,t2⟩:=m.o.cells C;have r0:=Ak l.o 0;have r1:=Ak l.o 1;have G:=Ak l.o 2;simp only[gH,gF,gG]at r0 r1 G;have a0:=Mh l.o;have a5:D (Nz c wr=k):=a0;clear a0;cases o with
  |some b=>
   simp only[F7]at G;have hb:decide ((b:Int)<0)=false:=jY;have K:V=(i,k,some b):=by rw[<-z.o,Ge jY]
   subst K;clear z;go_wp2_with fail;go_quiet(fail);go_wp2_with fail;refine(Jc c s g n d k (some b) a _ [41] jY (wr.drewN nq) l.o m.o C).mono ?_;rintro e t ⟨rfl,y,r⟩;go_wp2_with fail;go_ret;refine⟨_,rfl,?_,y,(H.drewN nq).trans r⟩;exact Ac (w:=wr.drewN nq) u r (fun j p=>by have:=(u.lt j p).1;omega)
  |none=>
   simp only[F7]at G;by_cases B:(tokAt a k).sort=1
   .have Y:(((tokAt a k).sort:Int)==1)=true:=by simp[B]
    obtain⟨b2,U,b0,a1⟩:=S3 (acc:=i) hf C HZ.o ⟨rfl,B⟩;have HF:D (DG a U (k+1) none (i++[tokAt a k])=V):=by rw[<-a1];exact z.o
    have HG:D (De a k none 1=(tokAt a k,k+1,none)):=by show _=_;simp[De,B]
    clear z a1 B;go_wp2_with fail;go_quiet(fail);go_wp2_with fail;refine(K6 c s g n d k 1 none a (wr.drewN nq) l.o m.o C).mono ?_;rw[HG.o];rintro e t ⟨rfl,y,r⟩;have E:=Ac (w:=wr.drewN nq) u r (fun j p=>by have:=(u.lt j p).1;omega);have I:=(H.drewN nq).trans r;have N:D (AI c s g n d (k+1) none t):=y;have R:D (AO g n d a t):=(AO.d8 (w:=wr.drewN nq) m.o r b3);have c1:=I.size;have b9:c<t.heap.size:=Ae y;clear y r t0 t1 t2 r0 r1 G l m Y;unfold JN;go_wp2_with(at_builtin;refine iQ _ rfl _ _ 38 rfl w.heap.size 49 i0 (.agg #[.string ByteArray.empty,.int .i64 0,.int .i64 0]) 3 32 underlying38 hi b6 b7 b8 rfl T _ _ _ rfl ((E.alloc _).alloc _) ⟨t.heap.size+1,0,none⟩ 1 1 [.string (tokAt a k).d9,.int .i64 ((tokAt a k).pos:Int),.int .i64 ((tokAt a k).sort:Int)] rfl rfl (C6 jY _ _ _ _) (fun x hx=>by simp at hx;rcases hx with rfl|rfl|rfl<;>rfl) jZ Z jX ?_;intro v' A a4 F b4);have b5:O (fun k=>k=c) w A:=O.grown ((I.alloc _).alloc _) F (fun j p=>.inr (E.lt j p).1);have a2:∀j,j<t.heap.size->some j≠u3.ownBlock->A.heap[j]? =t.heap[j]? :=fun j p b1=>(F.block j jX b1).trans ((gS _ _ _ jX).trans (gS _ _ _ p))
    have P:D (AI c s g n d (k+1) none A):=by show _=_;rw[a2 c b9 (fun h=>by have:=(E.lt _ h.symm).1;omega)];exact N.o
    have a9:D (AO g n d a A):=by refine AO.d8 (w:=t) (X:=fun j=>u3.ownBlock=some j) R.o ?_ (fun h=>by have:=(E.lt _ h).1;omega);exact O.grown (((O.refl _ _).alloc _).alloc _) F (fun j p=>.inl p)
    have a8:D (A.ownsRow w.heap.size 49 3 v' (i.length+1) (Bc i++Cz (tokAt a k))):=a4;have a6:D (Nz c A=k+1):=Mh P.o;clear F b4 a4 a2 u E N R I;go_wp2;go_roundw
    case rel=>exact⟨k+1,U,i++[tokAt a k],b2,jX,P,a9,by rw[Da,gM];exact a8.o,b5,b0,HF⟩
    case measure=>rw[a6.o,a5.o];omega
   .have Y:(((tokAt a k).sort:Int)==1)=false:=jX;have K:V=(i,k,none):=by rw[<-z.o,Ge (fun h=>B h.2)]
    subst K;clear z;go_wp2_with fail;go_quiet(fail);go_wp2_with fail;refine(Jc c s g n d k none a _ [41] jY (wr.drewN nq) l.o m.o C).mono ?_;rintro e t ⟨rfl,y,r⟩;go_wp2_with fail;go_ret;refine⟨_,rfl,?_,y,(H.drewN nq).trans r⟩;exact Ac (w:=wr.drewN nq) u r (fun j p=>by have:=(u.lt j p).1;omega)
def AF(t:Tk):List UInt8:=if t.sort=2\/t.sort=4 then t.d9.toList else[]
structure St where
 bZ:Nat
 cB:Option Nat
 pl:Nat
 ca:Nat
def Aw(d:List Tk)(l:List UInt8)(x:St):St:=⟨(E8 d x.bZ x.cB l).1,(E8 d x.bZ x.cB l).2,x.pl,x.ca⟩
def Bm(d:List Tk)(a:Nat)(x:St):Tk×St:=((De d x.bZ x.cB a).1,⟨(De d x.bZ x.cB a).2.1,(De d x.bZ x.cB a).2.2,x.pl,x.ca⟩)
def BQ(d:List Tk)(x:St):List Tk×St:=((CM d x.bZ x.cB).1,⟨(CM d x.bZ x.cB).2.1,(CM d x.bZ x.cB).2.2,x.pl,x.ca⟩)
theorem VZ{d n a b c}(g:(tokAt d (n-1)).sort=0)(k:b≠0)(e:a<n):a<=(De d a c b).2.1/\(De d a c b).2.1<n:=by
 unfold De;split
 .rename_i h;have i:a≠n-1:=by rintro rfl;rw[g]at h;omega
  exact⟨jY,kC⟩
 .exact⟨gI _,e⟩
theorem Uj{d n a b}(g:(tokAt d (n-1)).sort=0)(h:a<n):a<=(CM d a b).2.1/\(CM d a b).2.1<n:=by have c:=PN g d.length a b [] h;have e:=Pk (bad:=(DG d d.length a b []).2.2) (l:=[41]) g c.2.1;unfold CM;exact⟨gW c.1 e.1,e.2⟩
def Pj(l:List UInt8)(a:Nat):Nat->Nat
 |0=>a
 |k+1=>if l=[UInt8.ofNat (48+k)]then k else Pj l a k
def C0(d:List Tk)(x:St)(s:FS):FS×St:=
 if AF (tokAt d x.bZ)=[110,101,119]then
  let b:=Aw d [110,101,119] x
  ({s with kind:=2,l7:=b.pl+1},{b with pl:=b.pl+1})
 else if AF (tokAt d x.bZ)=[38]then
  let b:=Aw d [38] x
  let a:=Bm d 1 b
  if Bs a.2.cB (tokAt d a.2.bZ) [46]=true then
   let m:=Aw d [46] a.2
   let k:=Bm d 3 m
   ({s with kind:=4,q:=a.1,field:=Pj k.1.d9.toList s.field 4},k.2)
  else({s with kind:=3,q:=a.1},a.2)
 else if AF (tokAt d x.bZ)=[42]then
  let b:=Aw d [42] x
  let a:=Bm d 1 b
  ({s with kind:=5,q:=a.1},a.2)
 else if AF (tokAt d x.bZ)=[64]then
  let b:=Aw d [64] x
  let a:=Bm d 1 b
  ({s with kind:=6,q:=a.1},a.2)
 else if AF (tokAt d x.bZ)=[40]then
  let b:=Aw d [40] x
  let g:=Aw d [42] b
  let e:=Bm d 1 g
  let n:=Aw d [41] e.2
  let h:=Aw d [40] n
  let i:St:={h with ca:=h.ca+1}
  let l:=BQ d i
  ({s with kind:=9,q:=e.1,l7:=i.ca,args:=l.1},l.2)
 else
  let c:=Bm d 1 x
  if Bs c.2.cB (tokAt d c.2.bZ) [40]=true then
   let g:=Aw d [40] c.2
   let e:=BQ d g
   ({s with kind:=8,q:=c.1,args:=e.1},e.2)
  else({s with kind:=7,q:=c.1},c.2)
def Bo(s:FS)(a b c:Value):Array Value:=
 #[.int .i64 s.kind,.string s.p.d9,.int .i64 s.p.pos,.int .i64 s.p.sort,.string s.q.d9,.int .i64 s.q.pos,.int .i64 s.q.sort,.int .i64 s.field,a,.int .i64 s.l7,b,c,.int .i64 s.br,.int .i64 s.dG,.int .i64 s.cS]
def BZ(f:Nat)(p v:Value)(b a:Nat)(w:World):Prop:=w.heap[f]? =some (.cells #[p,v,.int .i64 b,.int .i64 a] 47 (0,0))
theorem BZ.bY{f p v b a w}(h:BZ f p v b a w):W f #[p,v,.int .i64 b,.int .i64 a] 47 w:=h
theorem AI.bY{j f g n o b a w}(h:AI j f g n o b a w):W j #[.slice (some ⟨g,0,none⟩) n o,.int .i64 b,.int .i64 (F7 a),.pointer (some ⟨f,0,none⟩)] 143 w:=h
structure VF(j f y A g n o:Nat)(d:List Tk)(p v:Value)(x:St)(C B:Array Value)(w:World):Prop where
 rd:AI j f g n o x.bZ x.cB w
 tk:AO g n o d w
 pr:BZ f p v x.pl x.ca w
 sx:W y C 92 w
 ox:W A B 92 w
 ne:y≠A
section
variable{j f y A g n o:Nat}{d:List Tk}{p v:Value}{x:St}{C B:Array Value}{w E:World}
theorem VF.dP(h:VF j f y A g n o d p v x C B w):g≠j/\f≠j/\y≠j/\A≠j/\g≠f/\y≠f/\A≠f/\g≠y/\g≠A:=
 ⟨h.tk.ne h.rd T,h.pr.bY.ne h.rd.bY T,h.sx.ne h.rd.bY T,h.ox.ne h.rd.bY T,h.tk.ne h.pr T,h.sx.ne h.pr.bY T,h.ox.ne h.pr.bY T,h.tk.ne h.sx T,h.tk.ne h.ox T⟩
theorem VF.call{c b}(h:VF j f y A g n o d p v x C B w)(e:O (fun k=>k=j) w E)(i:AI j f g n o c b E):VF j f y A g n o d p v ⟨c,b,x.pl,x.ca⟩ C B E:=by have a:=h.dP;exact⟨i,h.tk.d8 e a.1,h.pr.bY.d8 e a.2.1,h.sx.d8 e a.2.2.1,h.ox.d8 e a.2.2.2.1,h.ne⟩
theorem VF.quiet(h:VF j f y A g n o d p v x C B w)(a:O kD w E):VF j f y A g n o d p v x C B E:=
 ⟨h.rd.d8 a id,h.tk.d8 a id,h.pr.bY.d8 a id,h.sx.d8 a id,h.ox.d8 a id,h.ne⟩
theorem VF.cK(h:VF j f y A g n o d p v x C B w)(i u):VF j f y A g n o d p v x (C.setIfInBounds i u) B (w.setCell ⟨y,i,none⟩ u):=by have a:=h.dP;exact⟨h.rd.bY.cQ i u a.2.2.1.symm,h.tk.d8 ((O.refl (fun k=>k=y) w).t9 i u) a.2.2.2.2.2.2.2.1,h.pr.bY.cQ i u a.2.2.2.2.2.1.symm,h.sx.set i u,h.ox.cQ i u h.ne.symm,h.ne⟩
theorem VF.eL(h:VF j f y A g n o d p v x C B w)(m):VF j f y A g n o d p v ⟨x.bZ,x.cB,m,x.ca⟩ C B (w.setCell ⟨f,2,none⟩ (.int .i64 m)):=by have a:=h.dP;exact⟨h.rd.bY.cQ 2 _ a.2.1.symm,h.tk.d8 ((O.refl (fun k=>k=f) w).t9 2 _) a.2.2.2.2.1,h.pr.bY.set 2 _,h.sx.cQ 2 _ a.2.2.2.2.2.1,h.ox.cQ 2 _ a.2.2.2.2.2.2.1,h.ne⟩
theorem VF.fC(h:VF j f y A g n o d p v x C B w){u:Int}{m:Nat}(a:u=m):VF j f y A g n o d p v ⟨x.bZ,x.cB,m,x.ca⟩ C B (w.setCell ⟨f,2,none⟩ (.int .i64 u)):=by subst a;exact h.eL m
theorem VF.eK(h:VF j f y A g n o d p v x C B w)(m):VF j f y A g n o d p v ⟨x.bZ,x.cB,x.pl,m⟩ C B (w.setCell ⟨f,3,none⟩ (.int .i64 m)):=by have a:=h.dP;exact⟨h.rd.bY.cQ 3 _ a.2.1.symm,h.tk.d8 ((O.refl (fun k=>k=f) w).t9 3 _) a.2.2.2.2.1,h.pr.bY.set 3 _,h.sx.cQ 3 _ a.2.2.2.2.2.1,h.ox.cQ 3 _ a.2.2.2.2.2.2.1,h.ne⟩
theorem VF.fB(h:VF j f y A g n o d p v x C B w){u:Int}{m:Nat}(a:u=m):VF j f y A g n o d p v ⟨x.bZ,x.cB,x.pl,m⟩ C B (w.setCell ⟨f,3,none⟩ (.int .i64 u)):=by subst a;exact h.eK m
theorem VF.dE{L a}(h:VF j f y A g n o d p v x C B w)(e:Aw d L x=a)(b:O (fun k=>k=j) w E)(c:AI j f g n o (E8 d x.bZ x.cB L).1 (E8 d x.bZ x.cB L).2 E):VF j f y A g n o d p v a C B E:=by subst e;exact h.call b c
theorem VF.get{k q a}(h:VF j f y A g n o d p v x C B w)(i:Bm d k x=(q,a))(b:O (fun k=>k=j) w E)(c:AI j f g n o (De d x.bZ x.cB k).2.1 (De d x.bZ x.cB k).2.2 E):VF j f y A g n o d p v a C B E:=by have e:a=⟨(De d x.bZ x.cB k).2.1,(De d x.bZ x.cB k).2.2,x.pl,x.ca⟩:=(congrArg Prod.snd i).symm;subst e;exact h.call b c
theorem VF.list{q a}(h:VF j f y A g n o d p v x C B w)(i:BQ d x=(q,a))(b:O (fun k=>k=j) w E)(c:AI j f g n o (CM d x.bZ x.cB).2.1 (CM d x.bZ x.cB).2.2 E):VF j f y A g n o d p v a C B E:=by have e:a=⟨(CM d x.bZ x.cB).2.1,(CM d x.bZ x.cB).2.2,x.pl,x.ca⟩:=(congrArg Prod.snd i).symm;subst e;exact h.call b c
end
theorem Cb{d n x a L}(c:Aw d L x=a)(e:(tokAt d (n-1)).sort=0)(b:x.bZ<n):a.bZ<n:=by subst c;exact(Pk e b).2
theorem Ev{d n k x a q}(g:Bm d k x=(q,a))(c:k≠0)(h:(tokAt d (n-1)).sort=0)(b:x.bZ<n):a.bZ<n:=by have e:a.bZ=(De d x.bZ x.cB k).2.1:=congrArg (fun z=>z.2.bZ) g.symm;rw[e];exact(VZ h c b).2
theorem EO{d n x a q}(c:BQ d x=(q,a))(g:(tokAt d (n-1)).sort=0)(b:x.bZ<n):a.bZ<n:=by have e:a.bZ=(CM d x.bZ x.cB).2.1:=congrArg (fun z=>z.2.bZ) c.symm;rw[e];exact(Uj g b).2
theorem O.eQ{j f a w}(h:O (fun k=>k=j\/k=f) a w)(i u):O (fun k=>k=j\/k=f) a (w.setCell ⟨f,i,none⟩ u):=h.setCell (.inr rfl|> .inl) u
abbrev AW:Value:=.slice none 0 0
def Ts(j f g n o:Nat)(d:List Tk)(p v:Value)(w:World)(r:FS×St)(e:Ending)(E:World):Prop:=
 ∃a,e=.returned (.agg (Bo r.1 a AW AW))/\E.ownsRow w.heap.size 49 3 a r.1.args.length (Bc r.1.args)/\AI j f g n o r.2.bZ r.2.cB E/\AO g n o d E/\BZ f p v r.2.pl r.2.ca E/\O (fun k=>k=j\/k=f) w E
abbrev zS:Array Value:=#[.int .i64 0,.string {data:=#[]},.int .i64 0,.int .i64 0,.string {data:=#[]},.int .i64 0,.int .i64 0,.int .i64 0,AW,.int .i64 0,AW,AW,.int .i64 0,.int .i64 0,.int .i64 0]
def Cv(a:Nat)(b:Int):FS:=⟨0,My,My,0,[],0,[],[],b,b,a⟩
abbrev XE:List UInt8:=[105,102]
abbrev Hd:List UInt8:=[119,104,105,108,101]
abbrev D8:List UInt8:=[101,108,115,101]
abbrev Vc:List UInt8:=[118,97,114]
abbrev Ht:List UInt8:=[114,101,116,117,114,110]
def Ba(a:List Tk)(b:Nat)(x:St):FS×St:=
 if AF (tokAt a x.bZ)=Vc then
  let y:=Bm a 1 (Aw a Vc x)
  ({Cv b (-1)with kind:=1,p:=y.1},y.2)
 else if AF (tokAt a x.bZ)=Ht then
  let y:=Bm a 1 (Aw a Ht x)
  ({Cv b (-1)with kind:=11,q:=y.1},y.2)
 else if AF (tokAt a x.bZ)=[42]then
  let y:=Bm a 1 (Aw a [42] x)
  let z:=Bm a 1 (Aw a [61] y.2)
  ({Cv b (-1)with kind:=10,p:=y.1,q:=z.1},z.2)
 else
  let y:=Bm a 1 x
  C0 a (Aw a [61] y.2) {Cv b (-1)with p:=y.1}
mutual
def Az(toks:List Tk):Nat->Nat->St->List FS->List Nat->List Nat×St×List FS
 |0,_,x,fs,out=>(out,x,fs)
 |f+1,inn,x,fs,out=>
  if x.cB≠none\/Bs x.cB (tokAt toks x.bZ) [125]=true then(out,x,fs)
  else Az toks f inn (AJ toks f inn x fs).2.1 (AJ toks f inn x fs).2.2 (out++[(AJ toks f inn x fs).1])
def AJ(toks:List Tk):Nat->Nat->St->List FS->Nat×St×List FS
 |0,_,x,fs=>(fs.length,x,fs)
 |f+1,inn,x,fs=>
  if AF (tokAt toks x.bZ)=XE\/AF (tokAt toks x.bZ)=Hd then
   let x2:=Aw toks [63] (Aw toks (AF (tokAt toks x.bZ)) x)
   let r:=Az toks f inn (Aw toks [123] x2) (fs++[Cv 0 0]) []
   let x3:=Aw toks [125] r.2.1
   let s:FS:={Cv inn (-1)with kind:=13,br:=(tokAt toks x2.bZ).pos,cJ:=r.1}
   if AF (tokAt toks x.bZ)=XE then
    if Bs x3.cB (tokAt toks x3.bZ) D8=true then
     let x4:=Aw toks D8 x3
     let r2:=Az toks f inn (Aw toks [123] x4) r.2.2 []
     (fs.length,Aw toks [125] r2.2.1,r2.2.2.set fs.length {s with kind:=12,dG:=(tokAt toks x4.bZ).pos,other:=r2.1})
    else(fs.length,x3,r.2.2.set fs.length {s with kind:=12})
   else(fs.length,x3,r.2.2.set fs.length s)
  else
   let y:=Ba toks inn x
   (fs.length,Aw toks [59] y.2,(fs++[Cv 0 0]).set fs.length y.1)
end
def Ax(B:Nat)(w:World)(v:Value)(l:List Nat):Prop:=w.ownsRow B 3 1 v l.length (l.map fun i:Nat=>Value.int .i64 (i:Int))
def CE(B:Nat)(w:World)(v:Value)(l:List Tk):Prop:=w.ownsRow B 49 3 v l.length (Bc l)
def Ft(B:Nat)(U:Nat->Prop)(w:World)(c:List Value)(s:FS):Prop:=
 ∃a b d,c=(Bo s a b d).toList/\CE B w a s.args/\Ax B w b s.cJ/\Ax B w d s.other/\∀k,(a.ownBlock=some k\/b.ownBlock=some k\/d.ownBlock=some k)->U k
def Bx(B:Nat)(U:Nat->Prop)(w:World)(c:Value)(b:List FS):Prop:=
 ∃a:List (List Value),w.ownsRow B 92 15 c b.length a.flatten/\a.length=b.length/\∀i (h:i<a.length) (d:i<b.length),Ft B U w a[i] b[i]
theorem Ft.d8{B:Nat}{U:Nat->Prop}{w g:World}{c:List Value}{s:FS}{X:Nat->Prop}(h:Ft B U w c s)(e:O X w g)(f:∀k a t b,X k->w.heap[k]? =some (.cells a t b)->t≠3/\t≠49):Ft B U g c s:=by obtain⟨i,j,r,n,l,m,o,p⟩:=h;exact⟨i,j,r,n,Ai l e (fun k a b d q=>(f k a _ b d q).2 rfl),Ai m e (fun k a b d q=>(f k a _ b d q).1 rfl),Ai o e (fun k a b d q=>(f k a _ b d q).1 rfl),p⟩
theorem Ft.eI{B:Nat}{U:Nat->Prop}{w f:World}{c:List Value}{s:FS}{X:Nat->Prop}(h:Ft B U w c s)(d:O X w f)(e:∀k,U k->¬X k):Ft B U f c s:=by obtain⟨g,i,o,m,j,l,n,b⟩:=h;exact⟨g,i,o,m,Ac j d (fun k a=>e k (b k (.inl a))),Ac l d (fun k a=>e k (b k (.inr (.inl a)))),Ac n d (fun k a=>e k (b k (.inr (.inr a)))),b⟩
theorem Ft.more{B:Nat}{U U':Nat->Prop}{w:World}{c:List Value}{s:FS}(h:Ft B U w c s)(l:∀k,U k->U' k):Ft B U' w c s:=by obtain⟨a,b,m,g,e,f,j,d⟩:=h;exact⟨a,b,m,g,e,f,j,fun k i=>l k (d k i)⟩
theorem Ft.length{B:Nat}{U:Nat->Prop}{w:World}{c:List Value}{s:FS}(h:Ft B U w c s):c.length=15:=by obtain⟨a,b,d,rfl,_⟩:=h;rfl
def FY(k:Nat)(x y:St):Prop:=x.bZ<=y.bZ/\x.pl<=y.pl/\y.pl<=x.pl+1/\x.ca<=y.ca/\y.ca<=x.ca+1/\(y.cB=none->x.cB=none/\x.bZ+k<=y.bZ)
def FU(k:Nat)(x y:St):Prop:=x.bZ<=y.bZ/\y.pl=x.pl/\y.ca=x.ca/\(y.cB=none->x.cB=none/\x.bZ+k<=y.bZ)
theorem FU.trans{k l:Nat}{x y z:St}(h:FU k x y)(q:FU l y z):FU (k+l) x z:=
 ⟨by have:=h.1;have:=q.1;omega,by rw[q.2.1,h.2.1],by rw[q.2.2.1,h.2.2.1],fun e=>by have a:=q.2.2.2 e;have b:=h.2.2.2 a.1;exact⟨b.1,Z⟩⟩
theorem FU.one{k x y}(h:FU k x y):FY k x y:=⟨h.1,by rw[h.2.1];omega,by rw[h.2.1];omega,by rw[h.2.2.1];omega,by rw[h.2.2.1];omega,h.2.2.2⟩
theorem FY.behind{k l:Nat}{x y z:St}(h:FU k x y)(q:FY l y z):FY (k+l) x z:=by obtain⟨f,g,i,c⟩:=h;obtain⟨j,m,n,o,p,d⟩:=q;exact⟨Z,Z,Z,Z,Z,fun e=>by have a:=d e;have b:=c a.1;exact⟨b.1,Z⟩⟩
theorem FY.ahead{k l:Nat}{x y z:St}(h:FY k x y)(q:FU l y z):FY (k+l) x z:=by obtain⟨f,g,i,j,m,c⟩:=h;obtain⟨n,o,p,d⟩:=q;exact⟨Z,Z,Z,Z,Z,fun e=>by have a:=d e;have b:=c a.1;exact⟨b.1,Z⟩⟩
theorem FY.less{k l:Nat}{x y:St}(h:FY k x y)(a:l<=k):FY l x y:=⟨h.1,h.2.1,h.2.2.1,h.2.2.2.1,h.2.2.2.2.1,fun e=>by have:=h.2.2.2.2.2 e;exact⟨this.1,Z⟩⟩
theorem LI(a p):Fv a p≠none:=by cases a<;>simp[Fv]
theorem A8(a L x):FU 1 x (Aw a L x):=by
 unfold Aw E8;split
 .rename_i h;refine⟨jY,rfl,rfl,fun e=>⟨e,gI _⟩⟩
 .exact⟨gI _,rfl,rfl,fun e=>jO e (LI _ _)⟩
theorem EN(a k x):FU 1 x (Bm a k x).2:=by
 unfold Bm De;split
 .refine⟨jY,rfl,rfl,fun e=>⟨e,gI _⟩⟩
 .exact⟨gI _,rfl,rfl,fun e=>jO e (LI _ _)⟩
theorem Nm(d:List Tk):∀(f a:Nat) (b:Option Nat) (c:List Tk),a<=(DG d f a b c).2.1/\(DG d f a b c).2.2=b
 |0,a,b,c=>by unfold DG;exact⟨gI _,rfl⟩
 |f+1,a,b,c=>by
  unfold DG;split
  .have:=Nm d f (a+1) b (c++[tokAt d a]);exact⟨Z,this.2⟩
  .exact⟨gI _,rfl⟩
theorem Fb(a x):FU 1 x (BQ a x).2:=by have h:=Nm a a.length x.bZ x.cB [];have e:=A8 a [41] ⟨(DG a a.length x.bZ x.cB []).2.1,(DG a a.length x.bZ x.cB []).2.2,x.pl,x.ca⟩;obtain⟨b,d,f,c⟩:=e;refine⟨gW h.1 b,rfl,rfl,fun q=>?_⟩;have:=c q;exact⟨by rw[<-h.2];exact this.1,by have:=this.2;simp only at this;exact gW Z this⟩
theorem U6(a x s):FY 1 x (C0 a x s).2:=by
 have E:=A8 a;have G:=EN a;have I:=Fb a;unfold C0;split
 .have:=E [110,101,119] x;obtain⟨g,o,p,h⟩:=this;exact⟨g,kC,kC,kC,kC,h⟩
 .split
  .simp only;split
   .exact((((E _ _).trans (G _ _)).trans ((E _ _).trans (G _ _))).one).less Z
   .exact(((E _ _).trans (G _ _)).one).less Z
  .split
   .exact(((E _ _).trans (G _ _)).one).less Z
   .split
    .exact(((E _ _).trans (G _ _)).one).less Z
    .split
     .have A:=((E [40] x).trans (E [42] _)).trans ((G 1 (Aw a [42] (Aw a [40] x))).trans ((E [41] _).trans (E [40] _)));have e:=I ⟨(Aw a [40] (Aw a [41] (Bm a 1 (Aw a [42] (Aw a [40] x))).2)).bZ,(Aw a [40] (Aw a [41] (Bm a 1 (Aw a [42] (Aw a [40] x))).2)).cB,(Aw a [40] (Aw a [41] (Bm a 1 (Aw a [42] (Aw a [40] x))).2)).pl,(Aw a [40] (Aw a [41] (Bm a 1 (Aw a [42] (Aw a [40] x))).2)).ca+1⟩;obtain⟨l,m,n,f⟩:=A;obtain⟨i,j,k,d⟩:=e;simp only at i j k d;refine⟨kC,kC,kC,kC,kC,fun q=>?_⟩;have b:=d q;have c:=f b.1;exact⟨c.1,kC⟩
     .simp only;split
      .exact(((G _ _).trans ((E _ _).trans (I _))).one).less Z
      .exact((G _ _).one).less Z
theorem Qi(a b x):FY 1 x (Ba a b x).2:=by
 have E:=A8 a;have G:=EN a;unfold Ba;split
 .exact(((E _ _).trans (G _ _)).one).less Z
 .split
  .exact(((E _ _).trans (G _ _)).one).less Z
  .split
   .exact((((E _ _).trans (G _ _)).trans ((E _ _).trans (G _ _))).one).less Z
   .exact(FY.behind ((G _ _).trans (E _ _)) (U6 a _ _)).less Z
