/- One of the texts of the proof of runs_card_holds: MbF RwC RuM. -/
import Derived.Test.YthppbgndiplgnaaGreatDoorG43
import Derived.Test.YthppbgndiplgnaaGreatDoorG41
set_option maxRecDepth 100000
set_option maxHeartbeats 4000000
namespace Go.Proofs.YthppbgndiplgnaaGreatDoor
open Go.RowKit
theorem QG:∀(n:Nat) (x:UInt8),x∈Lib.decDigits n→48≤x.toNat∧x.toNat≤57:=by
 intro n;induction n using Nat.strongRecOn with
 | _ n c=>
   intro x a;have b:∀d:Nat,d<10→(UInt8.ofNat (48+d)).toNat=48+d:=by decide
   rw [Lib.decDigits] at a;split at a
   ·rename_i h;rw [bO] at a;subst a;rw [b n h];omega
   ·rename_i h;rcases bZ.1 a with q | q
    ·exact c (n / 10) (by omega) x q
    ·rw [bO] at q;subst q;rw [b (n % 10) (by omega)];omega
def WO(l:List UInt8):Nat:=l.foldl (fun a d=>10*a+(d.toNat-48)) 0
theorem QH:∀n:Nat,WO (Lib.decDigits n)=n:=by
 intro n;induction n using Nat.strongRecOn with
 | _ n b=>
   have a:∀d:Nat,d<10→(UInt8.ofNat (48+d)).toNat=48+d:=by decide
   rw [Lib.decDigits];split
   ·rename_i h;simp only [WO,cE,cP];rw [a n h];omega
   ·rename_i h;have e:=b (n / 10) (by omega);unfold WO at e⊢;rw [List.foldl_append,e];simp only [cE,cP];rw [a (n % 10) (by omega)];omega
theorem MI{a b}(h:Lib.decDigits a=Lib.decDigits b):a=b:=by rw [←QH a,←QH b,h]
theorem TE(n):∃x l,Lib.decDigits n=x::l∧48≤x.toNat∧x.toNat≤57:=by
 cases h:Lib.decDigits n with
 | nil=>
   rw [Lib.decDigits] at h;split at h
   ·cases h
   ·exact dC h (by simp)
 | cons x l=>exact ⟨x,l,rfl,QG n x (by rw [h];simp)⟩
theorem Km{c:UInt8}:∀{a e b d:List UInt8},c∉a→c∉e→a++[c]++b=e++[c]++d→a=e∧b=d
 | [],[],b,d,_,_,h=>by simpa using h
 | [],y::e,b,d,_,g,h=>by simp at h;exact dC h.1 (fun q=>g (by simp [q]))
 | x::a,[],b,d,f,_,h=>by simp at h;exact dC h.1 (fun q=>f (by simp [q]))
 | x::a,y::e,b,d,f,g,h=>by simp only [List.cons_append,List.cons.injEq] at h;obtain ⟨i,j⟩:=Km (fun q=>f (bN _ q)) (fun q=>g (bN _ q)) h.2;exact ⟨by rw [h.1,i],j⟩
theorem JT{b}(h:S7 b){c}(a:c.toNat<97):c∉b.data.toList:=fun q=>by have:=h c q;omega
theorem GO(n){c}(a:c.toNat<48∨57<c.toNat):c∉Lib.decDigits n:=fun q=>by have:=QG n c q;omega
theorem Ig{a b:ByteArray}(h:a.data.toList=b.data.toList):a=b:=by cases a;cases b;simp only at h;have:=Array.toList_inj.1 h;subst this;rfl
structure Wt(P:List PFn):Prop where
 nl:∀i,S7 (AF P i).name
 vl:∀i j,S7 (Vk P i j)
 inj:∀i j,i<P.length→j<P.length→(AF P i).name=(AF P j).name→i=j
 aO:∀i,(AF P i).m9.Nodup
theorem Qs{P}(h:Wt P){c}(b:c.toNat<46∨(57<c.toNat∧c.toNat<64))(t):c∉Hf P t:=by
 have f:=GO t.Yj (c:=c) (by omega);have g:=GO t.Yk (c:=c) (by omega);have d:=JT (h.nl t.Yj) (c:=c) (by omega);have i:=JT (h.vl t.Yj t.Yk) (c:=c) (by omega);have a:c≠46:=by rintro rfl;simp at b
 have e:c≠64:=by rintro rfl;simp at b
 unfold Hf;split
 ·simp [f,g,a]
 ·split
  ·simp only [cM,not_or];exact ⟨e,d⟩
  ·simp only [bZ,bO,not_or];exact ⟨⟨d,a⟩,i⟩
theorem Ln{P}(h:Wt P)(t):∃x l,Hf P t=x::l∧(t.kind=1→48≤x.toNat∧x.toNat≤57)∧(t.kind=2→x=64)∧(t.kind≠1→t.kind≠2→x.toNat=46∨97≤x.toNat):=by
 unfold Hf;split
 ·rename_i c;obtain ⟨x,l,e,f⟩:=TE t.Yj;exact ⟨x,l++[46]++Lib.decDigits t.Yk,by rw [e];simp,fun _=>f,fun q=>by omega,fun q=>dC c q⟩
 ·rename_i b;split
  ·rename_i a;exact ⟨64,_,rfl,fun q=>dC q b,fun _=>rfl,fun _ q=>dC a q⟩
  ·rename_i a;cases d:(AF P t.Yj).name.data.toList with
   | nil=>exact ⟨46,_,rfl,fun q=>dC q b,fun q=>dC q a,fun _ _=>.inl rfl⟩
   | cons x l=>exact ⟨x,_,rfl,fun q=>dC q b,fun q=>dC q a,fun _ _=>.inr (h.nl t.Yj x (by rw [d];simp))⟩
theorem Ui{l:List ByteArray}(h:l.Nodup){i j:Nat}(a:i<l.length)(b:j<l.length)(e:l[i]=l[j]):i=j:=by
 have c:=List.pairwise_iff_getElem.1 h;rcases Nat.lt_trichotomy i j with q | q | q
 ·exact dC e (c i j a b q)
 ·exact q
 ·exact dC e.symm (c j i b a q)
theorem Q8{P}(h:Wt P){s t}(J:G6 P s)(K:G6 P t)(e:Hf P s=Hf P t):s=t:=by
 obtain ⟨x,l,p,A,B,C⟩:=Ln h s;obtain ⟨y,m,q,D,E,F⟩:=Ln h t;rw [p,q] at e;have G:x=y:=by simpa using (List.cons.inj e).1
 subst G;have e:Hf P s=Hf P t:=by rw [p,q];exact e
 have L:(64:UInt8).toNat=64:=by decide
 rcases J with ⟨a,f,c⟩ | ⟨a,f,c⟩ | ⟨a,f,c⟩<;>rcases K with ⟨b,g,d⟩ | ⟨b,g,d⟩ | ⟨b,g,d⟩
 ·unfold Hf at e;rw [cT (by omega),cT (by omega),cT (by omega),cT (by omega)] at e;obtain ⟨j,k⟩:=Km (JT (h.nl _) (by decide)) (JT (h.nl _) (by decide)) e;have i:=h.inj _ _ f g (Ig j);obtain ⟨u,o,r⟩:=s;obtain ⟨w,z,v⟩:=t;simp only at*;subst i a b;have n:=Ig k;unfold Vk at n;rw [aY c,aY d] at n;have:=Ui (h.aO o) c d n;subst this;rfl
 ·have:=C (by omega) (by omega);have:=D b;omega
 ·have:=C (by omega) (by omega);have:=E b;subst this;omega
 ·have:=F (by omega) (by omega);have:=A a;omega
 ·unfold Hf at e;rw [cU a,cU b] at e;obtain ⟨j,k⟩:=Km (GO _ (by decide)) (GO _ (by decide)) e;have H:=MI j;have I:=MI k;obtain ⟨u,o,r⟩:=s;obtain ⟨w,z,v⟩:=t;simp only at*;subst H I a b;rfl
 ·have:=A a;have:=E b;subst this;omega
 ·have:=F (by omega) (by omega);have:=B a;subst this;omega
 ·have:=D b;have:=B a;subst this;omega
 ·unfold Hf at e;rw [cT (by omega),cU a,cT (by omega),cU b] at e;have i:=h.inj _ _ f g (Ig (List.cons.inj e).2);obtain ⟨u,o,r⟩:=s;obtain ⟨w,z,v⟩:=t;simp only at*;subst i a b c d;rfl
theorem PC{a b:List UInt8}(h:(⟨a.toArray⟩:ByteArray)=⟨b.toArray⟩):a=b:=by have:=congrArg (fun x:ByteArray=>x.data.toList) h;simpa using this
theorem VR{P}(h:Wt P){p q}(a:G6 P p.1∧G6 P p.2)(b:G6 P q.1∧G6 P q.2)(e:Pc P p=Pc P q):p=q:=by obtain ⟨c,d⟩:=Km (Qs h (by decide) _) (Qs h (by decide) _) (PC e);exact Prod.ext (Q8 h a.1 b.1 c) (Q8 h a.2 b.2 d)
theorem VP{P}(h:Wt P){p q}(c:p.2<P.length)(d:q.2<P.length)(e:QI P p=QI P q):p=q:=by have e:=PC e;simp only [List.cons_append,cR,List.cons.injEq,true_and] at e;obtain ⟨a,b⟩:=Km (GO _ (by decide)) (GO _ (by decide)) e;exact Prod.ext (MI a) (h.inj _ _ c d (Ig b))
theorem Xr{P}(h:Wt P)(p q):Pc P p≠QI P q:=by intro e;have e:=PC e;obtain ⟨x,l,a,_⟩:=Ln h p.1;have:=Qs h (c:=33) (by decide) p.1;rw [a] at e this;simp only [List.cons_append,cR,List.cons.injEq] at e;exact this (by rw [e.1];simp)
theorem Je{g k:Type}{f:g→k}:∀{l:List g},l.Nodup→(∀a b,a∈l→b∈l→f a=f b→a=b)→(l.map f).Nodup
 | [],_,_=>by simp
 | x::l,h,c=>by rw [List.nodup_cons] at h;rw [bX,List.nodup_cons];refine ⟨fun q=>?_,Je h.2 (fun a b i j=>c a b (bN _ i) (bN _ j))⟩;obtain ⟨y,d,e⟩:=cG.1 q;have:=c y x (bN _ d) (by simp) e;subst this;exact h.1 d
structure LD(P:List PFn)(l:List ByteArray)(pts:List (Tg×Tg))(ent:List (Nat×Nat)):Prop where
 sorted:l.Pairwise (fun a b=>IN a b=true)
 i7:∀x,x∈l↔(∃p,p∈pts∧x=Pc P p)∨(∃e,e∈ent∧x=QI P e)
theorem JE:∀{l:List ByteArray},l.Pairwise (fun a b=>IN b a=false)→l.Nodup→l.Pairwise (fun a b=>IN a b=true)
 | [],_,_=>List.Pairwise.nil
 | x::l,h,c=>by rw [List.pairwise_cons] at h;rw [List.nodup_cons] at c;refine List.Pairwise.cons (fun b d=>LZ (h.1 b d) (fun q=>c.1 (q▸d))) (JE h.2 c.2)
theorem Wi{P:List PFn}(h:Wt P){c:Co}(k:En P c){l:List ByteArray}{n:List (Tg×Tg)}{m:List (Nat×Nat)}(r:l.Pairwise (fun a b=>IN b a=false))(o:l.Perm (n.map (Pc P)++m.map (QI P)))(s:n.Nodup)(t:m.Nodup)(i:∀p,p∈n↔p∈c.Ys)(j:∀p,p∈m↔p∈c.Yr):LD P l c.Ys c.Yr:=by
 refine ⟨JE r (o.nodup_iff.2 ?_),fun x=>?_⟩
 ·rw [List.nodup_append];refine ⟨Je s (fun a b f g e=>VR h (k.pt a ((i a).1 f)) (k.pt b ((i b).1 g)) e),Je t (fun a b f g e=>VP h (k.en a ((j a).1 f)).2 (k.en b ((j b).1 g)).2 e),fun a f b g=>?_⟩;obtain ⟨p,_,rfl⟩:=cG.1 f;obtain ⟨q,_,rfl⟩:=cG.1 g;exact Xr h p q
 ·rw [o.mem_iff,bZ,cG,cG];constructor
  ·rintro (⟨p,d,rfl⟩ | ⟨p,d,rfl⟩)
   ·exact .inl ⟨p,(i p).1 d,rfl⟩
   ·exact .inr ⟨p,(j p).1 d,rfl⟩
  ·rintro (⟨p,d,rfl⟩ | ⟨p,d,rfl⟩)
   ·exact .inl ⟨p,(i p).2 d,rfl⟩
   ·exact .inr ⟨p,(j p).2 d,rfl⟩
theorem JF:∀{a b:List ByteArray},a.Pairwise (fun a b=>IN a b=true)→b.Pairwise (fun a b=>IN a b=true)→(∀x,x∈a↔x∈b)→a=b
 | [],[],_,_,_=>rfl
 | [],y::b,_,_,h=>dC ((h y).2 (by simp)) bU
 | x::a,[],_,_,h=>dC ((h x).1 (by simp)) bU
 | x::a,y::b,c,d,h=>by
   rw [List.pairwise_cons] at c d;have f:x=y:=by
    rcases cM.1 ((h x).1 (by simp)) with q | q
    ·exact q
    ·rcases cM.1 ((h y).2 (by simp)) with r | r
     ·exact r.symm
     ·have g:=d.1 x q;have i:=c.1 y r;have:=L3 g i;rw [Hu] at this;cases this
   subst f;rw [JF c.2 d.2 (fun z=>?_)];have e:=h z;simp only [cM] at e;constructor
   ·intro q;rcases e.1 (.inr q) with r | r
    ·subst r;have:=c.1 z q;rw [Hu] at this;cases this
    ·exact r
   ·intro q;rcases e.2 (.inr q) with r | r
    ·subst r;have:=d.1 z q;rw [Hu] at this;cases this
    ·exact r
structure Xl(fn:List ByteArray)(P:List PFn)(X:List XF):Prop where
 name:∀i,(AF P i).name=G7 fn i
 m9:∀i,(AF P i).m9=(Aq X i).m9
theorem Ml{a P X}(h:Xl a P X){l f e b}(c:LD P l e b)(d:Ek a X f e b):l=f:=by
 have g:∀t,Hf P t=Vt a X t:=fun t=>by unfold Hf Vt Vk OU;rw [h.name,h.m9];rfl
 refine JF c.sorted d.sorted (fun x=>?_);rw [c.i7,d.i7];have i:∀p,Pc P p=Xh a X p:=fun p=>by unfold Pc Xh XO;rw [g,g]
 have j:∀p,QI P p=Xg a p:=fun p=>by unfold QI Xg XN;rw [h.name]
 simp only [i,j]
structure GoodP(c:List TF):Prop where
 YM:XH c
 sum:(c.map fun t=>CT t.Yg).sum≤4000
 wf:∀t,t∈c→Ww t.Yg
 ZK:∀t,t∈c→Th (fun b=>S7 b∧b.size≤4000) t
def CC(c:List TF):List ByteArray:=c.map fun f=>f.name.i6
def Ul(c:List TF):List Nat:=c.map fun f=>f.p8.length
def sK(k:Nat)(l:List TF)(i:Nat):Nat:=((l.take i).map fun t=>nL k t.Yg).sum
theorem Oi{fn:List ByteArray}{par:List Nat}:∀(l:List TF) (b a i:Nat) (h:i<l.length),(∀t,t∈l→IL fn par t.Yg (t.p8.map fun p=>p.i6))→(Bs fn l b a)[i]? =some (Dp fn l[i] (b+sK 1 l i) (a+sK 8 l i))
 | [],_,_,i,h,_=>by simp at h
 | t::l,b,a,0,_,_=>by simp [Bs,sK]
 | t::l,b,a,i+1,h,d=>by obtain ⟨_,e,f,_⟩:=KO (fn:=fn) (par:=par) t b a (d t (cS ..));have I:=Oi (fn:=fn) (par:=par) l (b+nL 1 t.Yg) (a+nL 8 t.Yg) i (by simpa using h) (fun t g=>d t (bN _ g));rw [Bs,e,f,aT,I];simp only [sK,cL,bX,cF,cK,Nat.add_assoc]
theorem FC{fn:List ByteArray}:∀(l:List TF) (b a:Nat),(Bs fn l b a).length=l.length
 | [],_,_=>rfl
 | t::l,b,a=>by rw [Bs,aX,FC l,aX]
theorem Vp:∀(l:List TF) (b a i:Nat) (h:i<l.length),(Gm l b a)[i]? =some ⟨DC l[i],l[i].p8.length,l[i].Yg,b+sK 1 l i,a+sK 8 l i⟩
 | [],_,_,i,h=>by simp at h
 | t::l,b,a,0,_=>by simp [Gm,sK,DC]
 | t::l,b,a,i+1,h=>by have I:=Vp l (b+nL 1 t.Yg) (a+nL 8 t.Yg) i (by simpa using h);rw [Gm,aT,I];simp only [sK,cL,bX,cF,cK,Nat.add_assoc]
theorem JX:∀(l:List TF) (b a:Nat),(Gm l b a).length=l.length
 | [],_,_=>rfl
 | t::l,b,a=>by rw [Gm,aX,JX l,aX]
theorem OF(k:Nat):∀(l:List TF) (i:Nat) (h:i<l.length),sK k l i+nL k l[i].Yg≤(l.map fun t=>CT t.Yg).sum
 | [],i,h=>by simp at h
 | t::l,0,_=>by have:=L8 k t.Yg;simp only [sK,List.take_zero,List.map_nil,List.sum_nil,bQ,bX,cF];omega
 | t::l,i+1,h=>by have I:=OF k l i (by simpa using h);have:=L8 k t.Yg;simp only [sK,cL,bX,cF,cK] at I⊢;omega
theorem QU{f:TF→Nat}:∀{l:List TF} {t:TF},t∈l→f t≤(l.map f).sum
 | [],_,h=>by simp at h
 | a::l,t,h=>by
   simp only [bX,cF];rcases cM.1 h with rfl | q
   ·omega
   ·have:=QU (f:=f) q;omega
section
variable {c : List TF} (G : GoodP c)
include G
theorem GoodP.Z5{t:TF}(h:t∈c):CT t.Yg≤4000:=bJ (QU (f:=fun t=>CT t.Yg) h) G.sum
theorem GoodP.pf(i:Nat)(h:i<c.length):AF (Bs (CC c) c 0 0) i=Dp (CC c) c[i] (sK 1 c i) (sK 8 c i):=by unfold AF;rw [Oi (fn:=CC c) (par:=Ul c) c 0 0 i h G.YM.ok,cB,cB];rfl
omit G in
theorem Fd(c:List TF)(i:Nat)(h:¬i<c.length):AF (Bs (CC c) c 0 0) i=⟨⟨#[]⟩,[],0,[]⟩:=by unfold AF;rw [bV (by rw [FC];omega)];rfl
omit G in
theorem Gh(c:List TF)(i:Nat)(h:i<c.length):Aq (Gm c 0 0) i=⟨DC c[i],c[i].p8.length,c[i].Yg,sK 1 c i,sK 8 c i⟩:=by unfold Aq;rw [Vp c 0 0 i h,cB,cB];rfl
omit G in
theorem Gd(c:List TF)(i:Nat)(h:¬i<c.length):Aq (Gm c 0 0) i=⟨[],0,[],0,0⟩:=by unfold Aq;rw [bV (by rw [JX];omega)];rfl
theorem GoodP.one(i:Nat)(h:i<c.length):(AF (Bs (CC c) c 0 0) i).name=c[i].name.i6∧(AF (Bs (CC c) c 0 0) i).m9=DC c[i]∧(AF (Bs (CC c) c 0 0) i).p8=c[i].p8.length∧(AF (Bs (CC c) c 0 0) i).m8.length=CT c[i].Yg:=by rw [G.pf i h];obtain ⟨a,_,_,b,_⟩:=KO (fn:=CC c) (par:=Ul c) c[i] (sK 1 c i) (sK 8 c i) (G.YM.ok _ (bD _));exact ⟨rfl,a,rfl,b⟩
theorem GoodP.ZU:Gi (Bs (CC c) c 0 0):=by
 have x:=FC (fn:=CC c) c 0 0;have k:=G.YM.Yx;refine ⟨by omega,fun i=>?_,fun i=>?_,fun i=>?_,fun i w s b=>?_⟩
 ·by_cases h:i<c.length
  ·rw [(G.one i h).2.1];exact (G.YM.m9 _ (bD _)).2
  ·rw [Fd c i h];exact bI _
 ·by_cases h:i<c.length
  ·rw [(G.one i h).2.1,(G.one i h).2.2.1];simp [DC]
  ·rw [Fd c i h];exact aV _
 ·by_cases h:i<c.length
  ·rw [(G.one i h).2.2.2];have:=G.Z5 (bD h);omega
  ·rw [Fd c i h];exact bI _
 ·have h:i<c.length:=by omega
  have d:c[i]∈c:=bD _;obtain ⟨z,e,A,g⟩:=G.one i h;have m:=G.YM.m9 _ d;have t:=OF 1 c i h;have u:=OF 8 c i h;have y:=G.sum;have l:s∈(Bl (CC c) c[i].Yg (CT c[i].Yg) (S8 c[i] (sK 1 c i) (sK 8 c i))).m8:=by rw [G.pf i h] at b;exact b
  have K:=Gv (fn:=CC c) (par:=Ul c) (V:=(DC c[i]).length) (L:=CT c[i].Yg) m.2 (by unfold CC;rw [bW];exact k) c[i].Yg (CT c[i].Yg) (S8 c[i] (sK 1 c i) (sK 8 c i)) (G.YM.ok _ d) (G.wf _ d) (aV _) (aV _) (by simp [S8]) (by show sK 1 c i+_≤4000;omega) (by show sK 8 c i+_≤4000;omega) (fun s b=>by simp [S8] at b) s l;have v:(CC c).length=c.length:=by unfold CC;rw [bW]
  refine ⟨K.kind,fun n o p r=>by rw [e];exact K.tg n o p r,fun q=>by rw [e];exact K.sr q,fun q=>by have:=K.func q;omega,fun q=>?_,fun a j=>by rw [e];exact K.args a j,K.Yx,K.field,K.Yp,by rw [g];exact K.i8,by rw [g];exact K.taken,K.t5,K.s5⟩;have f:s.t9<c.length:=by have:=K.func (.inr q);omega
  rw [(G.one _ f).2.2.1,←K.many q];unfold Ul;rw [bY,aY f];rfl
theorem GoodP.var{i:Nat}(h:i<c.length){s:ByteArray}(b:s∈DC c[i]):S7 s∧s.size≤4000:=by
 obtain ⟨_,d,e⟩:=G.ZK _ (bD h);rcases bZ.1 b with q | q
 ·obtain ⟨p,a,rfl⟩:=cG.1 q;exact d p a
 ·exact e s q
theorem GoodP.vn(i j:Nat):S7 (Vk (Bs (CC c) c 0 0) i j)∧(Vk (Bs (CC c) c 0 0) i j).size≤4000:=by
 have z:S7 (⟨#[]⟩:ByteArray)∧(⟨#[]⟩:ByteArray).size≤4000:=⟨KA,by decide⟩;unfold Vk;by_cases h:i<c.length
 ·rw [(G.one i h).2.1];by_cases a:j<(DC c[i]).length
  ·rw [aY a];exact G.var h (bD _)
  ·rw [bV (by omega)];exact z
 ·rw [Fd c i h];simp only [List.getElem?_nil,Option.getD_none];exact z
theorem GoodP.nm(i:Nat):S7 (AF (Bs (CC c) c 0 0) i).name∧(AF (Bs (CC c) c 0 0) i).name.size≤4000:=by
 by_cases h:i<c.length
 ·rw [(G.one i h).1];exact (G.ZK _ (bD h)).1
 ·rw [Fd c i h];exact ⟨KA,by decide⟩
theorem GoodP.aF:Vy (Bs (CC c) c 0 0):=⟨fun i=>(G.nm i).2,fun i j=>(G.vn i j).2⟩
theorem GoodP.aK:Wt (Bs (CC c) c 0 0):=by
 refine ⟨fun i=>(G.nm i).1,fun i j=>(G.vn i j).1,fun i j a b e=>?_,fun i=>?_⟩
 ·rw [FC] at a b;rw [(G.one i a).1,(G.one j b).1] at e;have d:=G.YM.p9 i a;have f:=G.YM.p9 j b;rw [e,f] at d;omega
 ·by_cases h:i<c.length
  ·rw [(G.one i h).2.1];exact (G.YM.m9 _ (bD _)).1
  ·rw [Fd c i h];exact List.nodup_nil
theorem GoodP.aD:Xl (CC c) (Bs (CC c) c 0 0) (Gm c 0 0):=by
 refine ⟨fun i=>?_,fun i=>?_⟩
 ·by_cases h:i<c.length
  ·rw [(G.one i h).1];unfold G7 CC;rw [bY,aY h];rfl
  ·rw [Fd c i h];unfold G7 CC;rw [bV (by rw [bW];omega)];rfl
 ·by_cases h:i<c.length
  ·rw [(G.one i h).2.1,Gh c i h]
  ·rw [Fd c i h,Gd c i h]
theorem GoodP.px:PX (CC c) (Bs (CC c) c 0 0) (Gm c 0 0):=Q3 (par:=Ul c) c 0 0 G.YM.ok
theorem GoodP.aG{d:Nat}(b:∀t,t∈c→∀s,s∈t.Yg→Nb d s):Vz d c:=by
 refine ⟨G.YM.Yx,G.YM.p9,fun t h=>(G.ZK t h).1.2,fun t h p a=>((G.ZK t h).2.1 p a).2,fun t h=>?_,fun t h=>?_,b,G.YM.ok,fun t h=>G.Z5 h,?_,?_⟩
 ·exact (List.nodup_append.1 (G.YM.m9 t h).1).1
 ·have:=(G.YM.m9 t h).2;simp only [DC,aZ,bW] at this;omega
 ·refine bJ ?_ G.sum;have:∀l:List TF,(l.map fun t=>nL 1 t.Yg).sum≤(l.map fun t=>CT t.Yg).sum:=by
   intro l;induction l with
   | nil=>exact aV _
   | cons t l e=>have:=L8 1 t.Yg;simp only [bX,cF];omega
  exact this c
 ·refine bJ ?_ G.sum;have:∀l:List TF,(l.map fun t=>nL 8 t.Yg).sum≤(l.map fun t=>CT t.Yg).sum:=by
   intro l;induction l with
   | nil=>exact aV _
   | cons t l e=>have:=L8 8 t.Yg;simp only [bX,cF];omega
  exact this c
end
mutual
theorem Xb{fn:List ByteArray}{par:List Nat}{vs':List ByteArray}:∀(t:TS) (vs:List ByteArray),Wu fn par t vs→Xn t→(∀s,s∈vs++dS t→s∈vs')→XD fn par vs' t
 | .mk s [],vs,h,hw,hs=>by
   have hv:∀s,s∈vs→s∈vs':=fun s q=>hs s (List.mem_append_left _ q)
   exact ⟨h.1,fun a b=>hv _ (h.2.tg a b),h.2.func,h.2.many,fun q=>hv _ (h.2.sr q),fun q t ht=>hv _ (h.2.args q t ht),fun _=>hw.2.2.1⟩
 | .mk s [(_,ts)],vs,h,hw,hs=>by
   refine ⟨h.1,Lp ts vs h.2 hw.2.2.2.1 (fun u hu=>hs u ?_)⟩;simp only [dS,dB,cC];rcases bZ.1 hu with q | q
   ·exact List.mem_append_left _ q
   ·exact dH _ (dH _ q)
 | .mk s [(_,ts),(_,ts2)],vs,h,hw,hs=>by
   have h1:∀u,u∈vs++dL ts→u∈vs':=fun u hu=>hs u (by
    simp only [dS,dB,cC];rcases bZ.1 hu with q | q
    ·exact List.mem_append_left _ q
    ·exact dH _ (dH _ (List.mem_append_left _ q)))
   refine ⟨h.1,Lp ts vs h.2.1 hw.2.2.2.1 h1,Lp ts2 (vs++dL ts) h.2.2 hw.2.2.2.2.1 (fun u hu=>?_)⟩;rcases bZ.1 hu with q | q
   ·exact h1 u q
   ·refine hs u ?_;simp only [dS,dB,cC];exact dH _ (dH _ (dH _ q))
 | .mk _ (_::_::_::_),_,h,_,_=>h.elim
theorem Lp{fn:List ByteArray}{par:List Nat}{vs':List ByteArray}:∀(ts:List TS) (vs:List ByteArray),IL fn par ts vs→Ww ts→(∀s,s∈vs++dL ts→s∈vs')→Pa fn par vs' ts
 | [],_,_,_,_=>trivial
 | t::ts,vs,h,hw,hs=>by
   refine ⟨Xb t vs h.1 hw.1 (fun u hu=>hs u ?_),Lp ts (vs++dS t) h.2 hw.2 (fun u hu=>hs u ?_)⟩
   ·rw [dL];rcases bZ.1 hu with q | q
    ·exact List.mem_append_left _ q
    ·exact dH _ (List.mem_append_left _ q)
   ·rw [dL,←cX];exact hu
end
theorem GoodP.aJ{c:List TF}(G:GoodP c):XOk (CC c) (Ul c) (Gm c 0 0):=by
 have b:=G.sum;refine ⟨by rw [JX];unfold CC;rw [bW],fun f=>?_,fun f=>?_,fun f=>?_,fun f a=>?_,fun f=>?_,fun f=>?_⟩
 ·by_cases h:f<c.length
  ·rw [Gh c f h];exact Lp _ _ (G.YM.ok _ (bD _)) (G.wf _ (bD _)) (fun s q=>q)
  ·rw [Gd c f h];trivial
 ·by_cases h:f<c.length
  ·rw [Gh c f h];exact (G.YM.m9 _ (bD _)).2
  ·rw [Gd c f h];exact bI _
 ·by_cases h:f<c.length
  ·rw [Gh c f h];simp [DC]
  ·rw [Gd c f h];exact aV _
 ·rw [JX] at a;rw [Gh c f a];unfold Ul;rw [bY,aY a];rfl
 ·by_cases h:f<c.length
  ·rw [Gh c f h];have:=OF 1 c f h;simp only;omega
  ·rw [Gd c f h];exact bI _
 ·by_cases h:f<c.length
  ·rw [Gh c f h];have:=OF 8 c f h;simp only;omega
  ·rw [Gd c f h];exact bI _
theorem Qb(F i l B)(U:Nat→Prop)(C I m A H t b c8 X j K S u p r s D E G v x y w)
 (k:OZ b c8 X m A)(hK:K≤150000)(d:Lu i l B U C I m A H t b c8 X u.Yh j K F S w)(d6:u.kind=6)(d2:u.Yh<m.length)(P:u.p.i6∈(Aq X u.Yh).m9)(hq:u.q.i6∈b):
 Calls Tryz.prog 72 #[.pointer (some ⟨i,0,none⟩),.agg (AS u (.slice p D v) (.slice r E x) (.slice s G y)),.int .i64 j] w fun e n=>e=.returned (.bool false)∧A7 i l B b X {S with c:=S.c.set (j+vx (Aq X u.Yh).m9 u.p.i6) ⟨1,vx b u.q.i6⟩} n∧Be i B w n:=by
 have a8:=(Ab.refl (fun _=>False) w).alloc (.cells (AS u (.slice p D v) (.slice r E x) (.slice s G y)) 119);have L:=Aa a8;have a:=Aa (Ar.new w (AS u (.slice p D v) (.slice r E x) (.slice s G y)) 119);have e1:=d.i.ml;have e2:=d.i.pl;have d8:=d.ba;obtain ⟨y1,y2⟩:=CP hq;obtain ⟨z1,z2⟩:=CP P;have d9:=k.h.Yx;have e0:=k.h.Y0;have R:=Aa (fun (W:World) (f:Ab (fun _=>False) w W)=>FZ i l B U C I m A H t b X S u p r s D E G v x y j u.p W (d.r.p6 f) (d.p.p6 f) k.h d2 (by omega) P);have a9:∀(W:World),Ab (fun _=>False) w W→Calls Tryz.prog 15 #[.pointer (some ⟨l,0,none⟩),.string u.q.i6] W fun e n=>e=.returned (.int .i64 ((vx b u.q.i6:Nat):Int))∧n=W:=fun W f=> (Dl B l H t C I m u.q.i6 W ((d.p.p6 f).pr) ((d.p.p6 f).fn) k.h.Yx).mono (fun e n h=>⟨by rw [h.1,k.h.p9,y2],h.2⟩)
 have c9:=Aa a9;have N:=fun (W:World) (f:Ab (fun _=>False) w W)=>II i l B U C I m A H t b X S (j+vx (Aq X u.Yh).m9 u.p.i6) ⟨1,vx b u.q.i6⟩ W (d.r.p6 f) (d.p.p6 f) k.h d.i.m (by omega) (.inr (.inl ⟨rfl,y1⟩)) (by omega) (by omega)
 have c7:DD ⟨1,vx b u.q.i6⟩= -((vx b u.q.i6:Nat):Int)-1:=by simp [DD]
 rw [c7] at N;have Y:=Aa N;obtain ⟨d1,d5⟩:∃z,Ar i z 39 w:=by obtain ⟨_,_,_,_,q⟩:=d.r;exact ⟨_,q.l9⟩
 have d3:∃z,Ar i z 39 w∧z[0]? =some (.pointer (some ⟨l,0,none⟩)):=by obtain ⟨_,_,_,_,q⟩:=d.r;exact ⟨_,q.l9,rfl⟩
 obtain ⟨d7,c6,c5⟩:=d3;have Z:=Aa c6;have T:=Aa c5;obtain ⟨V,c4⟩:∃V,{S with c:=S.c.set (j+vx (Aq X u.Yh).m9 u.p.i6) ⟨1,vx b u.q.i6⟩}=V:=⟨_,rfl⟩;rw [c4] at Y⊢;generalize j+vx (Aq X u.Yh).m9 u.p.i6=zp at*;generalize vx b u.q.i6=g at*;have e3:IntKind.i64.wrap (-(g:Int))= -(g:Int):=by rw [IntKind.wrap_i64];omega
 have e4:IntKind.i64.wrap (-(g:Int)-1)= -(g:Int)-1:=by rw [IntKind.wrap_i64];omega
 have b0:=a.o.cell 0;have b1:=a.o.cell 1;have b2:=a.o.cell 2;have b3:=a.o.cell 3;have b4:=a.o.cell 4;have b5:=a.o.cell 5;have b6:=a.o.cell 6;have b7:=a.o.cell 7;have b8:=a.o.cell 8;have b9:=a.o.cell 9;have a0:=a.o.cell 10;have a4:=a.o.cell 11;have a5:=a.o.cell 12;have a6:=a.o.cell 13;have a7:=a.o.cell 14;have lb:=Ae a.o;clear a8 N a9 d k P hq c4 c7 d5 d1 c6 c5 y2 z2;unfold AS at*;rw [d6] at*;rw [show ((6:Nat):Int)=6 from rfl] at*;simp only [aU,aS,aT] at b0 b1 b2 b3 b4 b5 b6 b7 b8 b9 a0 a4 a5 a6 a7;go_enter Tryz.func72,Tryz.ntmps72;go_wp2_with fail;refine (R.o _ L.o).mono ?_;rintro e w1 ⟨rfl,O⟩;have o:=Aa (L.o.trans O);have J:=Aa (Ar.f8 a.o O (fun q=>q));have M:=Aa (Ar.f8 Z.o o.o (fun q=>q));have r0:=M.o.cell 0;rw [T.o] at r0;have lr:=Ae M.o;have d0:=J.o.cell 0;have d4:=J.o.cell 4;have ld:=Ae J.o;simp only [aU,aS,aT] at d0 d4;clear O R L b0 b1 b2 b3 b4 b5 b6 b7 b8 b9 a0 a4 a5 a6 a7 lb a Z M T;go_wp2_with fail;go_region_law (first
  | (go_simp;go_at_call 15;refine (c9.o _ ?_).mono ?_;exact Ab.trans (X:=fun _=>False) o.o (by repeat (first | exact Ab.refl _ _ | refine Ab.drew ?_ | refine Ab.drewN ?_ _ | refine Ab.alloc ?_ _));rintro e w8 ⟨rfl,Q⟩;have Q:=Q.symm;subst Q;dsimp only)
  | (go_simp;go_at_call 40;refine (Y.o _ ?_).mono ?_;exact Ab.trans (X:=fun _=>False) o.o (by repeat (first | exact Ab.refl _ _ | refine Ab.drew ?_ | refine Ab.drewN ?_ _ | refine Ab.alloc ?_ _));rintro e w9 ⟨rfl,v1,v2⟩;dsimp only))
 all_goals
  have V1:=Aa v1;have V2:=Aa ((Be.s8 (Ab.trans (X:=fun _=>False) o.o (by repeat (first | exact Ab.refl _ _ | refine Ab.drew ?_ | refine Ab.drewN ?_ _ | refine Ab.alloc ?_ _)))).trans v2);clear v1 v2;go_wp2_with fail;go_ret;exact ⟨rfl,V1.o,V2.o⟩
end Go.Proofs.YthppbgndiplgnaaGreatDoor
