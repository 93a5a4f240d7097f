/- One of the texts of the proof: PrA PrM PrN PrT. -/
import Derived.Test.YtegmjgjkcdbmkaaGreatDoorP08
set_option maxRecDepth 100000
set_option maxHeartbeats 1000000
namespace Go.Proofs.YtegmjgjkcdbmkaaGreatDoor
open Go.RowKit
def sR(i:BU):List BU:=(if i.word=[] then [] else [⟨i.word,32⟩])++(if Nm i.sign then [] else [⟨[],i.sign⟩,⟨[],32⟩])
theorem tR:Nm 32=true:=by decide
theorem tW(i:BU):(sR i).flatMap KC=KC i:=by unfold sR KC;by_cases h:i.word=[]<;>by_cases k:Nm i.sign=true<;>simp [h,k,tR]
theorem sZ:∀(l:List BU),(l.flatMap sR).flatMap KC=l.flatMap KC
 | []=>rfl
 | i::l=>by rw [List.flatMap_cons,List.flatMap_append,tW,sZ l,List.flatMap_cons]
def rZ(a:List (Nat×List UInt8)):List UInt8:=a.flatMap fun k=>k.2++[32]
theorem tM(i:BU):CI (sR i)=rZ (KC i):=by unfold sR KC rZ;by_cases h:i.word=[]<;>by_cases k:Nm i.sign=true<;>simp [h,k,CI,BU.bytes]
theorem sY:∀(l:List BU),CI (l.flatMap sR)=rZ (l.flatMap KC)
 | []=>rfl
 | i::l=>by rw [List.flatMap_cons,Cj,tM,sY l,List.flatMap_cons];unfold rZ;rw [List.flatMap_append]
theorem tO{i:BU}(h:i.Ok):∀j,j∈sR i→j.Ok:=by
 intro j d;unfold sR at d;have b:(BU.mk [] 32).Ok:=⟨by simp,fun c a=>by simp at a,by decide⟩;rcases List.mem_append.1 d with q | q
 ·split at q
  ·simp at q
  ·rw [List.mem_singleton.1 q];exact ⟨h.len,h.let_,(by decide:(Fb 32 || Dz 32 || IX 32)=true)⟩
 ·split at q
  ·simp at q
  ·simp only [List.mem_cons,List.not_mem_nil,or_false] at q;rcases q with rfl | rfl
   ·exact ⟨by simp,fun c a=>by simp at a,h.sgn⟩
   ·exact b
theorem tJ(i:BU):(CI (sR i)).length≤2*i.bytes.length:=by
 rw [tM];unfold rZ KC BU.bytes;by_cases h:i.word=[]
 ·by_cases k:Nm i.sign=true<;>simp [h,k]
 ·have:0<i.word.length:=Nat.pos_of_ne_zero fun q=>h (List.eq_nil_of_length_eq_zero q)
  by_cases k:Nm i.sign=true<;>simp [h,k]<;>omega
theorem sN:∀(l:List BU),(CI (l.flatMap sR)).length≤2*(CI l).length
 | []=>by simp [CI]
 | i::l=>by have a:=tJ i;have b:=sN l;rw [List.flatMap_cons,Cj,Bm,rV];simp only [BU.bytes,rV] at a⊢;omega
theorem sI:∀(a:List (Nat×List UInt8)),a≠[]→Lib.join (a.map (·.2)) [32]++[32]=rZ a
 | [],h=>absurd rfl h
 | [k],_=>by simp [rZ,Lib.join_one]
 | k::b::a,_=>by
   have c:=sI (b::a) (by simp);have e:Lib.join ((k::b::a).map (·.2)) [32]=k.2++[32]++Lib.join ((b::a).map (·.2)) [32]:=by simp only [Lib.join,List.map_cons,List.intercalate,List.intersperse,List.flatten_cons,List.append_assoc]
   rw [e,List.append_assoc,c];simp [rZ]
theorem sX(a:List Sm):∃m,YN a=m++[⟨[],125⟩,⟨[],10⟩]:=by
 refine ⟨((List.range 3).flatMap fun f=>Ya f (a.filter fun s=>s.aW==f))++([⟨[102,110],32⟩,⟨II 3,40⟩]++Qc (3 % 3)++[⟨[],32⟩,⟨[],123⟩]++((List.range 4).drop (3 % 3)).flatMap T7++(a.filter fun s=>s.aW==3).flatMap Ye++[⟨[],32⟩]),?_⟩;unfold YN;rw [show List.range 4=List.range 3++[3] from rfl,List.flatMap_append,List.flatMap_cons,List.flatMap_nil,List.append_nil];conv=>lhs;rhs;unfold Ya
 simp only [List.append_assoc,List.cons_append,List.nil_append];rfl
theorem sH(a:List Sm):∃m,CI m=Lib.join (((YN a).flatMap KC).map (·.2)) [32]∧m.flatMap KC=(YN a).flatMap KC∧(∀i,i∈m→i.Ok)∧(CI m).length+1≤2*(CI (YN a)).length∧(YN a).flatMap KC≠[]∧(CI m).length+1=(rZ ((YN a).flatMap KC)).length:=by
 obtain ⟨k,e⟩:=sX a;have b:(YN a).flatMap sR=(k.flatMap sR++[⟨[],125⟩])++[⟨[],32⟩]:=by rw [e,List.flatMap_append,List.append_assoc];rfl
 have d:(YN a).flatMap KC≠[]:=by rw [e,List.flatMap_append];intro q;have:=(List.append_eq_nil_iff.1 q).2;revert this;decide
 have c:=sY (YN a);rw [←sI _ d,b,Cj] at c;have f:CI [⟨[],32⟩]=[32]:=rfl;rw [f] at c;have g:=List.append_cancel_right c;have h:=sN (YN a);rw [b,Cj,rV,f] at h;refine ⟨k.flatMap sR++[⟨[],125⟩],g,?_,fun i n=>?_,by simpa using h,d,?_⟩
 ·have:=sZ (YN a);rw [b,List.flatMap_append] at this;have l:([⟨[],32⟩]:List BU).flatMap KC=[]:=rfl;rw [l,List.append_nil] at this;exact this
 ·have:i∈(YN a).flatMap sR:=by rw [b];exact List.mem_append_left _ n
  obtain ⟨j,o,p⟩:=List.mem_flatMap.1 this;exact tO (YO a j o) i p
 ·rw [←sI _ d,←g,rV];rfl
theorem sB(a b:List (Nat×List UInt8)):(rZ (a++b)).length=(rZ a).length+(rZ b).length:=by unfold rZ;rw [List.flatMap_append,rV]
theorem sC(k:Nat×List UInt8)(l:List (Nat×List UInt8)):(rZ (k::l)).length=k.2.length+1+(rZ l).length:=by unfold rZ;rw [List.flatMap_cons,rV,rV];rfl
theorem sJ:(rZ []).length=0:=rfl
theorem tL(l:List Nat):(rZ (l.map C6)).length=2*l.length:=by
 induction l with
 | nil=>rfl
 | cons a l b=> rw [List.map_cons,sC,b,rW];have:(C6 a).2.length=1:=Gz a;omega
theorem tV(c p q g k:Nat)(a:List Nat)(h:a.length≤2):(rZ (ED c p q g k a)).length≤22:=by have d:(C6 p).2.length=1:=Gz p;have e:(C6 q).2.length=1:=Gz q;have f:(Wt g).2.length≤4:=J5 g;have b:=tL a;unfold ED;split<;>simp only [sB,sC,sJ,b,d,e,rW,List.length_nil]<;>omega
theorem tU(s:Sm)(h:s.Ok):(rZ (Pd s)).length≤40:=by have:=tV s.kind s.p s.q s.g s.k s.args h.args;unfold Pd QK;split<;>(try simp only [sB,sC,sJ,rW,List.length_nil])<;>omega
theorem sU:∀(a:List Sm),(∀s,s∈a→s.Ok)→(rZ (a.flatMap Pd)).length≤40*a.length
 | [],_=>by simp [rZ]
 | s::a,h=>by have c:=tU s (h s List.mem_cons_self);have d:=sU a (fun u b=>h u (rT _ b));rw [List.flatMap_cons,sB,rW];omega
theorem tS(l:List Nat):(rZ (l.flatMap WO)).length=8*l.length:=by
 induction l with
 | nil=>rfl
 | cons a l b=> have:(C6 a).2.length=1:=Gz a;rw [List.flatMap_cons,sB,b,rW];simp only [WO,sC,sJ,this,rW,List.length_nil];omega
theorem sP(f:Nat)(a:List Sm)(h:∀s,s∈a→s.Ok):(rZ (FU f a)).length≤52+40*a.length:=by have e:=sU a h;have b:=tS ((List.range 4).drop (f % 3));have c:=tL (List.range (f % 3));have d:(Wt f).2.length≤4:=J5 f;rw [List.length_drop,List.length_range] at b;rw [List.length_range] at c;unfold FU;simp only [sB,sC,sJ,b,c,rW,List.length_nil];omega
theorem sW(a:List Sm):(a.filter fun s=>s.aW==0).length+(a.filter fun s=>s.aW==1).length+(a.filter fun s=>s.aW==2).length+(a.filter fun s=>s.aW==3).length≤a.length:=by
 induction a with
 | nil=>simp
 | cons s a c=>
   have b:s.aW=0∨s.aW=1∨s.aW=2∨s.aW=3∨4≤s.aW:=by omega
   simp only [List.filter_cons,rW];rcases b with e | e | e | e | e
   ·simp [e];omega
   ·simp [e];omega
   ·simp [e];omega
   ·simp [e];omega
   ·rw [if_neg (by simp;omega),if_neg (by simp;omega),if_neg (by simp;omega),if_neg (by simp;omega)];omega
theorem tT(a:List Sm)(h:∀s,s∈a→s.Ok)(g:a.length≤60):(rZ (Lo (fsOf a))).length≤2608:=by
 have b:∀f,∀s,s∈(a.filter fun s=>s.aW==f)→s.Ok:=fun f s c=>h s (List.mem_filter.1 c).1
 have i:=sP 0 _ (b 0);have j:=sP 1 _ (b 1);have k:=sP 2 _ (b 2);have l:=sP 3 _ (b 3);have d:=sW a;have e:Lo (fsOf a)=FU 0 (a.filter fun s=>s.aW==0)++(FU 1 (a.filter fun s=>s.aW==1)++(FU 2 (a.filter fun s=>s.aW==2)++FU 3 (a.filter fun s=>s.aW==3))):=by unfold Lo fsOf;simp [List.range,List.range.loop]
 rw [e,sB,sB,sB];omega
theorem sV{a:List Sm}{u:ByteArray}(c:∀s,s∈a→s.In)(l:a.length≤60)(g:u.data.toList=Lib.join ((Lo (fsOf a)).map (·.2)) [32]):Z5 u a∧0<u.size∧u.size+1≤2*(CI (YN a)).length:=by
 obtain ⟨m,b,f,h,n,i,j⟩:=sH a;rw [Zz _ (fun s d=>(c s d).ok)] at b f i j;have q:u.size=(CI m).length:=by rw [b,←g];simp
 have o:=tT a (fun s d=>(c s d).ok) l;obtain ⟨t,k⟩:=VP u m (by rw [g,b]) h;refine ⟨⟨c,by omega,_,k,?_⟩,?_,by omega⟩
 ·rw [VT,List.map_append,Ve,f];congr 1;simp [Wv]
 ·have p:2≤(rZ (Lo (fsOf a))).length:=by
   have e:∃r,Lo (fsOf a)=(3,[102,110])::r:=by refine ⟨(Lo (fsOf a)).tail,?_⟩;unfold Lo fsOf;simp [List.range,List.range.loop,FU]
   obtain ⟨r,e⟩:=e;rw [e,sC];simp only [rW,List.length_nil];omega
  omega
theorem sO(s:ByteArray)(b:List PT)(w:World)(J:List UInt8)(k:Lib.join ((sA b).map (fun x=>x.data.toList)) [32]=J)(n:∀t,t∈b→t.a9.size≤4000)
 (h:Calls Tryz.prog 36 #[.string s] w fun e f=>∃(g d:Nat) (a:Option Addr) (l c j:Nat),e=.returned (.tuple #[.slice (some ⟨g,0,none⟩) b.length d,.agg #[.slice a l c,.int .i64 j],.int .i64 0,.int .i64 0])∧AZ g b.length d b f∧Below w.heap.size w f):
 Calls Tryz.prog 16 #[.string s] w fun e f=>(∃u:ByteArray,e=.returned (.tuple #[.string u,.int .i64 0,.int .i64 0])∧u.data.toList=J)∧Below w.heap.size w f:=by
 have r:=Aa h;have v:=Aa k;have z:=Aa n;clear h k n;go_enter Tryz.func16,Tryz.ntmps16;go_wp2_with fail;refine r.o.mono ?_;rintro e C ⟨g,d,a,l,c,j,rfl,m,i⟩;have D:=i.size;have y:=Aa (m.O ((Ab.refl (fun _=>False) C).alloc (.cells #[.slice a l c,.int .i64 j] 82)) (fun q=>q));have p:=Aa i;clear m i;go_wp2_with fail;refine (sT g b.length d b _ y.o z.o).mono ?_;rw [v.o];rintro e E ⟨⟨u,rfl,o⟩,B⟩;have A:=Aa o;clear o;go_wp2;go_ret3;exact ⟨⟨u,rfl,A.o⟩,(p.o.alloc (by omega) _).trans (B.mono (by simp;omega))⟩
theorem tQ(d p q g k:Nat)(b:List Nat):∀x,x∈ED d p q g k b→x.1≠0:=by
 have e:∀x,x∈b.map C6→x.1≠0:=fun x c=>by obtain ⟨a,_,rfl⟩:=List.mem_map.1 c;simp [C6]
 unfold ED;split<;>simp only [List.forall_mem_append,List.forall_mem_cons]<;>simp [C6,Wt]
theorem tP(s:Sm):∀x,x∈Pd s→x.1≠0:=by
 have h:=tQ s.kind s.p s.q s.g s.k s.args;unfold Pd QK;split
 ·simp only [List.forall_mem_append,List.forall_mem_cons];exact ⟨by decide,by decide,by decide,h,by decide,by simp⟩
 ·simp only [List.forall_mem_append,List.forall_mem_cons];exact ⟨by decide,by decide,by decide,by decide,by decide,by decide,h,by decide,by simp⟩
 ·simp only [List.forall_mem_append,List.forall_mem_cons];exact ⟨by decide,by decide,by decide,h,by decide,by simp⟩
 ·exact h
theorem tN(c:List (Nat×List Sm)):∀x,x∈Lo c→x.1≠0:=by
 intro x b;unfold Lo at b;obtain ⟨q,_,b⟩:=List.mem_flatMap.1 b;unfold FU at b;simp only [List.mem_append,List.mem_cons,List.not_mem_nil,or_false,List.mem_map,List.mem_flatMap] at b;rcases b with b | b | b | ⟨a,_,b⟩ | b | b | ⟨a,_,b⟩ | ⟨a,_,b⟩ | b
 ·rw [b];simp
 ·rw [b];simp [Wt]
 ·rw [b];simp
 ·rw [←b];simp [C6]
 ·rw [b];simp
 ·rw [b];simp
 ·simp only [WO,List.mem_cons,List.not_mem_nil,or_false] at b;rcases b with b | b | b<;>rw [b]<;>simp [C6]
 ·exact tP a x b
 ·rw [b];simp
theorem tG:∀(b:List PT) (a:List (Nat×List UInt8)),b.map Wv=a++[(0,[])]→(∀x,x∈a→x.1≠0)→(sA b).map (fun x=>x.data.toList)=a.map (·.2)
 | [],a,h,_=>by have:=congrArg List.length h;simp at this
 | t::b,[],h,_=>by simp only [List.map_cons,List.nil_append,List.cons.injEq,List.map_eq_nil_iff] at h;obtain ⟨c,rfl⟩:=h;have:t.kind=0:=congrArg Prod.fst c;simp [sA,this]
 | t::b,k::a,h,d=>by
   simp only [List.map_cons,List.cons_append,List.cons.injEq] at h;have c:t.kind≠0:=by have:=d k List.mem_cons_self;rw [←h.1] at this;exact this
   have e:=tG b a h.2 (fun x g=>d x (rT _ g));have f:t.a9.data.toList=k.2:=congrArg Prod.snd h.1;unfold sA at e⊢;rw [List.filter_cons,if_pos (by simpa using c),List.map_cons,List.map_cons,List.map_cons,e,f]
theorem tF(f p)(hF:Cf f p)(s:ByteArray)(n:List Sm)(v:∀s,s∈n→s.In)(m:s.size≤4000)(y:Sc)(x:Aw s s.size 0 x0=.inr y)(D:(AH s y).map Wv=Lo (fsOf n)++[(0,[])])(w:World)(A:Below f p w)(z:f≤w.heap.size):
 (∀t,t∈AH s y→t.a9.size≤4000)∧Calls Tryz.prog 36 #[.string s] w fun e o=>∃(g h:Nat) (a:Option Addr) (l c b:Nat),e=.returned (.tuple #[.slice (some ⟨g,0,none⟩) (AH s y).length h,.agg #[.slice a l c,.int .i64 b],.int .i64 0,.int .i64 0])∧AZ g (AH s y).length h (AH s y) o∧Below w.heap.size w o:=by
 obtain ⟨d,b,i,u,r⟩:=Tn n (fun s q=>(v s q).ok) D;have K:=Qo x;have G:=K.end_;obtain ⟨J,L,_,_,_,M⟩:=mX K m (rO K.bA (by omega)) d b _ u rfl
 have C:(Lt d 4000 b).aR=0:=by have j:=lM d;have k:=lN d;obtain ⟨H,I⟩:=LS r;rw [M _ j k];rw [H] at j;rw [I] at k;rw [Tq j k v r,UW j k]
 refine ⟨fun t F=>rO (K.len t F).1 m,(Ow f p hF s y m x d b _ u rfl w A z G 4000 L J _ rfl C).mono ?_⟩;rintro e o ⟨g,h,a,l,c,U,rfl,E,_,_,_,B⟩;exact ⟨g,h,a,l,c,b,rfl,E,B⟩
theorem sD{b f w}(h:Nf b f w)(s:ByteArray)(a:List Sm)(j:Z5 s a):
 Calls Tryz.prog 16 #[.string s] w fun e d=>(∃u:ByteArray,e=.returned (.tuple #[.string u,.int .i64 0,.int .i64 0])∧u.data.toList=Lib.join ((Lo (fsOf a)).map (·.2)) [32])∧Ab (fun _=>False) w d:=by
 obtain ⟨k,n,y,l,c⟩:=j;obtain ⟨g,i⟩:=tF b f h.fo s a k n y l c w h.bl h.sz;refine (sO s (AH s y) w _ (by rw [tG _ _ c (tN _)]) g i).mono ?_;rintro e d ⟨o,m⟩;exact ⟨o,GP m⟩
def qT(i:List Sm)(c:ByteArray)(b:Int)(w:World)(e:Ending)(h:World):Prop:=
 ∃a d g f l,Pe (fsOf i) a∧e=.returned (.tuple #[.agg #[.int .i64 ((gY (Bu fnL a 0 0) (vx fnL EA) (UL b) c.data.toList).1.bM:Nat),.int .i64 ((UL b-(gY (Bu fnL a 0 0) (vx fnL EA) (UL b) c.data.toList).2:Nat):Int),.slice d g f],.int .i64 0,.int .i64 0])∧Au w.heap.size h (.slice d g f) l∧
  iV (Bu fnL a 0 0) l (gY (Bu fnL a 0 0) (vx fnL EA) (UL b) c.data.toList).1.c.cU (gY (Bu fnL a 0 0) (vx fnL EA) (UL b) c.data.toList).1.c.bN∧GoodP a∧Ab (fun _=>False) w h
theorem oF{a b w}(h:Nf a b w)(p:jT a b)(s:ByteArray)(f:List Sm)(q:Z5 s f)(c:ByteArray)(g:Int):
 Calls Tryz.prog 17 #[.string s,.string c,.int .i64 g] w fun e m=>qT f c g w e m:=by
 obtain ⟨r,z,y,t,v⟩:=q;obtain ⟨d,D,k,i,n,o⟩:=TT a b h.fo s f r z y t v;have u:DU d=fnL:=(LS k).1;have x:Ab (fun _=>False) w (w.alloc (.cells pF 53)):=(Ab.refl _ w).alloc _;have j:=h.go x;have R:=jY a b p s c g d D i n w h.bl h.sz (o _ j.bl j.sz)
 rw [u] at R;refine R.mono ?_;rintro e m ⟨E,G,F,l,rfl,A,B,_,C⟩;exact ⟨d,E,G,F,l,k,rfl,A,B,i,GP C⟩
theorem PEq.tx{P a:List PFn}(E:PEq P a)(t:Tg):GQ a t=GQ P t:=by unfold GQ QE;rw [E.name,E.l8]
theorem tE{P a:List PFn}(E:PEq P a){l d:List ByteArray}{e:List (Tg×Tg)}{b:List (Nat×Nat)}(h:iV P l e b)(c:iV a d e b):d=l:=by
 have f:∀p,jP a p=jP P p:=fun p=>by unfold jP;rw [E.tx,E.tx]
 have g:∀p,kQ a p=kQ P p:=fun p=>by unfold kQ;rw [E.name]
 refine jO c.sorted h.sorted fun x=>?_
 rw [c.aY,h.aY];simp only [f,g]
theorem nV{a:List Sm}{b c:List TF}(g:∀s,s∈a→s.In)(h:Pe (fsOf a) b)(e:Pe (fsOf a) c):PEq (Bu fnL b 0 0) (Bu fnL c 0 0):=
 kU 0 0 (fun q d s i=>by unfold fsOf at d;obtain ⟨f,_,rfl⟩:=List.mem_map.1 d;exact (g s (List.mem_filter.1 i).1).ok.kind) h e
end Go.Proofs.YtegmjgjkcdbmkaaGreatDoor
