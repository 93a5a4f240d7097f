/- One of the texts of the proof: ExB MkO. -/
import Derived.Test.YtegmjgjkcdbmkaaGreatDoorS28
namespace Go.Proofs.YtegmjgjkcdbmkaaGreatDoor
open Go.RowKit
structure Mt(s:Sm)(n:Nat)(u:AY):Prop where
 kd:u.kind=kM s.kind
 tg:s.kind≤8→u.aQ=s.p
 sr:s.kind=1∨s.kind=3∨s.kind=4∨s.kind=5∨s.kind=6∨s.kind=8∨9≤s.kind→u.r9=s.q
 sf:s.kind=2∨s.kind=7→u.r9=s.g
 fd:s.kind=4→u.field=s.k
 nm:s.kind=0∨s.kind=8→u.m9=n
 ar:s.kind=7∨s.kind=8→u.args=s.args
structure BM(xs:List (Sm×Nat))(l:List AY):Prop where
 of:∀u,u∈l→(u.kind=0∨u.kind=11∨u.kind=12)∨∃x,x∈xs∧Mt x.1 x.2 u
 back:∀x,x∈xs→∃u,u∈l∧Mt x.1 x.2 u
theorem Mt.upd{s n u}(h:Mt s n u)(a b:Nat):Mt s n {u with next:=a,taken:=b}:=⟨h.kd,h.tg,h.sr,h.sf,h.fd,h.nm,h.ar⟩
theorem LA{l:List AY}{i:Nat}{f:AY→AY}{t:AY}(h:t∈l):t∈l.modify i f∨f t∈l.modify i f:=by
 obtain ⟨j,b,e⟩:=List.mem_iff_getElem.1 h;by_cases a:i=j
 ·refine .inr (List.mem_iff_getElem.2 ⟨j,by simpa using b,?_⟩);rw [List.getElem_modify,if_pos a,e]
 ·refine .inl (List.mem_iff_getElem.2 ⟨j,by simpa using b,?_⟩);rw [List.getElem_modify,if_neg a,e]
theorem BM.mod{m l}(h:BM m l)(i:Nat){f:AY→AY}(j:∀u,∃a b,f u={u with next:=a,taken:=b}):BM m (l.modify i f):=by
 refine ⟨fun u d=>?_,fun x g=>?_⟩
 ·obtain ⟨t,k,rfl | rfl⟩:=KM d
  ·exact h.of _ k
  ·obtain ⟨a,b,e⟩:=j t;rw [e];rcases h.of _ k with q | ⟨x,g,c⟩
   ·exact .inl q
   ·exact .inr ⟨x,g,c.upd a b⟩
 ·obtain ⟨u,d,c⟩:=h.back x g;rcases LA (i:=i) (f:=f) d with q | q
  ·exact ⟨_,q,c⟩
  ·obtain ⟨a,b,e⟩:=j u;exact ⟨_,q,by rw [e];exact c.upd a b⟩
theorem BM.none{b l u}(h:BM b l)(d:u.kind=0∨u.kind=11∨u.kind=12):BM b (l++[u]):=by
 refine ⟨fun v a=>?_,fun x e=>?_⟩
 ·rcases List.mem_append.1 a with q | q
  ·exact h.of v q
  ·rw [List.mem_singleton.1 q];exact .inl d
 ·obtain ⟨v,a,c⟩:=h.back x e;exact ⟨v,List.mem_append_left _ a,c⟩
theorem BM.one{e l u}{s:Sm}{n:Nat}(h:BM e l)(d:Mt s n u):BM (e++[(s,n)]) (l++[u]):=by
 refine ⟨fun v b=>?_,fun x c=>?_⟩
 ·rcases List.mem_append.1 b with q | q
  ·rcases h.of v q with r | ⟨x,c,a⟩
   ·exact .inl r
   ·exact .inr ⟨x,List.mem_append_left _ c,a⟩
  ·rw [List.mem_singleton.1 q];exact .inr ⟨(s,n),List.mem_append_right _ (List.mem_singleton.2 rfl),d⟩
 ·rcases List.mem_append.1 c with q | q
  ·obtain ⟨v,b,a⟩:=h.back x q;exact ⟨v,List.mem_append_left _ b,a⟩
  ·rw [List.mem_singleton.1 q];exact ⟨u,List.mem_append_right _ (List.mem_singleton.2 rfl),d⟩
theorem Wo{t:PT}{v:Nat}(a:v<4)(h:tx t=Cx v):vx IJ t.a9=v:=by unfold vx;rw [Et h,show (⟨(Cx v).toArray⟩:ByteArray)=GA v from rfl,IE v a];rfl
theorem ZI{t:PT}{v:Nat}(a:v<4)(h:tx t=II v):vx fnL t.a9=v:=by unfold vx;rw [Et h,show (⟨(II v).toArray⟩:ByteArray)=Kz v from rfl,Ib v a];rfl
theorem Wp:∀{l:List PT} {m:List Nat},l.map tx=m.map Cx→(∀a,a∈m→a<4)→(l.map fun t=>vx IJ t.a9)=m
 | [],[],_,_=>rfl
 | [],_::_,h,_=>by simp at h
 | _::_,[],h,_=>by simp at h
 | t::l,a::m,h,c=>by simp only [List.map_cons,List.cons.injEq] at h⊢;exact ⟨Wo (c a List.mem_cons_self) h.1,Wp h.2 fun b d=>c b (rT _ d)⟩
theorem Zq{k:Nat}(h:k≤9):(kM k=1↔k=0)∧(kM k=8↔k=8)∧(kM k=4∨kM k=7↔k=2∨k=7)∧kM k≠0∧kM k≠11∧kM k≠12:=by
 have a:k=0∨k=1∨k=2∨k=3∨k=4∨k=5∨k=6∨k=7∨k=8∨k=9:=by omega
 rcases a with rfl | rfl | rfl | rfl | rfl | rfl | rfl | rfl | rfl | rfl<;>decide
structure Un(s:Sm)(xs:List (Sm×Nat))(b b':Bd):Prop where
 d9:b'.d9=IJ
 pl:b'.pl=if s.kind=0 then b.pl+1 else b.pl
 ca:b'.ca=if s.kind=8 then b.ca+1 else b.ca
 b9:BM (xs++[(s,if s.kind=0 then b.pl+1 else if s.kind=8 then b.ca+1 else 0)]) b'.b9
theorem Fw{s:Sm}{v:VS}(d:s.In)(h:Ng s.kind s.p s.q s.g s.k s.args v){b:Bd}{k}(e:b.d9=IJ)(m:BM k b.b9)(a:Nat):Un s k b (Am fnL v a b):=by
 have l:=d.ok.kind;obtain ⟨g,j,i,f,n,o⟩:=Zq l;rw [←h.kd] at g j i f n o;refine ⟨?_,?_,?_,?_⟩
 ·show (if v.kind=0 then _ else b.d9)=_;rw [if_neg f,e]
 ·show (if v.kind=1 then _ else _)=_;simp only [g]
 ·show (if v.kind=8 then _ else _)=_;simp only [j]
 ·refine m.one ⟨h.kd,fun q=>?_,fun q=>?_,fun q=>?_,fun q=>?_,fun q=>?_,fun q=>?_⟩
  ·show (if v.kind=0 then _ else vx b.d9 v.tg.a9)=_;rw [if_neg f,e,Wo d.p (h.tg q)]
  ·show (if v.kind=4∨v.kind=7 then _ else vx b.d9 v.sr.a9)=_;rw [if_neg (fun c=>by have:=i.1 c;omega),e,Wo d.q (h.sr q)]
  ·show (if v.kind=4∨v.kind=7 then vx fnL v.sr.a9 else _)=_;rw [if_pos (i.2 q),ZI d.g (h.sf q)]
  ·show v.field=_;rw [h.fd,if_pos q]
  ·show (if v.kind=1 then _ else if v.kind=8 then _ else _)=_;simp only [g,j]
  ·show (v.args.map fun t=>vx b.d9 t.a9)=_;have:=h.ar;rw [if_pos q] at this;rw [e];exact Wp this d.a4
theorem Un.tk{s c b a}(h:Un s c b a)(i n:Nat):Un s c b (a.tk i n):=⟨h.d9,h.pl,h.ca,h.b9.mod i fun u=>⟨u.next,n,rfl⟩⟩
theorem Un.nx{s c b a}(h:Un s c b a)(i n:Nat):Un s c b (a.nx i n):=⟨h.d9,h.pl,h.ca,h.b9.mod i fun u=>⟨n,u.taken,rfl⟩⟩
theorem Un.of{s f b a c}(h:Un s f a c)(d:a.pl=b.pl)(e:a.ca=b.ca):Un s f b c:=by
 refine ⟨h.d9,?_,?_,?_⟩
 ·rw [h.pl,d]
 ·rw [h.ca,e]
 ·rw [←d,←e];exact h.b9
theorem SL{s:Sm}{t:TS}(j:s.In)(h:ZQ s t){b:Bd}{o}(q:b.d9=IJ)(r:BM o b.b9)(a:Nat):Un s o b (BP fnL t a b):=by
 obtain ⟨v,l,d⟩:=h;have n:∀k,k=11∨k=12→(Am fnL (Dh k) a b).d9=IJ∧BM o (Am fnL (Dh k) a b).b9∧(Am fnL (Dh k) a b).pl=b.pl∧(Am fnL (Dh k) a b).ca=b.ca:=fun k y=>by
  have m:(Dh k).kind=k:=rfl;refine ⟨?_,r.none (.inr y),?_,?_⟩
  ·show (if (Dh k).kind=0 then _ else b.d9)=_;rw [if_neg (by rw [m];omega),q]
  ·show (if (Dh k).kind=1 then _ else b.pl)=_;rw [if_neg (by rw [m];omega)]
  ·show (if (Dh k).kind=8 then _ else b.ca)=_;rw [if_neg (by rw [m];omega)]
 split at d
 ·obtain ⟨p,rfl⟩:=d;obtain ⟨e,f,g,i⟩:=n 11 (.inl rfl);rw [BP,if_pos (show (Dh 11).kind=11 from rfl),AP,BP];exact ((Fw j l e f a).of g i).tk _ _
 ·obtain ⟨p,z,rfl⟩:=d;obtain ⟨e,f,g,i⟩:=n 11 (.inl rfl);have w:∀c,AP fnL [] a c=c:=fun c=>by rw [AP]
  have x:∀c,AP fnL [.mk v []] a c=Am fnL v a c:=fun c=>by rw [AP,BP]
  rw [BP,if_pos (show (Dh 11).kind=11 from rfl)];simp only [w,x];exact ((Fw j l (b:=(Am fnL (Dh 11) a b).tk b.b9.length (AJ [] a (Am fnL (Dh 11) a b))) e (f.mod _ fun u=>⟨u.next,_,rfl⟩) a).of g i).nx _ _
 ·obtain ⟨p,rfl⟩:=d;obtain ⟨e,f,g,i⟩:=n 12 (.inr rfl);rw [BP,if_neg (show¬(Dh 12).kind=11 by decide),if_pos (show (Dh 12).kind=12 from rfl),AP,BP];exact ((Fw j l e f _).of g i).tk _ _
 ·subst d;rw [BP];exact Fw j l q r a
theorem NQ(e:List ByteArray)(I:List TS→Bd→Prop)(h:∀t c a b,I (t::c) b→I c (BP e t a b)):∀c a b,I c b→I [] (AP e c a b)
 | [],a,b,d=>by rw [AP];exact d
 | [t],a,b,d=>by rw [AP];exact h t [] a b d
 | t::f::c,a,b,d=>by rw [AP];exact NQ e I h (f::c) a _ (h t _ _ b d)
def ZO(h:List Sm)(d c:Nat)(i:List TS)(b:Bd):Prop:=
 (∃j k e f,i=e++f∧Ui k e∧Pf h f∧b.d9=j.map GA∧j++k=List.range 4∧BM [] b.b9∧b.pl=d∧b.ca=c)∨
 (∃a g,h=a++g∧Pf g i∧b.d9=IJ∧BM (Ch a d c) b.b9∧b.pl=d+DS a∧b.ca=c+DT a)
theorem Rr{k:List Sm}(p:∀s,s∈k→s.In){g f:Nat}{t n a b}(h:∃c d,k=c++d∧Pf d (t::n)∧b.d9=IJ∧BM (Ch c g f) b.b9∧b.pl=g+DS c∧b.ca=f+DT c):ZO k g f n (BP fnL t a b):=by
 obtain ⟨c,d,e,j,o,q,l,m⟩:=h;rcases d with _ | ⟨s,d⟩
 ·exact j.elim
 ·have L:=SL (p s (by rw [e];simp)) j.1 o q a;refine .inr ⟨c++[s],d,by rw [e];simp,j.2,L.d9,?_,?_,?_⟩
  ·have:=L.b9;rw [l,m] at this;rw [It];exact this
  ·rw [L.pl,l];have:=Ko s [] (g+DS c);have i:DS (c++[s])=DS c+DS [s]:=by simp [DS]
   rw [i];simp only [DS,List.countP_nil,Nat.add_zero] at this⊢;omega
  ·rw [L.ca,m];have:=Kp s [] (f+DT c);have i:DT (c++[s])=DT c+DT [s]:=by simp [DT]
   rw [i];simp only [DT,List.countP_nil,Nat.add_zero] at this⊢;omega
theorem YI{d:List Sm}(q:∀s,s∈d→s.In){u j:Nat}:∀t i a b,ZO d u j (t::i) b→ZO d u j i (BP fnL t a b):=by
 intro t i a b h;rcases h with ⟨x,c,g,A,e,f,m,o,p,r,k,l⟩ | h
 ·rcases g with _ | ⟨B,g⟩
  ·rcases c with _ | ⟨v,c⟩
   ·refine Rr q ⟨[],d,rfl,?_,?_,r,by rw [k];rfl,by rw [l];rfl⟩
    ·rw [e];exact m
    ·rw [o,←List.append_nil x,p];rfl
   ·exact f.elim
  ·rcases c with _ | ⟨v,c⟩
   ·exact f.elim
   ·rw [List.cons_append] at e;obtain ⟨rfl,rfl⟩:=List.cons.inj e;obtain ⟨⟨w,rfl,n,z,_⟩,y⟩:=f;refine .inl ⟨x++[v],c,g,A,rfl,y,m,?_,by rw [←p];simp,?_,?_,?_⟩
    ·rw [BP];show (if w.kind=0 then b.d9++[w.tg.a9] else b.d9)=_;rw [if_pos n,o,Et z,List.map_append];rfl
    ·rw [BP];exact r.none (.inl n)
    ·rw [BP];show (if w.kind=1 then _ else b.pl)=_;rw [if_neg (by omega),k]
    ·rw [BP];show (if w.kind=8 then _ else b.ca)=_;rw [if_neg (by omega),l]
 ·exact Rr q h
theorem Uz{f:Nat}{c:List Sm}{t:TF}(z:∀s,s∈c→s.In)(h:Y9 f c t)(b a:Nat):(EQ fnL t b a).d9=IJ∧BM (Ch c b a) (EQ fnL t b a).b9∧(EQ fnL t b a).pl=b+DS c∧(EQ fnL t b a).ca=a+DT c:=by
 obtain ⟨E,o,B,C,p,q,r⟩:=h;have y:List.range 4=List.range (f % 3)++(List.range 4).drop (f % 3):=by
  have:f % 3=0∨f % 3=1∨f % 3=2:=by omega
  rcases this with e | e | e<;>rw [e]<;>rfl
 have:=NQ fnL (ZO c b a) (YI z) t.v8 (CQ t.v8) (QU t b a) (.inl ⟨List.range (f % 3),_,B,C,p,q,r,Wi o,y.symm,⟨fun u A=>absurd A List.not_mem_nil,fun x d=>absurd d List.not_mem_nil⟩,rfl,rfl⟩);unfold EQ;rcases this with ⟨H,n,F,G,e,w,j,k,l,d,g,i⟩ | ⟨D,m,e,j,k,d,g,i⟩
 ·obtain ⟨rfl,rfl⟩:=List.append_eq_nil_iff.1 e.symm;rcases n with _ | ⟨v,n⟩
  ·rcases c with _ | ⟨s,c⟩
   ·rw [List.append_nil] at l;exact ⟨by rw [k,l];rfl,d,g,i⟩
   ·exact j.elim
  ·exact w.elim
 ·rcases m with _ | ⟨s,m⟩
  ·rw [List.append_nil] at e;subst e;exact ⟨k,d,g,i⟩
  ·exact j.elim
structure MadeP(fs:List (Nat×List Sm))(pl ca:Nat)(P:List PFn):Prop where
 len:P.length=fs.length
 at_:∀i (h:i<fs.length),(Ap P i).name=Kz (fs[i]).1∧(Ap P i).l8=IJ∧(Ap P i).i8=(fs[i]).1 % 3∧BM (Ch (fs[i]).2 (pl+DS ((fs.take i).flatMap (·.2))) (ca+DT ((fs.take i).flatMap (·.2)))) (Ap P i).b9
theorem KT:∀{c:List (Nat×List Sm)} {d:List TF} (b a:Nat),(∀q,q∈c→∀s,s∈q.2→s.In)→Pe c d→MadeP c b a (Bu fnL d b a)∧BB fnL d b a=(b+DS (c.flatMap (·.2)),a+DT (c.flatMap (·.2)))
 | [],[],b,a,_,_=>⟨⟨rfl,fun i h=>by simp at h⟩,rfl⟩
 | [],_::_,_,_,_,h=>h.elim
 | _::_,[],_,_,_,h=>h.elim
 | q::c,t::d,b,a,g,h=>by
   obtain ⟨k,m,n,o⟩:=Uz (g q List.mem_cons_self) h.1 b a;obtain ⟨j,w⟩:=KT (b+DS q.2) (a+DT q.2) (fun y v=>g y (rT _ v)) h.2;have e:∀l:List Sm,DS (q.2++l)=DS q.2+DS l:=fun l=>by simp [DS]
   have f:∀l:List Sm,DT (q.2++l)=DT q.2+DT l:=fun l=>by simp [DT]
   rw [Bu,BB,n,o];refine ⟨⟨?_,fun i r=>?_⟩,?_⟩
   ·rw [rW,rW,j.len]
   ·rcases i with _ | i
    ·have u:t.i8.length=q.1 % 3:=by have:=congrArg List.length h.1.2.1;simpa using this
     exact ⟨Et h.1.1,k,u,m⟩
    ·have:=j.at_ i (by simpa using r);simp only [List.getElem_cons_succ,List.take_succ_cons,List.flatMap_cons,e,f];rw [←Nat.add_assoc,←Nat.add_assoc];have p:∀(x:PFn) (l:List PFn),Ap (x::l) (i+1)=Ap l i:=fun x l=>by simp [Ap]
     rw [p];exact this
   ·rw [w];simp only [List.flatMap_cons,e,f,Nat.add_assoc]
theorem PJ:Nc.length=1:=by have:=congrArg List.length Rd;simpa using this
theorem Ny:(Ap Nc 0).b9.map Yf=[[0,0,0,0,0],[0,1,0,0,0],[1,0,0,0,1],[3,1,0,2,0],[9,1,0,0,0],[5,0,1,0,0]]:=by
 have h:=Rd;have a:0<Nc.length:=by rw [PJ];omega
 have:=congrArg (fun l=>l[0]?) h;rw [List.getElem?_map,rU a] at this;unfold Ap;rw [rU a];simpa using this
theorem Re{r:Rl}(h:Ly Nc r):r.f=0∧Yf r.s∈[[0,0,0,0,0],[0,1,0,0,0],[1,0,0,0,1],[3,1,0,2,0],[9,1,0,0,0],[5,0,1,0,0]]:=by
 have a:r.f=0:=by have:=h.1;rw [PJ] at this;omega
 refine ⟨a,?_⟩;rw [←Ny,←a];exact List.mem_map_of_mem h.2
theorem PI{x:List Nat}(h:x∈[[0,0,0,0,0],[0,1,0,0,0],[1,0,0,0,1],[3,1,0,2,0],[9,1,0,0,0],[5,0,1,0,0]]):∃r,Ly Nc r∧r.f=0∧Yf r.s=x:=by rw [←Ny] at h;obtain ⟨s,a,e⟩:=List.mem_map.1 h;exact ⟨⟨0,s⟩,⟨by rw [PJ];exact Nat.zero_lt_one,a⟩,rfl,e⟩
def US:Sy:=⟨fun c t=>(c=0∧t=156)∨(c=1∧t=158)∨(c=158∧t=156),fun a b=>(a=0∧b=158)∨(a=158∧b=0),fun _ _=>False⟩
theorem Yz:XW Nc US:=by
 have v:∀{s:AY} {a b c d e:Nat},Yf s=[a,b,c,d,e]→s.kind=a∧s.aQ=b∧s.r9=c∧s.field=d∧s.m9=e:=fun h=>by simpa [Yf] using h
 refine ⟨fun a b t hF f=>?_,fun r o=>?_,fun r t o n f=>?_⟩
 ·unfold US at hF f⊢;simp only at hF f⊢;omega
 ·obtain ⟨g,i⟩:=Re o;simp only [List.mem_cons,List.not_mem_nil,or_false] at i;rcases i with e | e | e | e | e | e<;>obtain ⟨l,k,m,p,u⟩:=v e
  all_goals
   refine ⟨fun q=>?_,fun q=>?_,fun q=>?_,fun q=>?_,fun q=>?_⟩;all_goals first | omega | skip
  ·unfold US Rl.tg vN pN;rw [g,k,u];exact .inl ⟨rfl,rfl⟩
 ·obtain ⟨g,i⟩:=Re o;simp only [List.mem_cons,List.not_mem_nil,or_false] at i;rcases i with e | e | e | e | e | e<;>obtain ⟨l,k,m,p,u⟩:=v e
  ·exact absurd n (by unfold A2;omega)
  ·exact absurd n (by unfold A2;omega)
  ·exact absurd n (by unfold A2;omega)
  ·have j:t=156:=by unfold US Rl.at Rl.sr vN at f;rw [l,g,m] at f;simp at f;omega
   refine ⟨fun _ _ _=>?_,fun q=>by omega,fun q=>by omega,fun q=>by omega⟩
   unfold US Rl.tg vN
   rw [g,k,p,j]
   exact .inr (.inl ⟨rfl,rfl⟩)
  ·have j:t=158:=by unfold US Rl.at Rl.tg vN at f;rw [l,g,k] at f;simp at f;omega
   refine ⟨fun q=>by omega,fun q=>by omega,fun _ _=>?_,fun q=>by omega⟩
   unfold US Rl.sr vN
   rw [g,m,j]
   exact .inl ⟨rfl,rfl⟩
  ·have j:t=158:=by unfold US Rl.at Rl.sr vN at f;rw [l,g,m] at f;simp at f;omega
   refine ⟨fun q=>by omega,fun _ _=>?_,fun q=>by omega,fun q=>by omega⟩
   unfold US Rl.tg vN
   rw [g,k,j]
   exact .inr ⟨rfl,rfl⟩
theorem UT(x:Nat):(least Nc).I (pN 1 2) x↔x=156:=by
 constructor
 ·intro h;have:=h US Yz;unfold US pN at this;simp at this;omega
 ·rintro rfl;have i:∀{s:AY} {a b c d e:Nat},Yf s=[a,b,c,d,e]→s.kind=a∧s.aQ=b∧s.r9=c∧s.field=d∧s.m9=e:=fun h=>by simpa [Yf] using h
  have C:=CU Nc;obtain ⟨G,D,z,v⟩:=PI (x:=[1,0,0,0,1]) (by simp);obtain ⟨H,E,j,w⟩:=PI (x:=[3,1,0,2,0]) (by simp);obtain ⟨I,F,k,y⟩:=PI (x:=[9,1,0,0,0]) (by simp);obtain ⟨m,n,J,K,o⟩:=i v;obtain ⟨f,p,q,r,L⟩:=i w;obtain ⟨g,t,u,M,N⟩:=i y;have l:(least Nc).I 0 156:=by have:=(C.beg G D).1 m;unfold Rl.tg vN pN at this;rw [z,n,o] at this;exact this
  have A:(least Nc).I 1 158:=by have:=(C.fol H 156 E (.inl f) (by unfold Rl.at Rl.sr vN;rw [f,j,q];exact l)).1 f (by omega) (by omega);unfold Rl.tg vN at this;rw [j,p,r] at this;exact this
  have B:(least Nc).F 0 158:=by have:=(C.fol I 158 F (.inr (.inr (.inr g))) (by unfold Rl.at Rl.tg vN;rw [g,k,t];exact A)).2.2.1 g (.inr (by omega));unfold Rl.sr vN at this;rw [k,u] at this;exact this
  exact C.flow _ _ _ B l
theorem Vr{f:Nat→ByteArray}{m:Nat→Prop}{l:List ByteArray}{a:Nat}(h:Jo f m l)(c:∀x,m x↔x=a):l=[f a]:=by
 obtain ⟨_,e,g,b,d⟩:=h;have:e=[a]:=by
  rcases e with _ | ⟨x,_ | ⟨y,r⟩⟩
  ·have:=(b a).2 ((c a).2 rfl);cases this
  ·rw [(c x).1 ((b x).1 List.mem_cons_self)]
  ·have i:=(c x).1 ((b x).1 List.mem_cons_self);have j:=(c y).1 ((b y).1 (rT _ List.mem_cons_self));have:=List.rel_of_pairwise_cons g (List.mem_cons_self (a:=y));omega
 rw [this] at d;exact List.perm_singleton.1 d
theorem WV{l:List ByteArray}(h:Jo (EF Nc) ((least Nc).I (pN 1 2)) l):l=[⟨#[49,46,48]⟩]:=by
 rw [Vr h UT];have b:Lib.decDigits 1=[49]:=by rw [Lib.decDigits_one (by omega)];rfl
 have a:Lib.decDigits 0=[48]:=by rw [Lib.decDigits_one (by omega)];rfl
 have e:EF Nc 156=⟨#[49,46,48]⟩:=by unfold EF GQ ON CD;simp [a,b]
 rw [e]
theorem Ic(a:List Sm):(fsOf a).length=4:=rfl
theorem Fu{d:List Sm}{P:List PFn}(h:MadeP (fsOf d) 0 0 P){f:Nat}(c:f<4):(Ap P f).name=Kz f∧(Ap P f).l8=IJ∧(Ap P f).i8=f % 3:=by
 obtain ⟨a,g,b,_⟩:=h.at_ f (by rw [Ic];exact c);have e:((fsOf d)[f]'(by rw [Ic];exact c)).1=f:=by simp [fsOf]
 rw [e] at a b;exact ⟨a,g,b⟩
theorem WZ{a b:Nat}(e:a<4)(f:b<4)(h:Kz a=Kz b):a=b:=by have c:=Ib a e;have d:=Ib b f;rw [h,d] at c;omega
theorem Vj{o:List Sm}{P:List PFn}(h:MadeP (fsOf o) 0 0 P){f v:Nat}(i:f<4)(l:v<4):FE P (Kz f) (GA v) 0=some (vN f v):=by
 have p:P.length=4:=by rw [h.len,Ic]
 have n:∀d k,k+d=f→FE (P.drop k) (Kz f) (GA v) k=some (vN f v):=by
  intro d;induction d with
  | zero=>
    intro k j;have e:k=f:=by omega
    subst e;obtain ⟨a,c,_⟩:=Fu h i;have b:k<P.length:=by omega
    have g:Ap P k=P[k]:=by unfold Ap;rw [rU b];rfl
    rw [g] at a c;rw [IT P _ _ k b,a,c,IE v l,if_pos ⟨rfl,by omega⟩];rfl
  | succ d m=>
    intro k j;obtain ⟨a,c,_⟩:=Fu h (f:=k) (by omega);have b:k<P.length:=by omega
    have g:Ap P k=P[k]:=by unfold Ap;rw [rU b];rfl
    rw [g] at a c;rw [IT P _ _ k b,a,if_neg (fun q=>by have:=WZ (by omega) i (Dd q.1);omega)];exact m (k+1) (by omega)
 have:=n f 0 (by omega);simpa using this
end Go.Proofs.YtegmjgjkcdbmkaaGreatDoor
