/- One of the texts of the proof of runs_card_holds: MbB MbD. -/
import Derived.Test.YthppbgndiplgnaaGreatDoorG42
set_option maxRecDepth 100000
set_option maxHeartbeats 4000000
namespace Go.Proofs.YthppbgndiplgnaaGreatDoor
open Go.RowKit Go.Maps
def Wv:Prop:=∀(B g c:Nat) (l:List ByteArray) (W:World),AB B W (.slice (some ⟨g,0,none⟩) l.length c) l→l.length≤1000000→Calls Tryz.prog 61 #[.slice (some ⟨g,0,none⟩) l.length c] W fun e f=>e=.returned (.tuple #[])∧∃d,AB B f (.slice (some ⟨g,0,none⟩) l.length c) d∧d.Perm l∧d.Pairwise (fun a b=>IN b a=false)∧Ab (fun k=>k=g) W f
def Pc(P:List PFn)(p:Tg×Tg):ByteArray:=⟨(Hf P p.1++[62]++Hf P p.2).toArray⟩
def QI(P:List PFn)(e:Nat×Nat):ByteArray:=⟨([33]++Lib.decDigits e.1++[62]++(AF P e.2).name.data.toList).toArray⟩
structure Rg{α:Type}(k:TypeId)(mk:α→Value)(all ks:List α)(left:Lit→Bool):Prop where
 nodup:ks.Nodup
 sub:∀p,p∈ks→p∈all∧∃x,keyOf Tryz.prog k (mk p)=some x∧left x=false
 rest:∀x,left x=true→∃p,p∈all∧keyOf Tryz.prog k (mk p)=some x
 all:∀p,p∈all→p∈ks∨∃x,keyOf Tryz.prog k (mk p)=some x∧left x=true
theorem Rg.start{d k}{mk:d→Value}{l}{left:Lit→Bool}(h:∀x,left x=true↔∃p,p∈l∧keyOf Tryz.prog k (mk p)=some x)(c:∀p,p∈l→∃x,keyOf Tryz.prog k (mk p)=some x):Rg k mk l [] left:=
 ⟨List.nodup_nil,fun p a=>dC a bU,fun x b=>(h x).1 b,fun p a=>by obtain ⟨x,b⟩:=c p a;exact .inr ⟨x,b,(h x).2 ⟨p,a,b⟩⟩⟩
theorem Rg.i8{j:Type}{k:TypeId}{mk:j→Value}{l n:List j}{left:Lit→Bool}(h:Rg k mk l n left)(K:Keyed Tryz.prog k)(w:∀a b,mk a=mk b→a=b){p:j}{x:Lit}(u:p∈l)(g:keyOf Tryz.prog k (mk p)=some x)(t:left x=true):
 Rg k mk l (n++[p]) (fun z=>left z && !z.sameKey x):=by
 have o:∀{z:Lit},(∃q,keyOf Tryz.prog k (mk q)=some z)→(z.sameKey x=true↔z=x):=fun {z} v=>by obtain ⟨q,i⟩:=v;exact ⟨fun q=>WideAt.sameKey_eq q,fun q=>by subst q;exact WideAt.sameKey_self (K.key g)⟩
 refine ⟨?_,fun q i=>?_,fun y c=>?_,fun q i=>?_⟩
 ·rw [List.nodup_append];refine ⟨h.nodup,by simp,fun a s b m=>?_⟩;rw [bO] at m;subst m;rintro rfl;obtain ⟨_,y,c,d⟩:=h.sub _ s;rw [g] at c;cases c;rw [t] at d;cases d
 ·rcases bZ.1 i with f | f
  ·obtain ⟨r,y,c,d⟩:=h.sub _ f;exact ⟨r,y,c,by rw [d];rfl⟩
  ·rw [bO] at f;subst f;exact ⟨u,x,g,by rw [(o ⟨_,g⟩).2 rfl];simp⟩
 ·simp only [Bool.and_eq_true] at c;exact h.rest y c.1
 ·rcases h.all q i with f | ⟨y,c,d⟩
  ·exact .inl (List.mem_append_left _ f)
  ·by_cases e:y=x
   ·subst e;have:=w _ _ (K.inj c g);subst this;exact .inl (by simp)
   ·refine .inr ⟨y,c,?_⟩;rw [d];have:y.sameKey x≠true:=fun q=>e ((o ⟨_,c⟩).1 q)
    simpa using this
theorem Rg.done{d k}{mk:d→Value}{l b}{left:Lit→Bool}(h:Rg k mk l b left)(c:∀x,left x=false):∀p,p∈b↔p∈l:=fun p=>by refine ⟨fun q=>(h.sub p q).1,fun q=>(h.all p q).resolve_right ?_⟩;rintro ⟨x,_,a⟩;rw [c] at a;cases a
theorem G6.ok{P t}(h:G6 P t)(a:Gi P):Lv t:=by
 have b:=a.Yx;have c:=a.m9 t.Yj;unfold Lv;rcases h with h | h | h
 ·omega
 ·omega
 ·omega
theorem Q9{P t}(a:Gi P)(b:Vy P)(h:G6 P t):(⟨(Hf P t).toArray⟩:ByteArray).size≤20000:=by
 have c:(AF P t.Yj).name.data.toList.length≤4000:=bJ (Nat.le_of_eq Array.length_toList) (b.name t.Yj);have d:(Vk P t.Yj t.Yk).data.toList.length≤4000:=bJ (Nat.le_of_eq Array.length_toList) (b.m9 t.Yj t.Yk);have e:=DP t.Yj;have f:=DP t.Yk;have g:=a.Yx;have i:=a.m9 t.Yj;show (Hf P t).toArray.size≤20000;rw [List.size_toArray];unfold Hf;rcases h with h | h | h
 ·rw [cT (by omega),cT (by omega)];simp only [aZ,aX,bM];omega
 ·rw [cU (by omega)];simp only [aZ,aX,bM];omega
 ·rw [cT (by omega),cU (by omega)];simp only [aX];omega
theorem Ab.over{X:Nat→Prop}{a b c:World}(h:Ab (fun _=>False) a b)(k:Ab X b c)(e:∀j,X j→a.heap.size≤j):Ab (fun _=>False) a c:=
 ⟨k.os.trans h.os,k.tape.trans h.tape,k.output.trans h.output,bJ h.size k.size,fun j d _=>by rw [k.block j (by have:=h.size;omega) (fun q=>by have:=e j q;omega),h.block j d (fun q=>q)]⟩
theorem Jz{k}{R:Value→Option (DataW Unit×List MemPlace)}{b r n a D}{left:Lit→Bool}{X:Nat→Prop}{w d}(h:w.ranges Tryz.prog k R b r n D left a)(c:Ab X w d)(i:¬X b)(j:¬X r):d.ranges Tryz.prog k R b r n D left a:=by have q:=h.owns.lt;have s:=h.lt;obtain ⟨g,f,v,u,e,m,F,p,l,o,t⟩:=h;exact ⟨g,f,v,u,e,(c.block b q i).trans m,F,p,l,(c.block r s j).trans o,t⟩
theorem Wj(a b)(h:UX a=UX b):a=b:=by obtain ⟨⟨j,k,l⟩,⟨m,n,o⟩⟩:=a;obtain ⟨⟨p,q,r⟩,⟨s,t,u⟩⟩:=b;simp [UX] at h;obtain ⟨c,d,e,f,g,i⟩:=h;have:=Int.ofNat.inj c;have:=Int.ofNat.inj d;have:=Int.ofNat.inj e;have:=Int.ofNat.inj f;have:=Int.ofNat.inj g;have:=Int.ofNat.inj i;simp_all
theorem VQ(a b)(h:TI a=TI b):a=b:=by obtain ⟨e,f⟩:=a;obtain ⟨g,i⟩:=b;simp [TI] at h;obtain ⟨c,d⟩:=h;have:=Int.ofNat.inj c;have:=Int.ofNat.inj d;simp_all
theorem Hc{k}{R:Value→Option (DataW Unit×List MemPlace)}{b n D w c}(h:w.ownsMap Tryz.prog k R b n D)(f:Ab (fun _=>False) w c):c.ownsMap Tryz.prog k R b n D:=by obtain ⟨e,d,a,r⟩:=h;exact ⟨e,d,by rw [f.block b (lt_of_block a) (fun q=>q)];exact a,r⟩
theorem RR(J pm T B fv mn pn cn P m w)(h:CM J pm T B fv mn pn cn m w)(S:BB B w fv P)(U:Gi P)(hn:Vy P)(f5:Rf w)(f9:Wv)(f8:∀p,p∈m.c.Ys→G6 P p.1∧G6 P p.2)(f3:∀p,p∈m.c.Yr→p.1≤4000∧p.2<P.length)(l0:m.c.Ys.length+m.c.Yr.length≤200000)(h0:0<P.length):
 Calls Tryz.prog 25 #[.pointer (some ⟨J,0,none⟩)] w fun e w'=>∃(v:Value) (l:List ByteArray) (D:List (Tg×Tg)) (L:List (Nat×Nat)),e=.returned v∧AB w.heap.size w' v l∧l.Pairwise (fun a b=>IN b a=false)∧l.Perm (D.map (Pc P)++L.map (QI P))∧D.Nodup∧L.Nodup∧(∀p,p∈D↔p∈m.c.Ys)∧(∀p,p∈L↔p∈m.c.Yr)∧Ab (fun _=>False) w w':=by
 obtain ⟨mv,rv,ch,O⟩:=h;have e5:=Aa f8;have e2:=Aa f3;have c2:=Aa f5;have g8:=Aa f9;clear f8 f3 f5 f9;obtain ⟨gf,cf,rfl,l1⟩:=S.form h0;have r0:=O.l9.cell 0;have r1:=O.l9.cell 1;have K:=O.l9.cell 2;have r3:=O.l9.cell 3;have r8:=O.l9.cell 8;have r9:=O.l9.cell 9;have lm:=Ae O.l9;simp only [Iy,aU,aS,aT] at r0 r1 K r3 r8 r9;obtain ⟨n1,o,k8,c0,h1⟩:=O.Ys;obtain ⟨n2,s,k9,c1,h2⟩:=O.Yr;obtain ⟨i0,h3,i1,i2,i3⟩:=info_parts Tryz.infoStr;have l2:=c0.size_le;have l3:=c1.size_le;have g1:dJ (IntKind.i64.wrap ((Maps.size o:Int)+(Maps.size s:Int))=((Maps.size o+Maps.size s:Nat):Int)):=by show _=_;rw [IntKind.wrap_i64];omega
 have i4:=fun n ty=>World.ownsMap.len (w:=w.drewN n) c0 Tryz.underlying79 ty
 have i5:=fun n ty=>World.ownsMap.len (w:=w.drewN n) c1 Tryz.underlying80 ty
 go_enter Tryz.func25,Tryz.ntmps25;go_wp2_with fail;refine Fo (v:=.pointer (some ⟨J,0,none⟩)) 11 (by kernel_rfl) (by kernel_rfl) (fun _ _ _ h=>h) (Or.inl ⟨by rfl,fun w=>by go_simp⟩) ?_;simp only [cL,List.take_zero,dA,List.drop_zero];repeat (quiet_step (fail))
 refine wpQuiet_nil ?_;intro w' h8;obtain ⟨nq,h9⟩:=h8;subst h9;go_wp2_with (first
  | (at_make;refine wpList_make_own _ rfl _ _ 22 rfl w.heap.size 9 i0 (.string ⟨#[]⟩) 1 Tryz.underlying22 h3 i1 i2 .i64 .i64 (IntKind.i64.wrap ((Maps.size o:Int)+(Maps.size s:Int))) (Maps.size o+Maps.size s) rfl rfl g1.o (by rw [i3];omega) (by unfold maxLen;omega) (aV _) ?_;intro w1 f7 f4;have b9:dJ (Ab (fun _=>False) w w1):=Ab.grown ((Ab.refl _ w).drewN nq) f4 (fun k c=>by cases c);have c7:=Aa f7;clear f4 f7;have i6:w1.cell? ⟨J,8,none⟩=some (.map (some pm)):=(aW (b9.o.block J lm (fun q=>q))).trans r8)
  | (at_range;refine wpList_range_own _ rfl _ 79 rfl 163 191 NQ Tryz.underlying79 unitElem pm n1 o rfl (Hc c0 b9.o) ?_;intro w2 b7 V d6))
 have O1:=b9.o;clear i4 i5;try go_frame
 have e3:dJ (Ab (fun _=>False) w w2):=Ab.grown O1 V (fun k c=>by cases c);have A:=Aa b7;have lr:w.heap.size<w1.heap.size:=(c7.o.lt _ rfl).2;have a7:dJ (w.heap.size≤w1.heap.size):=Nat.le_of_lt lr;generalize w1.heap.size=Q at*;have f6:∀k,(Value.slice (some ⟨w.heap.size,0,none⟩) 0 (Maps.size o+Maps.size s)).ownBlock=some k→k≠Q:=by intro k c;have e:some w.heap.size=some k:=c;have e:=dE e;omega
 have r:dJ (AB w.heap.size w2 (.slice (some ⟨w.heap.size,0,none⟩) 0 (Maps.size o+Maps.size s)) []):=Ac (X:=fun _=>False) c7.o (Ab.grown (Ab.refl _ w1) V (fun k c=>by cases c)) (fun _ _ q=>q);have a5:dJ (Rg 163 UX m.c.Ys [] (Maps.has o)):=Rg.start h1 (fun p S=>by obtain ⟨q1,q2⟩:=e5.o p S;exact Wz (q1.ok U) (q2.ok U))
 clear b7 V d6 i6 b9 c7 O1 g1;go_loopw [3] (fun v wr=>∃(left:Lit→Bool) (N:Nat) (D:List (Tg×Tg)) (d:List ByteArray) (f:Option Addr) (j:Nat),v=.slice f d.length j∧d.length+N≤Maps.size o∧dJ (d=D.map (Pc P))∧dJ (d=[]→∃g,f=some ⟨g,0,none⟩)∧dJ (wr.ranges Tryz.prog 163 unitElem pm Q n1 o left N)∧dJ (Rg 163 UX m.c.Ys D left)∧dJ (AB w.heap.size wr (.slice f d.length j) d)∧dJ (∀k,(Value.slice f d.length j).ownBlock=some k→k≠Q)∧dJ (Ab (fun _=>False) w wr)) (fun _ wr=>wr.rangeLeft pm Q)
 case atStart=>exact ⟨Maps.has o,Maps.size o,[],[],_,_,rfl,by simp,rfl,fun _=>⟨_,rfl⟩,A,a5,r,f6,e3⟩
 case round=>
  clear A a5 r f6 e3;obtain ⟨left,N,D,d,f,j,rfl,e9,a2,a3,A,u,r,F,M⟩:=hrel;go_wp2_with ((at_next;refine wpList_next_ranges _ rfl _ rfl 163 NQ unitElem (fun v:Value=>v) (fun _:Unit=>Value.agg #[]) (fun d9 _ _=>⟨d9,rfl⟩) (fun v y hv=>⟨(),(unitElem_inv hv).1⟩) pm Q n1 o left N rfl A.o ?_ ?_));rotate_left
  ·intro x kl _ _ E b0 b1 Z _ _ b6 h5 Y a1 d2;obtain ⟨p,b5,b4⟩:=u.o.rest _ Z;obtain rfl:=NQ.inj b1 b4;have c3:=Aa (u.o.i8 NQ Wj b5 b4 Z);have a6:=Aa b6;have c5:dJ (Ab (fun _=>False) w E):=Ab.grown M.o Y (fun k c=>by cases c;exact .inr a7.o);have a8:dJ (AB w.heap.size E (.slice f d.length j) d):=Ac (X:=fun k=>k=Q) r.o (Ab.grown (Ab.refl _ wr) Y (fun k c=>by cases c;exact .inl rfl)) (fun k c q=>F.o k c q);obtain ⟨T1,T2⟩:=e5.o p b5;simp only [UX] at d2;clear b1 Z b6 Y u r;go_wp2_with fail;have C:=Ar.new E #[.int .i64 p.1.kind,.int .i64 p.1.Yj,.int .i64 p.1.Yk,.int .i64 p.2.kind,.int .i64 p.2.Yj,.int .i64 p.2.Yk] 163;rw [a1] at C;have i:Ab (fun _=>False) w (E.alloc (.cells #[.int .i64 p.1.kind,.int .i64 p.1.Yj,.int .i64 p.1.Yk,.int .i64 p.2.kind,.int .i64 p.2.Yj,.int .i64 p.2.Yk] 163)):=c5.o.alloc _;have G:=a8.o.alloc (.cells #[.int .i64 p.1.kind,.int .i64 p.1.Yj,.int .i64 p.1.Yk,.int .i64 p.2.kind,.int .i64 p.2.Yj,.int .i64 p.2.Yk] 163);have G4:=a6.o.alloc (.cells #[.int .i64 p.1.kind,.int .i64 p.1.Yj,.int .i64 p.1.Yk,.int .i64 p.2.kind,.int .i64 p.2.Yj,.int .i64 p.2.Yk] 163);have d7:(E.alloc (.cells #[.int .i64 p.1.kind,.int .i64 p.1.Yj,.int .i64 p.1.Yk,.int .i64 p.2.kind,.int .i64 p.2.Yj,.int .i64 p.2.Yk] 163)).heap.size=wr.heap.size+1:=by simp [a1]
   have d5:=a6.o.lt;have b8:=fun k c=>(a8.o.lt k c).2
   rw [a1] at d5;generalize E.alloc _=W4 at*;have d3:dJ ((⟨(Hf P p.1).toArray⟩:ByteArray)++⟨#[62]⟩++⟨(Hf P p.2).toArray⟩=Pc P p):=CV (by simp);have a9:∀W,Ab (fun _=>False) W4 W→Rf W:=fun W H n W' d4 d0=>c2.o n W' d4 (i.trans (H.trans d0))
   have R:=i.block J lm (fun q=>q);refine Cj (UE _ J wr.heap.size w.heap.size gf P.length cf mn pn cn _ _ _ _ _ _ d f j ⟨(Hf P p.1).toArray⟩ ⟨(Hf P p.2).toArray⟩ W4 ⟨(aW R).trans r0,(aW R).trans r1,(aW R).trans K,(aW R).trans r3,C.cell 0,C.cell 1,C.cell 2,C.cell 3,C.cell 4,C.cell 5⟩ (by have:=i.size;omega) (by omega) i.size G (by omega) (fun k c=>⟨by have:=(G.lt k c).1;omega,by have:=b8 k c;omega⟩) (fun W H=>L7 B _ mn pn cn P p.1 W (S.p6 (i.trans H)) U hn T1 (a9 W H) h0) (fun W H=>L7 B _ mn pn cn P p.2 W (S.p6 (i.trans H)) U hn T2 (a9 W H) h0) (Q9 U hn T1) (Q9 U hn T2) ?_);intro v' w9 i9 j0 j1 j2 j3 j4 j5 j6 j7 j8 j9 k0 k1 k2 k3 k4 k5 k6 k7 I b3 a0;rw [d3.o] at I;have c8:=Aa I;have c6:dJ (Ab (fun _=>False) w w9):=i.over a0 (fun k q=>(G.lt k q).1);have a4:dJ (w9.ranges Tryz.prog 163 unitElem pm Q n1 o (fun z=>left z && !z.sameKey kl) b0):=Jz G4 a0 (fun q=>by have:=(G.lt _ q).1;have:=c0.lt;omega) (fun q=>F.o Q q rfl);have c4:dJ (∀k,v'.ownBlock=some k→k≠Q):=fun k c=>(b3 k c).elim (F.o k) (fun q=>by omega)
   have h4:(d++[Pc P p]).length=d.length+1:=by simp
   have c9:dJ (d++[Pc P p]=(D++[p]).map (Pc P)):=by show _=_;rw [a2.o];simp
   obtain ⟨e0,i8,e1,rfl⟩:=Ad I;have d8:=Ah I;subst d8;clear I b3 a0 G4 G i a9 C d7 R b8;dsimp only;go_wp2_with fail;go_roundw
   case rel=>exact ⟨_,b0,D++[p],_,e0,e1,rfl,by omega,c9,(fun q=>dC q (by simp)),a4,c3,c8,c4,c6⟩
   case measure=> rw [a4.o.left_eq,A.o.left_eq];omega
  intro d1 b2;have g3:=Aa (u.o.done b2);have g5:=Aa u.o.nodup;have i7:wr.cell? ⟨J,9,none⟩=some (.map (some T)):=(aW (M.o.block J lm (fun q=>q))).trans r9;have g0:=fun k c=>(r.o.lt k c).2
  have g9:=Aa M.o.size;clear u A F d1 b2 a7 lr r8;go_wp2_with (at_range;refine wpList_range_own _ rfl _ 80 rfl 166 191 NO Tryz.underlying80 unitElem T n2 s rfl (Hc c1 M.o) ?_;intro w5 b7 V d6);try go_frame
  have e4:dJ (Ab (fun _=>False) w w5):=Ab.grown M.o V (fun k c=>by cases c);have A:=Aa b7;have F:dJ (∀k,(Value.slice f d.length j).ownBlock=some k→k≠wr.heap.size):=fun k c=>by have:=g0 k c;omega
  have e6:dJ (AB w.heap.size w5 (.slice f d.length j) d):=Ac (X:=fun _=>False) r.o (Ab.grown (Ab.refl _ wr) V (fun k c=>by cases c)) (fun _ _ q=>q);have a5:dJ (Rg 166 TI m.c.Yr [] (Maps.has s)):=Rg.start h2 (fun p S=>by obtain ⟨q1,q2⟩:=e2.o p S;exact Wy (by omega) (by have:=U.Yx;omega))
  have h7:d.length≤Maps.size o:=by omega
  have e8:dJ (d=D.map (Pc P)++([]:List (Nat×Nat)).map (QI P)):=by show _=_;rw [a2.o];simp
  clear b7 V d6 i7 r M a2 g0 e9;have a7:=g9;generalize wr.heap.size=K at*;go_loopw [3] (fun v wr=>∃(left:Lit→Bool) (N:Nat) (L:List (Nat×Nat)) (d:List ByteArray) (f:Option Addr) (j:Nat),v=.slice f d.length j∧d.length+N≤Maps.size o+Maps.size s∧dJ (d=D.map (Pc P)++L.map (QI P))∧dJ (d=[]→∃g,f=some ⟨g,0,none⟩)∧dJ (wr.ranges Tryz.prog 166 unitElem T K n2 s left N)∧dJ (Rg 166 TI m.c.Yr L left)∧dJ (AB w.heap.size wr (.slice f d.length j) d)∧dJ (∀k,(Value.slice f d.length j).ownBlock=some k→k≠K)∧dJ (Ab (fun _=>False) w wr)) (fun _ wr=>wr.rangeLeft T K)
  case atStart=>exact ⟨Maps.has s,Maps.size s,[],d,f,j,rfl,by omega,e8,a3,A,a5,e6,F,e4⟩
  case round=>
   clear A a5 e6 F e4 e8 h7 a3;obtain ⟨left,N,L,d,f,j,rfl,e9,a2,a3,A,u,r,F,M⟩:=hrel;go_wp2_with ((at_next;refine wpList_next_ranges _ rfl _ rfl 166 NO unitElem (fun v:Value=>v) (fun _:Unit=>Value.agg #[]) (fun d9 _ _=>⟨d9,rfl⟩) (fun v y hv=>⟨(),(unitElem_inv hv).1⟩) T K n2 s left N rfl A.o ?_ ?_));rotate_left
   ·intro x kl _ _ E b0 b1 Z _ _ b6 h5 Y a1 d2;obtain ⟨p,b5,b4⟩:=u.o.rest _ Z;obtain rfl:=NO.inj b1 b4;have c3:=Aa (u.o.i8 NO VQ b5 b4 Z);have a6:=Aa b6;have c5:dJ (Ab (fun _=>False) w E):=Ab.grown M.o Y (fun k c=>by cases c;exact .inr a7.o);have a8:dJ (AB w.heap.size E (.slice f d.length j) d):=Ac (X:=fun k=>k=K) r.o (Ab.grown (Ab.refl _ wr) Y (fun k c=>by cases c;exact .inl rfl)) (fun k c q=>F.o k c q);obtain ⟨T1,T2⟩:=e2.o p b5;simp only [TI] at d2;clear b1 Z b6 Y u r;go_wp2_with fail;have C:=Ar.new E #[.int .i64 p.1,.int .i64 p.2] 166;rw [a1] at C;have i:Ab (fun _=>False) w (E.alloc (.cells #[.int .i64 p.1,.int .i64 p.2] 166)):=c5.o.alloc _;have G:=a8.o.alloc (.cells #[.int .i64 p.1,.int .i64 p.2] 166);have G4:=a6.o.alloc (.cells #[.int .i64 p.1,.int .i64 p.2] 166);have d7:(E.alloc (.cells #[.int .i64 p.1,.int .i64 p.2] 166)).heap.size=wr.heap.size+1:=by simp [a1]
    have d5:=a6.o.lt;have b8:=fun k c=>(a8.o.lt k c).2
    rw [a1] at d5;generalize E.alloc _=W4 at*;have d3:dJ ((⟨#[33]⟩:ByteArray)++Pb p.1++⟨#[62]⟩++(AF P p.2).name=QI P p):=CV (by simp [Pb]);have a9:∀W,Ab (fun _=>False) W4 W→Rf W:=fun W H n W' d4 d0=>c2.o n W' d4 (i.trans (H.trans d0))
    have R:=i.block J lm (fun q=>q);obtain ⟨vv,sv,hc,_,_⟩:=(S.p6 i).get T2;rw [←Fc T2] at hc;have f0:=hc 0 (by decide);simp only [Un,aS,bK] at f0;have f1:(Pb p.1).size≤20000:=by have:=DP p.1;simp only [Pb,ByteArray.size,List.size_toArray];omega
    have f2:(AF P p.2).name.size≤20000:=by have:=hn.name p.2;omega
    refine Cj (UJ _ J wr.heap.size w.heap.size gf P.length cf p.1 p.2 d f j (Pb p.1) (AF P p.2).name W4 ⟨(aW R).trans r0,C.cell 0,C.cell 1,f0⟩ (by have:=i.size;omega) (by omega) (by have:=i.size;omega) i.size T2 G (by omega) (fun k c=>⟨by have:=(G.lt k c).1;omega,by have:=b8 k c;omega,by have:=(G.lt k c).1;omega⟩) (fun W H=>c2.o p.1 W T1 (i.trans H)) f1 f2 ?_);intro v' w9 i9 j0 j1 j2 j3 j4 j5 j6 j7 j8 j9 k0 k1 k2 k3 k4 k5 k6 k7 I b3 a0;rw [d3.o] at I;have c8:=Aa I;have c6:dJ (Ab (fun _=>False) w w9):=i.over a0 (fun k q=>(G.lt k q).1);have a4:dJ (w9.ranges Tryz.prog 166 unitElem T K n2 s (fun z=>left z && !z.sameKey kl) b0):=Jz G4 a0 (fun q=>by have:=(G.lt _ q).1;have:=c1.lt;omega) (fun q=>F.o K q rfl);have c4:dJ (∀k,v'.ownBlock=some k→k≠K):=fun k c=>(b3 k c).elim (F.o k) (fun q=>by omega)
    have h4:(d++[QI P p]).length=d.length+1:=by simp
    have c9:dJ (d++[QI P p]=D.map (Pc P)++(L++[p]).map (QI P)):=by show _=_;rw [a2.o];simp
    obtain ⟨e0,i8,e1,rfl⟩:=Ad I;have d8:=Ah I;subst d8;clear I b3 a0 G4 G i a9 C d7 R b8 hc f0 f1 f2;dsimp only;go_wp2_with fail;go_roundw
    case rel=>exact ⟨_,b0,L++[p],_,e0,e1,rfl,by omega,c9,(fun q=>dC q (by simp)),a4,c3,c8,c4,c6⟩
    case measure=> rw [a4.o.left_eq,A.o.left_eq];omega
   intro d1 b2;have g4:=Aa (u.o.done b2);have g6:=Aa u.o.nodup;have h6:∃g,f=some ⟨g,0,none⟩:=by
    cases hq:d with
    | nil=>exact a3.o hq
    | cons a t=>exact As r.o (by rw [hq];simp)
   obtain ⟨g7,rfl⟩:=h6;have e7:=Aa (g8.o w.heap.size g7 j d wr r.o (by omega));have g2:dJ (∀k,k=g7→w.heap.size≤k):=fun k c=>by subst c;exact (r.o.lt _ rfl).1
   clear u A F d1 b2 a7 r a3;go_wp2_with fail;refine e7.o.mono ?_;rintro e w7 ⟨rfl,l7,s1,s2,s3,s4⟩;rw [a2.o] at s2;have S1:=Aa s1;have S2:=Aa s2;have S3:=Aa s3;have S4:=Aa (M.o.over s4 g2.o);clear s1 s2 s3 s4 e7;go_wp2_with fail;go_ret;exact ⟨_,l7,D,L,rfl,S1.o,S3.o,S2.o,g5.o,g6.o,g3.o,g4.o,S4.o⟩
structure En(P:List PFn)(c:Co):Prop where
 nm:∀i,i<c.i7.length→G6 P (Ak c.i7 i).nm
 pt:∀p,p∈c.Ys→G6 P p.1∧G6 P p.2
 en:∀e,e∈c.Yr→e.1≤4000∧e.2<P.length
theorem En.set{P c}(h:En P c){a v}(d:a<c.i7.length)(f:Cn P.length c.i7.length v):En P (c.set a v):=by
 refine ⟨fun i e=>?_,fun p b=>?_,h.en⟩
 ·rw [QF];rw [Dy] at e;exact h.nm i e
 ·unfold Co.set at b;simp only at b;split at b
  ·rename_i g;rcases cM.1 b with rfl | b
   ·refine ⟨h.nm a d,.inr (.inr ⟨rfl,?_,rfl⟩)⟩;rcases f with ⟨q,_⟩ | ⟨_,q⟩ | ⟨q,_⟩
    ·omega
    ·exact q
    ·omega
   ·exact h.pt p b
  ·split at b
   ·rename_i g;rcases cM.1 b with rfl | b
    ·refine ⟨h.nm a d,h.nm _ ?_⟩;rcases f with ⟨q,_⟩ | ⟨q,_⟩ | ⟨_,q⟩
     ·omega
     ·omega
     ·exact q
    ·exact h.pt p b
   ·exact h.pt p b
theorem En.app{P c}(h:En P c){l}(b:∀x,x∈l→G6 P x.nm):En P {c with i7:=c.i7++l}:=by
 refine ⟨fun i a=>?_,h.pt,h.en⟩;simp only [aZ] at a;unfold Ak;rcases cJ i c.i7.length with q | q
 ·simp only;rw [cW q];exact h.nm i q
 ·simp only;rw [cV q,aY (by omega)];exact b _ (bD _)
theorem En.fields{P c}(h:En P c){p}(b:p≤4000):En P (c.fields p):=by refine h.app (fun x a=>?_);simp only [cM,bU,or_false] at a;rcases a with rfl | rfl | rfl | rfl<;>exact .inr (.inl ⟨rfl,b,by simp⟩)
theorem En.m9{P c}(h:En P c){f}(a:f<P.length):En P (c.m9 f (AF P f).m9.length):=by refine h.app (fun x d=>?_);obtain ⟨i,b,rfl⟩:=cG.1 d;exact .inl ⟨rfl,a,List.mem_range.1 b⟩
theorem En.args{P:List PFn}:∀(l:List Vl) (a:Nat) (c:Co),En P c→a+l.length≤c.i7.length→(∀v,v∈l→Cn P.length c.i7.length v)→En P (CH l a c)
 | [],_,_,h,_,_=>h
 | v::l,a,c,h,d,b=>by simp only [aX] at d;refine En.args l (a+1) (c.set a v) (h.set (by omega) (b v (by simp))) (by rw [Dy];omega) (fun u e=>?_);rw [Dy];exact b u (bN _ e)
theorem En.enter{P c}(h:En P c){f}(a:f<P.length){args}(e:args.length≤(AF P f).m9.length)(b:∀v,v∈args→Cn P.length c.i7.length v):En P (c.enter f (AF P f).m9.length args):=by refine En.args args c.i7.length _ (h.m9 a) (by simp [Co.m9];omega) (fun v d=>(b v d).more (by simp [Co.m9]))
theorem En.YY{P m}(h:En P m.c){f b}(d:f<P.length){a}(c:a.length≤(AF P f).m9.length)(e:∀v,v∈a→Cn P.length m.c.i7.length v):En P (Bu P m f a b).c:=by
 unfold Proofs.YthppbgndiplgnaaGreatDoor.Bu;split
 ·exact h
 ·exact h.enter d c e
theorem En.leave{P n m}(h:En P m.c)(b:BM P n m){v}(d:Cn P.length m.c.i7.length v):En P (A6 m v).c:=by
 obtain ⟨c,a,e⟩:=m;match a with
 | []=>exact h
 | [f]=>exact h
 | f::g::r=>exact h.set b.YZ.1 d
theorem En.norm{P:List PFn}{n:Nat}:∀(k:Nat) {m:Mc},En P m.c→BM P n m→En P (Bc P k m).c
 | 0,_,h,_=>h
 | k+1,m,h,a=>by
   unfold Bc;split
   ·split
    ·exact h
    ·split
     ·exact h
     ·exact En.norm k (h.leave a (GH _ _)) a.Y9
   ·exact h
theorem En.act{P k p q n r g c m}(h:En P c)(f:BY P.length c.i7)(d:p<c.i7.length)(o:q<c.i7.length)(t:k=4→g<P.length)(s:k=3→n≤3)(u:r≤4000)(a:FI k p q n r g c=some m):En P m:=by
 have i:=(f.at_ o).2;unfold Proofs.YthppbgndiplgnaaGreatDoor.FI at a;split at a
 ·cases a;exact (h.fields u).set (by simp [Co.fields];omega) (.inr (.inr ⟨rfl,by simp [Co.fields]⟩))
 ·split at a
  ·cases a;exact h.set d (.inr (.inr ⟨rfl,o⟩))
  ·split at a
   ·rename_i l;split at a
    ·rename_i j;cases a;obtain ⟨w,x,y⟩:=j;have e:(Ak c.i7 q).v.y6<c.i7.length:=by
      rcases i with ⟨b,_⟩ | ⟨b,_⟩ | ⟨_,b⟩
      ·omega
      ·omega
      ·exact b
     have v:=(f.at_ e).1;have:=s l;refine h.set d (.inr (.inr ⟨rfl,?_⟩));rcases v with b | ⟨_,_,_,_,b⟩
     ·omega
     ·simp only;omega
    ·cases a
   ·split at a
    ·rename_i l;cases a;exact h.set d (.inr (.inl ⟨rfl,t l⟩))
    ·split at a
     ·split at a
      ·rename_i j;cases a;have e:(Ak c.i7 q).v.y6<c.i7.length:=by
        rcases i with ⟨b,_⟩ | ⟨b,_⟩ | ⟨_,b⟩
        ·omega
        ·omega
        ·exact b
       exact h.set d (f.at_ e).2
      ·cases a
     ·split at a
      ·cases a;exact h.set d i
      ·split at a
       ·split at a
        ·rename_i j;cases a;have e:(Ak c.i7 p).v.y6<c.i7.length:=by
          rcases (f.at_ d).2 with ⟨b,_⟩ | ⟨b,_⟩ | ⟨_,b⟩
          ·omega
          ·omega
          ·exact b
         exact h.set e i
        ·cases a
       ·cases a;exact h
theorem En.step{P}(k:Gi P){n m f r}(c:En P m.c)(h:BM P (n+1) m)(o:m.u8=f::r)(H:f.i8<(AF P f.fn).m8.length):En P (FE P m).c:=by
 have y:=h.fr f (by rw [o];simp);have b:=k.ok f.fn y.fn _ (OJ H);have O:=y.base;unfold FE;rw [o];simp only;obtain ⟨s,K⟩:∃s,Jk (AF P f.fn).m8 f.i8=s:=⟨_,rfl⟩;rw [K] at b⊢;have z:=h.i8 o b.i8;have w:∀v,v∈BZ m.c.i7 f.base s.args→Cn P.length m.c.i7.length v:=by intro v g;unfold BZ at g;obtain ⟨a,d,rfl⟩:=cG.1 g;have:=b.args a d;exact (h.i7.at_ (by omega)).2
 have N:(BZ m.c.i7 f.base s.args).length=s.args.length:=by simp only [BZ,bW]
 split
 ·rename_i j;have M:=b.many j;have C:=k.YN s.t9;exact En.YY (m:={m with u8:={f with i8:=s.i8}::r}) c (b.func (.inr j)) (by omega) w
 ·split
  ·rename_i D;have R:=b.sr (by omega);split
   ·rename_i G;split
    ·exact c
    ·have g:=(h.i7.at_ (i:=f.base+s.t9) (by omega)).2;have x:(Ak m.c.i7 (f.base+s.t9)).v.y6<P.length:=by
      rcases g with ⟨q,_⟩ | ⟨_,q⟩ | ⟨q,_⟩
      ·omega
      ·exact q
      ·omega
     have C:=k.YN (Ak m.c.i7 (f.base+s.t9)).v.y6;have Q:=G.2;refine En.YY (m:=⟨{m.c with Yr:=(s.Yp,(Ak m.c.i7 (f.base+s.t9)).v.y6)::m.c.Yr},{f with i8:=s.i8}::r,m.Yi⟩) ⟨c.nm,c.pt,fun e l=>?_⟩ x (by omega) w;rcases cM.1 l with rfl | l
     ·exact ⟨b.Yp,x⟩
     ·exact c.en e l
   ·exact c
  ·split
   ·rename_i A;have:=b.sr (by omega);exact En.leave (m:={m with u8:={f with i8:=s.i8}::r}) c z ((h.i7.at_ (by omega)).2)
   ·split
    ·exact ⟨c.nm,c.pt,c.en⟩
    ·split
     ·rename_i t d;rename_i j D A L;by_cases u:s.kind=0
      ·have F:t=m.c:=by rw [u] at d;simpa [Proofs.YthppbgndiplgnaaGreatDoor.FI] using d.symm
       subst F
       exact c
      ·have S:=b.tg u (by omega) (by omega) (by omega);have I:∃p,p<m.c.i7.length∧Proofs.YthppbgndiplgnaaGreatDoor.FI s.kind (f.base+s.Yf) p s.field s.Yp s.t9 m.c=some t:=by
        by_cases B:s.kind=1∨s.kind=4
        ·refine ⟨f.base+s.Yf,by omega,?_⟩;rw [←d];rcases B with e | e<;>simp [Proofs.YthppbgndiplgnaaGreatDoor.FI,e]
        ·have:=b.sr (by have:=b.kind;omega);exact ⟨f.base+s.t9,by omega,d⟩
       obtain ⟨p,J,E⟩:=I;exact c.act h.i7 (by omega) J (fun e=>b.func (.inl e)) (fun _=>b.field) b.Yp E
     ·exact c
theorem Jf{P:List PFn}:∀(k:Nat) (m:Mc),m.u8.length<k→(Bc P k m).Yi=1→∀f r,(Bc P k m).u8=f::r→f.i8<(AF P f.fn).m8.length
 | 0,_,h,_,_,_,_=>by omega
 | k+1,m,h,b,f,r,a=>by
   unfold Bc at b a;by_cases d:m.Yi=1
   ·rw [cU d] at b a;cases c:m.u8 with
    | nil=> rw [c] at a;simp only at a;rw [c] at a;cases a
    | cons g s=>
      rw [c] at b a;simp only at b a;by_cases e:g.i8<(AF P g.fn).m8.length
      ·rw [cU e] at a;rw [c] at a;cases a;exact e
      ·rw [cT e] at b a;refine Jf k (A6 m DL) ?_ b f r a;rw [Js c];rw [c] at h;simp only [aX] at h;omega
   ·rw [cT d] at b;exact dC b d
theorem En.go{P:List PFn}(e:Gi P):∀(n:Nat) {m:Mc},m.u8.length≤40→En P m.c→BM P n m→En P (Gr P n m).1.c
 | 0,m,_,b,a=>by unfold Gr;exact b.norm 41 a
 | n+1,m,k,b,a=>by
   unfold Gr;split
   ·rename_i h;have j:=b.norm 41 a;have d:=a.norm 41;cases c:(Bc P 41 m).u8 with
    | nil=>exact dC c (d.run h)
    | cons f r=> have i:=Jf 41 m (by omega) h f r c;have g:=d.step e c i;exact En.go e n g.Yl (j.step e d c i) g
   ·exact b.norm 41 a
theorem En.run{P}(g:Gi P){d b}(k:b≤5000)(h:d<P.length)(a):En P (OD P d b a).1.c:=by obtain ⟨o,e⟩:=BM.start g (n:=b) (f:=d) (ch:=a) k h;refine En.go g b e.Yl ?_ e;exact En.YY (m:=⟨⟨[],a,[],[]⟩,[],1⟩) ⟨fun i j=>dC j (Nat.not_lt_zero _),fun p c=>dC c bU,fun p c=>dC c bU⟩ h (by simp) (fun v l=>dC l bU)
end Go.Proofs.YthppbgndiplgnaaGreatDoor
