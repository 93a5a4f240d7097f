/- One of the texts of the proof: MbB MbD MbE MbF RwA RwB. -/
import Derived.Test.YtegmjgjkcdbmkaaGreatDoorS23
set_option maxRecDepth 100000
set_option maxHeartbeats 4000000
namespace Go.Proofs.YtegmjgjkcdbmkaaGreatDoor
open Go.RowKit Go.Maps
def XX:Prop:=∀(B g c:Nat) (l:List ByteArray) (W:World),Au B W (.slice (some ⟨g,0,none⟩) l.length c) l→l.length≤1000000→Calls Tryz.prog 90 #[.slice (some ⟨g,0,none⟩) l.length c] W fun e f=>e=.returned (.tuple #[])∧∃d,Au B f (.slice (some ⟨g,0,none⟩) l.length c) d∧d.Perm l∧d.Pairwise (fun a b=>ZU b a=false)∧Ab (fun k=>k=g) W f
def jP(P:List PFn)(p:Tg×Tg):ByteArray:=⟨(GQ P p.1++[62]++GQ P p.2).toArray⟩
def kQ(P:List PFn)(e:Nat×Nat):ByteArray:=⟨([33]++Lib.decDigits e.1++[62]++(Ap P e.2).name.data.toList).toArray⟩
structure mF{α:Type}(k:TypeId)(mk:α→Value)(all ks:List α)(left:Lit→Bool):Prop where
 nodup:ks.Nodup
 sub:∀p,p∈ks→p∈all∧∃x,keyOf Tryz.prog k (mk p)=some x∧left x=false
 rest:∀x,left x=true→∃p,p∈all∧keyOf Tryz.prog k (mk p)=some x
 all:∀p,p∈all→p∈ks∨∃x,keyOf Tryz.prog k (mk p)=some x∧left x=true
theorem mF.start{d k}{mk:d→Value}{l}{left:Lit→Bool}(h:∀x,left x=true↔∃p,p∈l∧keyOf Tryz.prog k (mk p)=some x)(c:∀p,p∈l→∃x,keyOf Tryz.prog k (mk p)=some x):mF k mk l [] left:=
 ⟨List.nodup_nil,fun p a=>absurd a List.not_mem_nil,fun x b=>(h x).1 b,fun p a=>by obtain ⟨x,b⟩:=c p a;exact .inr ⟨x,b,(h x).2 ⟨p,a,b⟩⟩⟩
theorem mF.next{j:Type}{k:TypeId}{mk:j→Value}{l n:List j}{left:Lit→Bool}(h:mF k mk l n left)(K:Keyed Tryz.prog k)(w:∀a b,mk a=mk b→a=b){p:j}{x:Lit}(u:p∈l)(g:keyOf Tryz.prog k (mk p)=some x)(t:left x=true):
 mF k mk l (n++[p]) (fun z=>left z && !z.sameKey x):=by
 have o:∀{z:Lit},(∃q,keyOf Tryz.prog k (mk q)=some z)→(z.sameKey x=true↔z=x):=fun {z} v=>by obtain ⟨q,i⟩:=v;exact ⟨fun q=>WideAt.sameKey_eq q,fun q=>by subst q;exact WideAt.sameKey_self (K.key g)⟩
 refine ⟨?_,fun q i=>?_,fun y c=>?_,fun q i=>?_⟩
 ·rw [List.nodup_append];refine ⟨h.nodup,by simp,fun a s b m=>?_⟩;rw [List.mem_singleton] at m;subst m;rintro rfl;obtain ⟨_,y,c,d⟩:=h.sub _ s;rw [g] at c;cases c;rw [t] at d;cases d
 ·rcases List.mem_append.1 i with f | f
  ·obtain ⟨r,y,c,d⟩:=h.sub _ f;exact ⟨r,y,c,by rw [d];rfl⟩
  ·rw [List.mem_singleton] at f;subst f;exact ⟨u,x,g,by rw [(o ⟨_,g⟩).2 rfl];simp⟩
 ·simp only [Bool.and_eq_true] at c;exact h.rest y c.1
 ·rcases h.all q i with f | ⟨y,c,d⟩
  ·exact .inl (List.mem_append_left _ f)
  ·by_cases e:y=x
   ·subst e;have:=w _ _ (K.inj c g);subst this;exact .inl (by simp)
   ·refine .inr ⟨y,c,?_⟩;rw [d];have:y.sameKey x≠true:=fun q=>e ((o ⟨_,c⟩).1 q)
    simpa using this
theorem mF.done{d k}{mk:d→Value}{l b}{left:Lit→Bool}(h:mF k mk l b left)(c:∀x,left x=false):∀p,p∈b↔p∈l:=fun p=>by refine ⟨fun q=>(h.sub p q).1,fun q=>(h.all p q).resolve_right ?_⟩;rintro ⟨x,_,a⟩;rw [c] at a;cases a
theorem Kh.ok{P t}(h:Kh P t)(a:Ms P):Zc t:=by
 have b:=a.bA;have c:=a.l8 t.aV;unfold Zc;rcases h with h | h | h
 ·omega
 ·omega
 ·omega
theorem XG{P t}(a:Ms P)(b:PnOk P)(h:Kh P t):(⟨(GQ P t).toArray⟩:ByteArray).size≤20000:=by
 have c:(Ap P t.aV).name.data.toList.length≤4000:=rO (Nat.le_of_eq Array.length_toList) (b.name t.aV);have d:(QE P t.aV t.aX).data.toList.length≤4000:=rO (Nat.le_of_eq Array.length_toList) (b.l8 t.aV t.aX);have e:=Hw t.aV;have f:=Hw t.aX;have g:=a.bA;have i:=a.l8 t.aV;show (GQ P t).toArray.size≤20000;rw [List.size_toArray];unfold GQ;rcases h with h | h | h
 ·rw [if_neg (by omega),if_neg (by omega)];simp only [rV,rW,List.length_nil];omega
 ·rw [if_pos (by omega)];simp only [rV,rW,List.length_nil];omega
 ·rw [if_neg (by omega),if_pos (by omega)];simp only [rW];omega
theorem Ab.over{X:Nat→Prop}{a b c:World}(h:Ab (fun _=>False) a b)(k:Ab X b c)(e:∀j,X j→a.heap.size≤j):Ab (fun _=>False) a c:=
 ⟨k.os.trans h.os,k.tape.trans h.tape,k.output.trans h.output,rO h.size k.size,fun j d _=>by rw [k.block j (by have:=h.size;omega) (fun q=>by have:=e j q;omega),h.block j d (fun q=>q)]⟩
theorem jM{k}{R:Value→Option (DataW Unit×List MemPlace)}{b r n a D}{left:Lit→Bool}{X:Nat→Prop}{w d}(h:w.ranges Tryz.prog k R b r n D left a)(c:Ab X w d)(i:¬X b)(j:¬X r):d.ranges Tryz.prog k R b r n D left a:=by have q:=h.owns.lt;have s:=h.lt;obtain ⟨g,f,v,u,e,m,F,p,l,o,t⟩:=h;exact ⟨g,f,v,u,e,(c.block b q i).trans m,F,p,l,(c.block r s j).trans o,t⟩
theorem oX(a b)(h:oG a=oG b):a=b:=by obtain ⟨⟨j,k,l⟩,⟨m,n,o⟩⟩:=a;obtain ⟨⟨p,q,r⟩,⟨s,t,u⟩⟩:=b;simp [oG] at h;obtain ⟨c,d,e,f,g,i⟩:=h;have:=Int.ofNat.inj c;have:=Int.ofNat.inj d;have:=Int.ofNat.inj e;have:=Int.ofNat.inj f;have:=Int.ofNat.inj g;have:=Int.ofNat.inj i;simp_all
theorem oQ(a b)(h:nO a=nO b):a=b:=by obtain ⟨e,f⟩:=a;obtain ⟨g,i⟩:=b;simp [nO] at h;obtain ⟨c,d⟩:=h;have:=Int.ofNat.inj c;have:=Int.ofNat.inj d;simp_all
theorem iX{k}{R:Value→Option (DataW Unit×List MemPlace)}{b n D w c}(h:w.ownsMap Tryz.prog k R b n D)(f:Ab (fun _=>False) w c):c.ownsMap Tryz.prog k R b n D:=by obtain ⟨e,d,a,r⟩:=h;exact ⟨e,d,by rw [f.block b (lt_of_block a) (fun q=>q)];exact a,r⟩
theorem mS(J pm T B fv mn pn cn P m w)(h:TN J pm T B fv mn pn cn m w)(S:Bh B w fv P)(U:Ms P)(hn:PnOk P)(f5:ItOk w)(f9:XX)(f8:∀p,p∈m.c.cU→Kh P p.1∧Kh P p.2)(f3:∀p,p∈m.c.bN→p.1≤4000∧p.2<P.length)(l0:m.c.cU.length+m.c.bN.length≤200000)(h0:0<P.length):
 Calls Tryz.prog 56 #[.pointer (some ⟨J,0,none⟩)] w fun e w'=>∃(v:Value) (l:List ByteArray) (D:List (Tg×Tg)) (L:List (Nat×Nat)),e=.returned v∧Au w.heap.size w' v l∧l.Pairwise (fun a b=>ZU b a=false)∧l.Perm (D.map (jP P)++L.map (kQ P))∧D.Nodup∧L.Nodup∧(∀p,p∈D↔p∈m.c.cU)∧(∀p,p∈L↔p∈m.c.bN)∧Ab (fun _=>False) w w':=by
 obtain ⟨mv,rv,ch,O⟩:=h;have e5:=Aa f8;have e2:=Aa f3;have c2:=Aa f5;have g8:=Aa f9;clear f8 f3 f5 f9;obtain ⟨gf,cf,rfl,l1⟩:=S.form h0;have r0:=O.s9.cell 0;have r1:=O.s9.cell 1;have K:=O.s9.cell 2;have r3:=O.s9.cell 3;have r8:=O.s9.cell 8;have r9:=O.s9.cell 9;have lm:=Ae O.s9;simp only [jC,dM,dJ,dK] at r0 r1 K r3 r8 r9;obtain ⟨n1,o,k8,c0,h1⟩:=O.cU;obtain ⟨n2,s,k9,c1,h2⟩:=O.bN;obtain ⟨i0,h3,i1,i2,i3⟩:=info_parts Tryz.infoStr;have l2:=c0.size_le;have l3:=c1.size_le;have g1:dN (IntKind.i64.wrap ((Maps.size o:Int)+(Maps.size s:Int))=((Maps.size o+Maps.size s:Nat):Int)):=by show _=_;rw [IntKind.wrap_i64];omega
 have i4:=fun n ty=>World.ownsMap.len (w:=w.drewN n) c0 Tryz.underlying116 ty
 have i5:=fun n ty=>World.ownsMap.len (w:=w.drewN n) c1 Tryz.underlying117 ty
 go_enter Tryz.func56,Tryz.ntmps56;go_wp2_with fail;refine LH (v:=.pointer (some ⟨J,0,none⟩)) 11 (by kernel_rfl) (by kernel_rfl) (fun _ _ _ h=>h) (Or.inl ⟨by rfl,fun w=>by go_simp⟩) ?_;simp only [List.take_succ_cons,List.take_zero,List.drop_succ_cons,List.drop_zero];repeat (quiet_step (fail))
 refine wpQuiet_nil ?_;intro w' h8;obtain ⟨nq,h9⟩:=h8;subst h9;go_wp2_with (first
  | (at_make;refine wpList_make_own _ rfl _ _ 28 rfl w.heap.size 9 i0 (.string ⟨#[]⟩) 1 Tryz.underlying28 h3 i1 i2 .i64 .i64 (IntKind.i64.wrap ((Maps.size o:Int)+(Maps.size s:Int))) (Maps.size o+Maps.size s) rfl rfl g1.o (by rw [i3];omega) (by unfold maxLen;omega) (rN _) ?_;intro w1 f7 f4;have b9:dN (Ab (fun _=>False) w w1):=Ab.grown ((Ab.refl _ w).drewN nq) f4 (fun k c=>by cases c);have c7:=Aa f7;clear f4 f7;have i6:w1.cell? ⟨J,8,none⟩=some (.map (some pm)):=(rM (b9.o.block J lm (fun q=>q))).trans r8)
  | (at_range;refine wpList_range_own _ rfl _ 116 rfl 197 231 kS Tryz.underlying116 unitElem pm n1 o rfl (iX c0 b9.o) ?_;intro w2 b7 V d6))
 have O1:=b9.o;clear i4 i5;try go_frame
 have e3:dN (Ab (fun _=>False) w w2):=Ab.grown O1 V (fun k c=>by cases c);have A:=Aa b7;have lr:w.heap.size<w1.heap.size:=(c7.o.lt _ rfl).2;have a7:dN (w.heap.size≤w1.heap.size):=Nat.le_of_lt lr;generalize w1.heap.size=Q at*;have f6:∀k,(Value.slice (some ⟨w.heap.size,0,none⟩) 0 (Maps.size o+Maps.size s)).ownBlock=some k→k≠Q:=by intro k c;have e:some w.heap.size=some k:=c;have e:=Option.some.inj e;omega
 have r:dN (Au w.heap.size w2 (.slice (some ⟨w.heap.size,0,none⟩) 0 (Maps.size o+Maps.size s)) []):=Ac (X:=fun _=>False) c7.o (Ab.grown (Ab.refl _ w1) V (fun k c=>by cases c)) (fun _ _ q=>q);have a5:dN (mF 197 oG m.c.cU [] (Maps.has o)):=mF.start h1 (fun p S=>by obtain ⟨q1,q2⟩:=e5.o p S;exact pC (q1.ok U) (q2.ok U))
 clear b7 V d6 i6 b9 c7 O1 g1;go_loopw [3] (fun v wr=>∃(left:Lit→Bool) (N:Nat) (D:List (Tg×Tg)) (d:List ByteArray) (f:Option Addr) (j:Nat),v=.slice f d.length j∧d.length+N≤Maps.size o∧dN (d=D.map (jP P))∧dN (d=[]→∃g,f=some ⟨g,0,none⟩)∧dN (wr.ranges Tryz.prog 197 unitElem pm Q n1 o left N)∧dN (mF 197 oG m.c.cU D left)∧dN (Au w.heap.size wr (.slice f d.length j) d)∧dN (∀k,(Value.slice f d.length j).ownBlock=some k→k≠Q)∧dN (Ab (fun _=>False) w wr)) (fun _ wr=>wr.rangeLeft pm Q)
 case atStart=>exact ⟨Maps.has o,Maps.size o,[],[],_,_,rfl,by simp,rfl,fun _=>⟨_,rfl⟩,A,a5,r,f6,e3⟩
 case round=>
  clear A a5 r f6 e3;obtain ⟨left,N,D,d,f,j,rfl,e9,a2,a3,A,u,r,F,M⟩:=hrel;go_wp2_with ((at_next;refine wpList_next_ranges _ rfl _ rfl 197 kS unitElem (fun v:Value=>v) (fun _:Unit=>Value.agg #[]) (fun d9 _ _=>⟨d9,rfl⟩) (fun v y hv=>⟨(),(unitElem_inv hv).1⟩) pm Q n1 o left N rfl A.o ?_ ?_));rotate_left
  ·intro x kl _ _ E b0 b1 Z _ _ b6 h5 Y a1 d2;obtain ⟨p,b5,b4⟩:=u.o.rest _ Z;obtain rfl:=kS.inj b1 b4;have c3:=Aa (u.o.next kS oX b5 b4 Z);have a6:=Aa b6;have c5:dN (Ab (fun _=>False) w E):=Ab.grown M.o Y (fun k c=>by cases c;exact .inr a7.o);have a8:dN (Au w.heap.size E (.slice f d.length j) d):=Ac (X:=fun k=>k=Q) r.o (Ab.grown (Ab.refl _ wr) Y (fun k c=>by cases c;exact .inl rfl)) (fun k c q=>F.o k c q);obtain ⟨T1,T2⟩:=e5.o p b5;simp only [oG] at d2;clear b1 Z b6 Y u r;go_wp2_with fail;have C:=Ak.new E #[.int .i64 p.1.kind,.int .i64 p.1.aV,.int .i64 p.1.aX,.int .i64 p.2.kind,.int .i64 p.2.aV,.int .i64 p.2.aX] 197;rw [a1] at C;have i:Ab (fun _=>False) w (E.alloc (.cells #[.int .i64 p.1.kind,.int .i64 p.1.aV,.int .i64 p.1.aX,.int .i64 p.2.kind,.int .i64 p.2.aV,.int .i64 p.2.aX] 197)):=c5.o.alloc _;have G:=a8.o.alloc (.cells #[.int .i64 p.1.kind,.int .i64 p.1.aV,.int .i64 p.1.aX,.int .i64 p.2.kind,.int .i64 p.2.aV,.int .i64 p.2.aX] 197);have G4:=a6.o.alloc (.cells #[.int .i64 p.1.kind,.int .i64 p.1.aV,.int .i64 p.1.aX,.int .i64 p.2.kind,.int .i64 p.2.aV,.int .i64 p.2.aX] 197);have d7:(E.alloc (.cells #[.int .i64 p.1.kind,.int .i64 p.1.aV,.int .i64 p.1.aX,.int .i64 p.2.kind,.int .i64 p.2.aV,.int .i64 p.2.aX] 197)).heap.size=wr.heap.size+1:=by simp [a1]
   have d5:=a6.o.lt;have b8:=fun k c=>(a8.o.lt k c).2
   rw [a1] at d5;generalize E.alloc _=W4 at*;have d3:dN ((⟨(GQ P p.1).toArray⟩:ByteArray)++⟨#[62]⟩++⟨(GQ P p.2).toArray⟩=jP P p):=FN (by simp);have a9:∀W,Ab (fun _=>False) W4 W→ItOk W:=fun W H n W' d4 d0=>c2.o n W' d4 (i.trans (H.trans d0))
   have R:=i.block J lm (fun q=>q);refine DL (oD _ J wr.heap.size w.heap.size gf P.length cf mn pn cn _ _ _ _ _ _ d f j ⟨(GQ P p.1).toArray⟩ ⟨(GQ P p.2).toArray⟩ W4 ⟨(rM R).trans r0,(rM R).trans r1,(rM R).trans K,(rM R).trans r3,C.cell 0,C.cell 1,C.cell 2,C.cell 3,C.cell 4,C.cell 5⟩ (by have:=i.size;omega) (by omega) i.size G (by omega) (fun k c=>⟨by have:=(G.lt k c).1;omega,by have:=b8 k c;omega⟩) (fun W H=>SY B _ mn pn cn P p.1 W (S.i9 (i.trans H)) U hn T1 (a9 W H) h0) (fun W H=>SY B _ mn pn cn P p.2 W (S.i9 (i.trans H)) U hn T2 (a9 W H) h0) (XG U hn T1) (XG U hn T2) ?_);intro v' w9 i9 j0 j1 j2 j3 j4 j5 j6 j7 j8 j9 k0 k1 k2 k3 k4 k5 k6 k7 I b3 a0;rw [d3.o] at I;have c8:=Aa I;have c6:dN (Ab (fun _=>False) w w9):=i.over a0 (fun k q=>(G.lt k q).1);have a4:dN (w9.ranges Tryz.prog 197 unitElem pm Q n1 o (fun z=>left z && !z.sameKey kl) b0):=jM G4 a0 (fun q=>by have:=(G.lt _ q).1;have:=c0.lt;omega) (fun q=>F.o Q q rfl);have c4:dN (∀k,v'.ownBlock=some k→k≠Q):=fun k c=>(b3 k c).elim (F.o k) (fun q=>by omega)
   have h4:(d++[jP P p]).length=d.length+1:=by simp
   have c9:dN (d++[jP P p]=(D++[p]).map (jP P)):=by show _=_;rw [a2.o];simp
   obtain ⟨e0,i8,e1,rfl⟩:=Ad I;have d8:=Aq I;subst d8;clear I b3 a0 G4 G i a9 C d7 R b8;dsimp only;go_wp2_with fail;go_roundw
   case rel=>exact ⟨_,b0,D++[p],_,e0,e1,rfl,by omega,c9,(fun q=>absurd q (by simp)),a4,c3,c8,c4,c6⟩
   case measure=> rw [a4.o.left_eq,A.o.left_eq];omega
  intro d1 b2;have g3:=Aa (u.o.done b2);have g5:=Aa u.o.nodup;have i7:wr.cell? ⟨J,9,none⟩=some (.map (some T)):=(rM (M.o.block J lm (fun q=>q))).trans r9;have g0:=fun k c=>(r.o.lt k c).2
  have g9:=Aa M.o.size;clear u A F d1 b2 a7 lr r8;go_wp2_with (at_range;refine wpList_range_own _ rfl _ 117 rfl 200 231 kR Tryz.underlying117 unitElem T n2 s rfl (iX c1 M.o) ?_;intro w5 b7 V d6);try go_frame
  have e4:dN (Ab (fun _=>False) w w5):=Ab.grown M.o V (fun k c=>by cases c);have A:=Aa b7;have F:dN (∀k,(Value.slice f d.length j).ownBlock=some k→k≠wr.heap.size):=fun k c=>by have:=g0 k c;omega
  have e6:dN (Au w.heap.size w5 (.slice f d.length j) d):=Ac (X:=fun _=>False) r.o (Ab.grown (Ab.refl _ wr) V (fun k c=>by cases c)) (fun _ _ q=>q);have a5:dN (mF 200 nO m.c.bN [] (Maps.has s)):=mF.start h2 (fun p S=>by obtain ⟨q1,q2⟩:=e2.o p S;exact pB (by omega) (by have:=U.bA;omega))
  have h7:d.length≤Maps.size o:=by omega
  have e8:dN (d=D.map (jP P)++([]:List (Nat×Nat)).map (kQ P)):=by show _=_;rw [a2.o];simp
  clear b7 V d6 i7 r M a2 g0 e9;have a7:=g9;generalize wr.heap.size=K at*;go_loopw [3] (fun v wr=>∃(left:Lit→Bool) (N:Nat) (L:List (Nat×Nat)) (d:List ByteArray) (f:Option Addr) (j:Nat),v=.slice f d.length j∧d.length+N≤Maps.size o+Maps.size s∧dN (d=D.map (jP P)++L.map (kQ P))∧dN (d=[]→∃g,f=some ⟨g,0,none⟩)∧dN (wr.ranges Tryz.prog 200 unitElem T K n2 s left N)∧dN (mF 200 nO m.c.bN L left)∧dN (Au w.heap.size wr (.slice f d.length j) d)∧dN (∀k,(Value.slice f d.length j).ownBlock=some k→k≠K)∧dN (Ab (fun _=>False) w wr)) (fun _ wr=>wr.rangeLeft T K)
  case atStart=>exact ⟨Maps.has s,Maps.size s,[],d,f,j,rfl,by omega,e8,a3,A,a5,e6,F,e4⟩
  case round=>
   clear A a5 e6 F e4 e8 h7 a3;obtain ⟨left,N,L,d,f,j,rfl,e9,a2,a3,A,u,r,F,M⟩:=hrel;go_wp2_with ((at_next;refine wpList_next_ranges _ rfl _ rfl 200 kR unitElem (fun v:Value=>v) (fun _:Unit=>Value.agg #[]) (fun d9 _ _=>⟨d9,rfl⟩) (fun v y hv=>⟨(),(unitElem_inv hv).1⟩) T K n2 s left N rfl A.o ?_ ?_));rotate_left
   ·intro x kl _ _ E b0 b1 Z _ _ b6 h5 Y a1 d2;obtain ⟨p,b5,b4⟩:=u.o.rest _ Z;obtain rfl:=kR.inj b1 b4;have c3:=Aa (u.o.next kR oQ b5 b4 Z);have a6:=Aa b6;have c5:dN (Ab (fun _=>False) w E):=Ab.grown M.o Y (fun k c=>by cases c;exact .inr a7.o);have a8:dN (Au w.heap.size E (.slice f d.length j) d):=Ac (X:=fun k=>k=K) r.o (Ab.grown (Ab.refl _ wr) Y (fun k c=>by cases c;exact .inl rfl)) (fun k c q=>F.o k c q);obtain ⟨T1,T2⟩:=e2.o p b5;simp only [nO] at d2;clear b1 Z b6 Y u r;go_wp2_with fail;have C:=Ak.new E #[.int .i64 p.1,.int .i64 p.2] 200;rw [a1] at C;have i:Ab (fun _=>False) w (E.alloc (.cells #[.int .i64 p.1,.int .i64 p.2] 200)):=c5.o.alloc _;have G:=a8.o.alloc (.cells #[.int .i64 p.1,.int .i64 p.2] 200);have G4:=a6.o.alloc (.cells #[.int .i64 p.1,.int .i64 p.2] 200);have d7:(E.alloc (.cells #[.int .i64 p.1,.int .i64 p.2] 200)).heap.size=wr.heap.size+1:=by simp [a1]
    have d5:=a6.o.lt;have b8:=fun k c=>(a8.o.lt k c).2
    rw [a1] at d5;generalize E.alloc _=W4 at*;have d3:dN ((⟨#[33]⟩:ByteArray)++JR p.1++⟨#[62]⟩++(Ap P p.2).name=kQ P p):=FN (by simp [JR]);have a9:∀W,Ab (fun _=>False) W4 W→ItOk W:=fun W H n W' d4 d0=>c2.o n W' d4 (i.trans (H.trans d0))
    have R:=i.block J lm (fun q=>q);obtain ⟨vv,sv,hc,_,_⟩:=(S.i9 i).get T2;rw [←RC T2] at hc;have f0:=hc 0 (by decide);simp only [MR,dJ,Nat.add_zero] at f0;have f1:(JR p.1).size≤20000:=by have:=Hw p.1;simp only [JR,ByteArray.size,List.size_toArray];omega
    have f2:(Ap P p.2).name.size≤20000:=by have:=hn.name p.2;omega
    refine DL (oE _ J wr.heap.size w.heap.size gf P.length cf p.1 p.2 d f j (JR p.1) (Ap P p.2).name W4 ⟨(rM R).trans r0,C.cell 0,C.cell 1,f0⟩ (by have:=i.size;omega) (by omega) (by have:=i.size;omega) i.size T2 G (by omega) (fun k c=>⟨by have:=(G.lt k c).1;omega,by have:=b8 k c;omega,by have:=(G.lt k c).1;omega⟩) (fun W H=>c2.o p.1 W T1 (i.trans H)) f1 f2 ?_);intro v' w9 i9 j0 j1 j2 j3 j4 j5 j6 j7 j8 j9 k0 k1 k2 k3 k4 k5 k6 k7 I b3 a0;rw [d3.o] at I;have c8:=Aa I;have c6:dN (Ab (fun _=>False) w w9):=i.over a0 (fun k q=>(G.lt k q).1);have a4:dN (w9.ranges Tryz.prog 200 unitElem T K n2 s (fun z=>left z && !z.sameKey kl) b0):=jM G4 a0 (fun q=>by have:=(G.lt _ q).1;have:=c1.lt;omega) (fun q=>F.o K q rfl);have c4:dN (∀k,v'.ownBlock=some k→k≠K):=fun k c=>(b3 k c).elim (F.o k) (fun q=>by omega)
    have h4:(d++[kQ P p]).length=d.length+1:=by simp
    have c9:dN (d++[kQ P p]=D.map (jP P)++(L++[p]).map (kQ P)):=by show _=_;rw [a2.o];simp
    obtain ⟨e0,i8,e1,rfl⟩:=Ad I;have d8:=Aq I;subst d8;clear I b3 a0 G4 G i a9 C d7 R b8 hc f0 f1 f2;dsimp only;go_wp2_with fail;go_roundw
    case rel=>exact ⟨_,b0,L++[p],_,e0,e1,rfl,by omega,c9,(fun q=>absurd q (by simp)),a4,c3,c8,c4,c6⟩
    case measure=> rw [a4.o.left_eq,A.o.left_eq];omega
   intro d1 b2;have g4:=Aa (u.o.done b2);have g6:=Aa u.o.nodup;have h6:∃g,f=some ⟨g,0,none⟩:=by
    cases hq:d with
    | nil=>exact a3.o hq
    | cons a t=>exact AA r.o (by rw [hq];simp)
   obtain ⟨g7,rfl⟩:=h6;have e7:=Aa (g8.o w.heap.size g7 j d wr r.o (by omega));have g2:dN (∀k,k=g7→w.heap.size≤k):=fun k c=>by subst c;exact (r.o.lt _ rfl).1
   clear u A F d1 b2 a7 r a3;go_wp2_with fail;refine e7.o.mono ?_;rintro e w7 ⟨rfl,l7,s1,s2,s3,s4⟩;rw [a2.o] at s2;have S1:=Aa s1;have S2:=Aa s2;have S3:=Aa s3;have S4:=Aa (M.o.over s4 g2.o);clear s1 s2 s3 s4 e7;go_wp2_with fail;go_ret;exact ⟨_,l7,D,L,rfl,S1.o,S3.o,S2.o,g5.o,g6.o,g3.o,g4.o,S4.o⟩
def Ud(b:ByteArray):Prop:=∀x,x∈b.data.toList→97≤x.toNat
def aH(t:PT):Prop:=t.kind=1→Ud t.a9
def Sb(l:List PT):Prop:=∀t,t∈l→aH t
theorem KJ:Ud ByteArray.empty:=fun x a=>absurd a (by show¬x∈([]:List UInt8);simp)
theorem Sb.snoc{l t}(h:Sb l)(b:aH t):Sb (l++[t]):=by
 intro u d;rcases List.mem_append.1 d with a | a
 ·exact h u a
 ·rw [List.mem_singleton.1 a];exact b
theorem NY{s a b}(h:∀k,a≤k→k<b→97≤bt s k):Ud (s.extract a b):=by intro x d;rw [ByteArray.data_extract,Array.mem_toList_iff,Array.mem_iff_getElem] at d;obtain ⟨i,e,rfl⟩:=d;rw [Array.getElem_extract];have f:i<(s.data.extract a b).size:=e;rw [Array.size_extract] at f;have q:=h (a+i) (by omega) (by omega);unfold bt at q;rw [Array.getElem?_eq_getElem (by omega)] at q;exact q
theorem SN{s p}(h:F7 (Utf8.decode s p).1=true):∀k,p≤k→k<p+(Utf8.decode s p).2→97≤bt s k:=by
 intro k g a;rw [IW] at h a;have b:∀r:Nat,F7 r=true→97≤r∧r≤255:=fun r q=>by unfold F7 at q;simp only [Bool.or_eq_true,Bool.and_eq_true,decide_eq_true_eq] at q;omega
 split at h
 ·rename_i d;rw [if_pos d] at a;have:=b _ h;simp only at this a;have:k=p:=by omega
  subst this;omega
 ·rename_i d;rw [if_neg d] at a;split at h
  ·rename_i e;rw [if_pos e] at a;split at h
   ·rename_i f;rw [if_pos f] at a;simp only at a;have:k=p∨k=p+1:=by omega
    rcases this with rfl | rfl
    ·omega
    ·omega
   ·exact absurd (b _ h) (by simp)
  ·split at h
   ·split at h
    ·have:=b _ h;simp only at this;omega
    ·exact absurd (b _ h) (by simp)
   ·split at h
    ·split at h
     ·have:=b _ h;simp only at this;omega
     ·exact absurd (b _ h) (by simp)
    ·exact absurd (b _ h) (by simp)
structure GR(s:ByteArray)(p:Nat)(x:Sc):Prop where
 wd:Sb x.aU
 rm:x.rem=true→x.n6=0
 lt:0<x.n6→∀k,x.start≤k→k<p→97≤bt s k
theorem GR.bH{s p x}(h:GR s p x):Sb (CC s p x).aU∧(CC s p x).n6=0:=by
 unfold Proofs.YtegmjgjkcdbmkaaGreatDoor.CC;split
 ·rename_i a;exact ⟨h.wd.snoc (fun _=>NY (h.lt a)),rfl⟩
 ·exact ⟨h.wd,rfl⟩
theorem SU(r):Bc r≠1:=by
 unfold Bc;repeat' split
 all_goals decide
theorem TO{s p x}(h:GR s p x)(a:(AI s p (Utf8.decode s p).1 x).2.2=true):GR s (p+(Utf8.decode s p).2) (AI s p (Utf8.decode s p).1 x).1:=by
 unfold AI at a⊢;split at a
 ·cases a
 rename_i n;rw [if_neg n];split at a
 ·rename_i b;rw [if_pos b];have q:=h.rm b;exact ⟨h.wd,fun _=>q,fun r=>by simp only at r;omega⟩
 rename_i b;rw [if_neg b];split at a
 ·rename_i d;rw [if_pos d];split at a
  ·cases a
  rename_i m;rw [if_neg m];refine ⟨h.wd,fun q=>absurd q b,fun _ k j o=>?_⟩;rcases Nat.lt_or_ge k p with q | q
  ·simp only [BG] at j;split at j
   ·omega
   ·exact h.lt (by omega) k j q
  ·exact SN d k q o
 ·rename_i d;rw [if_neg d];obtain ⟨e,f⟩:=h.bH;unfold CR at a⊢;split at a
  ·rename_i g;rw [if_pos g];exact ⟨e,fun _=>f,fun q=>by simp only at q;omega⟩
  rename_i g;rw [if_neg g];split at a
  ·rename_i i;rw [if_pos i];exact ⟨e,fun _=>f,fun q=>by simp only at q;omega⟩
  rename_i i;rw [if_neg i];split at a
  ·cases a
  rename_i l;rw [if_neg l];exact ⟨e.snoc (fun q=>absurd q (SU _)),fun _=>f,fun q=>by simp only at q;omega⟩
theorem JH(s:ByteArray):∀(f p:Nat) (x y:Sc),s.size-p≤f→GR s p x→Aw s f p x=.inr y→∃q,s.size≤q∧GR s q y
 | 0,p,x,y,a,h,e=>by have:=Sum.inr.inj e;subst this;exact ⟨p,by omega,h⟩
 | f+1,p,x,y,a,h,e=>by
   unfold Aw at e;split at e
   ·rename_i d;split at e
    ·rename_i b;have:=Fp s p d;exact JH s f _ _ y (by omega) (TO h b) e
    ·cases e
   ·have:=Sum.inr.inj e;subst this;exact ⟨p,by omega,h⟩
theorem Qp{s y}(h:Aw s s.size 0 ⟨[],false,0,0⟩=.inr y):Sb (AH s y):=by obtain ⟨q,j,a⟩:=JH s _ _ _ _ (by omega) ⟨fun _ g=>absurd g (by simp),fun _=>rfl,fun q=>by simp only at q;omega⟩ h;have e:GR s s.size y:=⟨a.wd,a.rm,fun b k d i=>a.lt b k d (by omega)⟩;exact e.bH.1.snoc (fun f=>absurd (show (0:Nat)=1 from f) (by decide))
section
variable {toks : List PT} {Q : ByteArray → Prop} (H : ∀ t, t ∈ toks → t.kind = 1 → Q t.a9) (c : Q ByteArray.empty)
include H c
theorem Vz{p:Nat}(h:(Ag toks p).kind=1):Q (Ag toks p).a9:=by
 rcases Nat.lt_or_ge p toks.length with q | q
 ·have e:Ag toks p=toks[p]:=by unfold Ag;rw [rU q];rfl
  rw [e] at h⊢;exact H _ (rQ _) h
 ·unfold Ag;rw [List.getElem?_eq_none q];exact c
theorem Gx(x:PS):Q (Ax toks 1 x).a9:=by
 unfold Ax;split
 ·rename_i h;exact Vz H c h
 ·exact c
theorem Rx:∀(f:Nat) (x:PS) (a:List PT),(∀t,t∈a→Q t.a9)→∀t,t∈(CJ toks f x a).1→Q t.a9
 | 0,_,_,h=>h
 | f+1,x,a,h=>by
   rw [CJ];split
   ·rename_i b;refine Rx f _ _ (fun t d=>?_);rcases List.mem_append.1 d with q | q
    ·exact h t q
    ·rw [List.mem_singleton.1 q];exact Vz H c b
   ·exact h
theorem Ta(n:Nat)(x:PS):∀t,t∈(A6 toks n x).1→Q t.a9:=by unfold A6;exact Rx H c _ _ _ (fun t a=>absurd a List.not_mem_nil)
theorem Tl(n:Nat)(x:PS):Q (AF toks n x).1.tg.a9:=by
 unfold AF;split
 ·exact Gx H c _
 ·split
  ·exact c
  ·split
   ·exact Gx H c _
   ·exact Gx H c _
omit H c in
theorem UK:∀(a b:List TS),dL (a++b)=dL a++dL b
 | [],b=>by simp [dL]
 | t::a,b=>by simp [dL,UK a b]
theorem Kl(n:Nat):∀f:Nat,(∀(x:PS) (d:List TS),(∀s,s∈dL d→Q s)→∀s,s∈dL (AB toks n f x d).1→Q s)∧(∀(x:PS),∀s,s∈dS (AV toks n f x).1→Q s)
 | 0=>⟨fun x d h=>by rw [AB];exact h,fun x s a=>by rw [AV] at a;simp only [dS,dB,Dh,if_true,List.append_nil,List.mem_singleton] at a;subst a;exact c⟩
 | f+1=>by
   obtain ⟨b,e⟩:=Kl n f;have b:=fun x=>b x [] (fun s a=>absurd a (by simp [dL]))
   refine ⟨fun x d h=>?_,fun x s a=>?_⟩
   ·rw [AB];split
    ·refine (Kl n f).1 _ _ (fun s a=>?_);rw [UK] at a;rcases List.mem_append.1 a with q | q
     ·exact h s q
     ·simp only [dL,List.append_nil] at q;exact e _ s q
    ·exact h
   ·rw [AV] at a;split at a
    ·simp only at a;split at a
     ·simp only [dS,dB,Dh,List.append_nil,List.mem_append] at a;rcases a with q | q | q
      ·exact absurd q (by simp)
      ·exact b _ s q
      ·exact b _ s q
     ·simp only [dS,dB,Dh,List.append_nil,List.mem_append] at a;rcases a with q | q
      ·exact absurd q (by simp)
      ·exact b _ s q
    ·split at a
     ·simp only [dS,dB,Dh,List.append_nil,List.mem_append] at a;rcases a with q | q
      ·exact absurd q (by simp)
      ·exact b _ s q
     ·simp only [dS,dB,List.append_nil] at a;split at a
      ·rw [List.mem_singleton] at a;subst a;exact Tl H c n x
      ·exact absurd a List.not_mem_nil
def Uo(Q:ByteArray→Prop)(t:TF):Prop:=Q t.name.a9∧(∀p,p∈t.i8→Q p.a9)∧∀s,s∈dL t.v8→Q s
theorem U3(n:Nat)(x:PS):Uo Q (Hh toks n x).1:=by unfold Hh;exact ⟨Gx H c _,Ta H c n _,(Kl H c n _).1 _ [] (fun s a=>absurd a (by simp [dL]))⟩
theorem Rj(n:Nat):∀(f:Nat) (x:PS) (a:List TF),(∀t,t∈a→Uo Q t)→∀t,t∈(CZ toks n f x a).1→Uo Q t
 | 0,_,_,h=>by rw [CZ];exact h
 | f+1,x,a,h=>by
   rw [CZ];split
   ·refine Rj n f _ _ (fun t b=>?_);rcases List.mem_append.1 b with q | q
    ·exact h t q
    ·rw [List.mem_singleton.1 q];exact U3 H c n x
   ·exact h
theorem Vv(n:Nat)(x:PS):∀t,t∈(CM toks n x).1→Uo Q t:=by unfold CM;refine Rj H c n n _ _ (fun t a=>?_);rw [List.mem_singleton.1 a];exact U3 H c n x
end
mutual
def ZN:TS→Prop
 | .mk s bl=>s.field≤3∧aF bl
def aF:List (Nat×List TS)→Prop
 | []=>True
 | (_,ts)::r=>R3 ts∧aF r
def R3:List TS→Prop
 | []=>True
 | t::ts=>ZN t∧R3 ts
end
theorem WT(t:PT):GE t≤3:=by
 unfold GE;repeat' split
 all_goals omega
theorem XI(l:List PT)(n:Nat)(x:PS):(Bw l n x).1.field≤3:=by
 unfold Bw;split
 ·exact rR _
 ·split
  ·unfold DM;simp only;split
   ·exact WT _
   ·exact rR _
  ·split
   ·exact rR _
   ·split
    ·exact rR _
    ·split
     ·exact rR _
     ·split
      ·exact rR _
      ·exact rR _
theorem Tj(l:List PT)(n:Nat)(x:PS):(AF l n x).1.field≤3:=by
 unfold AF;split
 ·exact rR _
 ·split
  ·exact rR _
  ·split
   ·exact rR _
   ·exact XI _ _ _
theorem QN:∀(a b:List TS),R3 a→R3 b→R3 (a++b)
 | [],_,_,h=>h
 | _::a,b,h,k=>⟨h.1,QN a b h.2 k⟩
theorem Nn(l:List PT)(n:Nat):∀f:Nat,(∀(x:PS) (b:List TS),R3 b→R3 (AB l n f x b).1)∧(∀(x:PS),ZN (AV l n f x).1)
 | 0=>⟨fun x b h=>by rw [AB];exact h,fun x=>by rw [AV];exact ⟨rR _,trivial⟩⟩
 | f+1=>by
   obtain ⟨a,c⟩:=Nn l n f;refine ⟨fun x b h=>?_,fun x=>?_⟩
   ·rw [AB];split
    ·exact a _ _ (QN _ _ h ⟨c _,trivial⟩)
    ·exact h
   ·rw [AV];split
    ·simp only;split
     ·exact ⟨rR _,a _ [] trivial,a _ [] trivial,trivial⟩
     ·exact ⟨rR _,a _ [] trivial,trivial⟩
    ·split
     ·exact ⟨rR _,a _ [] trivial,trivial⟩
     ·exact ⟨Tj _ _ _,trivial⟩
theorem U0(l:List PT)(n:Nat)(x:PS):R3 (Hh l n x).1.v8:=by unfold Hh;exact (Nn l n _).1 _ [] trivial
theorem Ri(l:List PT)(n:Nat):∀(f:Nat) (x:PS) (a:List TF),(∀t,t∈a→R3 t.v8)→∀t,t∈(CZ l n f x a).1→R3 t.v8
 | 0,_,_,h=>by rw [CZ];exact h
 | f+1,x,a,h=>by
   rw [CZ];split
   ·refine Ri l n f _ _ (fun t b=>?_);rcases List.mem_append.1 b with q | q
    ·exact h t q
    ·rw [List.mem_singleton.1 q];exact U0 l n x
   ·exact h
theorem Vu(l:List PT)(n:Nat)(x:PS):∀t,t∈(CM l n x).1→R3 t.v8:=by unfold CM;refine Ri l n n _ _ (fun t a=>?_);rw [List.mem_singleton.1 a];exact U0 l n x
theorem MW:∀(a:List TS),CQ a=(a.map Ez).sum
 | []=>rfl
 | t::a=>by simp only [CQ,List.map_cons,List.sum_cons,MW a]
theorem BS.sz{l:List PT}:∀{d i j:Nat} {t:TS},BS l d i j t→Ez t+i≤j
 | 0,_,_,_,h=>h.elim
 | d+1,i,j,.mk s v,h=>by
   obtain ⟨w,x,u⟩:=h;have C:∀a b n,CH (BS l d) a b n→CQ n+a≤b:=fun a b n r=>by rw [MW];exact Hu (fun _ _ _ q=>q.sz) r
   rcases u with ⟨rfl,_⟩ | ⟨k,n,m,rfl,_,c,e,f⟩ | ⟨k,n,m,y,A,z,rfl,_,c,e,f,g,h⟩
   ·simp only [Ez,LG];omega
   ·have:=C _ _ _ e;simp only [Ez,LG];omega
   ·have:=C _ _ _ e;have:=C _ _ _ g;simp only [Ez,LG];omega
theorem Jn.sz{l:List PT}{d i j:Nat}{t:TF}(h:Jn l d i j t):CQ t.v8+i≤j:=by
 obtain ⟨r,v,c,m,e,f,g,a,k,b,n⟩:=h.w;have s:=a.le;have u:CQ t.v8+(c+1)≤m:=by rw [MW];exact Hu (fun _ _ _ q=>q.sz) b
 omega
mutual
def ZR:TS→Prop
 | .mk s bl=>(s.kind≠7→s.kind≠8→s.args=[])∧s.args.length≤4000∧s.field≤3∧aI bl
def aI:List (Nat×List TS)→Prop
 | []=>True
 | (_,ts)::r=>Yr ts∧aI r
def Yr:List TS→Prop
 | []=>True
 | t::ts=>ZR t∧Yr ts
end
theorem QG:∀{a:List TS},(∀t,t∈a→ZN t→ZR t)→R3 a→Yr a
 | [],_,_=>trivial
 | t::_,h,k=>⟨h t (List.mem_cons_self ..) k.1,QG (fun u b=>h u (rT _ b)) k.2⟩
theorem BS.wf{l:List PT}:∀{d i j:Nat} {t:TS},BS l d i j t→ZN t→ZR t
 | 0,_,_,_,h,_=>h.elim
 | d+1,i,j,.mk s D,h,n=>by
   obtain ⟨E,F,w⟩:=h;have C:∀a b u,CH (BS l d) a b u→R3 u→Yr u:=fun a b u r=>QG (fun t A n=>by obtain ⟨x,y,q⟩:=r.each t A;exact q.wf n)
   rcases w with ⟨rfl,_,B,z,_⟩ | ⟨k,u,m,rfl,v,c,e,f⟩ | ⟨k,u,m,G,I,H,rfl,v,c,e,f,g,h⟩
   ·exact ⟨z,B.al,n.1,trivial⟩
   ·rcases v with rfl | rfl
    ·exact ⟨fun _ _=>rfl,rR _,n.1,C _ _ _ e n.2.1,trivial⟩
    ·exact ⟨fun _ _=>rfl,rR _,n.1,C _ _ _ e n.2.1,trivial⟩
   ·subst v;exact ⟨fun _ _=>rfl,rR _,n.1,C _ _ _ e n.2.1,C _ _ _ g n.2.2.1,trivial⟩
mutual
theorem Zv(k:Nat):∀t:TS,nK k t≤Ez t
 | .mk s bl=>by have:=Yc k bl;simp only [nK,Ez];split<;>omega
theorem Yc(k:Nat):∀bl:List (Nat×List TS),nB k bl≤LG bl
 | []=>rN _
 | (_,ts)::r=>by have:=JA k ts;have:=Yc k r;simp only [nB,LG];omega
theorem JA(k:Nat):∀ts:List TS,nL k ts≤CQ ts
 | []=>rN _
 | t::ts=>by have:=Zv k t;have:=JA k ts;simp only [nL,CQ];omega
end
section
variable {N : Nat} {l : List PT} (H : TksOk N l) (o : N ≤ 4000) (p : l.length ≤ 4001)
include H o p
theorem Vw(c:List TF)(y:Nat)(x:PS)(e:CM l l.length ⟨0,false,0⟩=(c,y,x))(w:x.m8=false):
 (c.map fun t=>CQ t.v8).sum≤4000∧∀t,t∈c→Yr t.v8:=by
 have F:=H.pos;have k:=Mf H o p (by rw [e];exact w);have h:=Vu l l.length ⟨0,false,0⟩;rw [e] at k h;obtain ⟨d,_,_⟩:=k;simp only at d;refine ⟨?_,fun t n=>?_⟩
 ·have:=Hu (f:=fun t:TF=>CQ t.v8) (fun _ _ _ q=>q.sz) d;omega
 ·obtain ⟨i,j,g⟩:=d.each t n;obtain ⟨I,J,G,m,z,A,B,C,D,r,E⟩:=g.w;exact QG (fun u v s=>by obtain ⟨a,b,q⟩:=r.each u v;exact q.wf s) (h t n)
end
structure Sa(V F L:Nat)(par:List Nat)(s:AY):Prop where
 kind:s.kind≤12
 tg:s.kind≠0→s.kind≠10→s.kind≠11→s.kind≠12→s.aQ<V
 sr:s.kind=2∨s.kind=3∨s.kind=5∨s.kind=6∨s.kind=8∨s.kind=9∨s.kind=10→s.r9<V
 func:s.kind=4∨s.kind=7→s.r9<F
 many:s.kind=7→par[s.r9]?.getD 0=s.args.length
 args:∀a,a∈s.args→a<V
 bA:s.args.length≤4000
 field:s.field≤3
 m9:s.m9≤4000
 next:s.next≤L
 taken:s.taken≤L
 t5:s.aQ≤5000
 s5:s.r9≤5000
theorem OZ(l:List ByteArray)(s:ByteArray):vx l s≤l.length:=by have:=(Db l s 0).2.2;unfold vx;omega
theorem TD{fn:List ByteArray}{par:List Nat}{s:VS}{b:Bd}{a V L:Nat}(r:s.kind≤10)(h:ZP fn par s b.d9)(m:s.kind≠7→s.kind≠8→s.args=[])(n:s.args.length≤4000)(o:s.field≤3)(c:b.d9.length≤V)(p:V≤12)(hF:fn.length≤12)(i:a≤L)(k:s.kind=1→b.pl+1≤4000)(j:s.kind=8→b.ca+1≤4000):Sa V fn.length L par {Az fn s b with next:=a}:=by
 have u:=OZ b.d9 s.tg.a9;have v:=OZ b.d9 s.sr.a9;have w:=OZ fn s.sr.a9;refine ⟨by simp only [Az];omega,fun f g _ _=>?_,fun q=>?_,fun q=>?_,fun q=>?_,fun x d=>?_,by simp only [Az,rX];exact n,o,?_,i,rR _,?_,?_⟩
 ·simp only [Az] at f g⊢;rw [if_neg f];have:=(O8 (h.tg f g)).1;omega
 ·simp only [Az] at q⊢;rw [if_neg (by omega)];have:=(O8 (h.sr q)).1;omega
 ·simp only [Az] at q⊢;rw [if_pos q];exact (O8 (h.func q)).1
 ·simp only [Az,rX] at q⊢;rw [if_pos (.inr q)];exact h.many q
 ·simp only [Az] at d;by_cases q:s.kind=7∨s.kind=8
  ·obtain ⟨t,l,rfl⟩:=List.mem_map.1 d;have:=(O8 (h.args q t l)).1;omega
  ·rw [m (fun e=>q (.inl e)) (fun e=>q (.inr e))] at d;simp at d
 ·simp only [Az];split
  ·exact k (by assumption)
  ·split
   ·exact j (by assumption)
   ·exact rR _
 ·simp only [Az];split<;>omega
 ·simp only [Az];split<;>omega
theorem RK{fn:List ByteArray}{par:List Nat}{s:VS}{b:Bd}{a V L:Nat}(l:s.kind=11∨s.kind=12)(j:s.kind≠7→s.kind≠8→s.args=[])(k:s.field≤3)(c:b.d9.length≤12)(g:a≤L):Sa V fn.length L par {Az fn s b with next:=a}:=by
 have o:=OZ b.d9 s.tg.a9;have p:=OZ b.d9 s.sr.a9;have d:({Az fn s b with next:=a}:AY).kind=s.kind:=rfl;have e:({Az fn s b with next:=a}:AY).args=[]:=by simp only [Az];rw [j (by omega) (by omega)];rfl
 refine ⟨by rw [d];omega,fun m n h i=>by rw [d] at h i;omega,fun q=>by rw [d] at q;omega,fun q=>by rw [d] at q;omega,fun q=>by rw [d] at q;omega,fun x f=>by rw [e] at f;simp at f,by rw [e];simp,k,?_,g,rR _,?_,?_⟩
 ·simp only [Az];rw [if_neg (by omega),if_neg (by omega)];exact rR _
 ·simp only [Az];rw [if_neg (by omega)];omega
 ·simp only [Az];rw [if_neg (by omega)];omega
theorem KN{l:List AY}{i:Nat}{f:AY→AY}{s:AY}(h:s∈l.modify i f):s∈l∨∃u,u∈l∧s=f u:=by
 obtain ⟨j,a,rfl⟩:=List.mem_iff_getElem.1 h;rw [List.getElem_modify];split
 ·exact .inr ⟨_,rQ _,rfl⟩
 ·exact .inl (rQ _)
section
variable {fn : List ByteArray} {par : List Nat} {V L : Nat} (c : V ≤ 12) (hF : fn.length ≤ 12)
theorem Qv{b:Bd}{i n:Nat}(a:n≤L)(h:∀s,s∈b.b9→Sa V fn.length L par s):∀s,s∈(b.tk i n).b9→Sa V fn.length L par s:=by
 intro s d;rcases KN d with q | ⟨u,q,rfl⟩
 ·exact h s q
 ·have k:=h u q;exact ⟨k.kind,k.tg,k.sr,k.func,k.many,k.args,k.bA,k.field,k.m9,k.next,a,k.t5,k.s5⟩
theorem YU{b:Bd}{i n:Nat}(a:n≤L)(h:∀s,s∈b.b9→Sa V fn.length L par s):∀s,s∈(b.nx i n).b9→Sa V fn.length L par s:=by
 intro s d;rcases KN d with q | ⟨u,q,rfl⟩
 ·exact h s q
 ·have k:=h u q;exact ⟨k.kind,k.tg,k.sr,k.func,k.many,k.args,k.bA,k.field,k.m9,a,k.taken,k.t5,k.s5⟩
theorem VZ{b:Bd}{s:VS}{a:Nat}(h:∀s,s∈b.b9→Sa V fn.length L par s)(k:Sa V fn.length L par {Az fn s b with next:=a}):∀u,u∈(Am fn s a b).b9→Sa V fn.length L par u:=by
 intro u d;rw [Bi] at d;rcases List.mem_append.1 d with q | q
 ·exact h u q
 ·rw [List.mem_singleton.1 q];exact k
theorem Il{ts:List TS}{a n:Nat}{b:Bd}(d:a≤n)(e:b.b9.length≤n):AJ ts a b≤n:=by unfold AJ;split<;>omega
include c hF
mutual
theorem NR:∀(t:TS) (a:Nat) (b:Bd),Yn fn par t b.d9→ZR t→(b.d9++dS t).length≤V→a≤L→b.b9.length+Ez t≤L→b.pl+nK 1 t≤4000→b.ca+nK 8 t≤4000→(∀s,s∈b.b9→Sa V fn.length L par s)→∀s,s∈(BP fn t a b).b9→Sa V fn.length L par s
 | .mk s [],a,b,ho,hw,hn,ha,hl,hp,hc,h=>by
   have hn':b.d9.length≤V:=by rw [rV] at hn;omega
   simp only [nK,nB] at hp hc;rw [BP];exact VZ h (TD ho.1 ho.2 hw.1 hw.2.1 hw.2.2.1 hn' c hF ha (fun q=>by rw [if_pos q] at hp;omega) (fun q=>by rw [if_pos q] at hc;omega))
 | .mk s [(_,ts)],a,b,ho,hw,hn,ha,hl,hp,hc,h=>by
   have hn':b.d9.length≤V:=by rw [rV] at hn;omega
   have hab:=Ef fn s a b ho.1;have hlen:(Am fn s a b).b9.length=b.b9.length+1:=by rw [Bi];simp
   have hA:=VZ h (RK (V:=V) (L:=L) (par:=par) (a:=a) ho.1 hw.1 hw.2.2.1 (by omega) ha);simp only [nK,nB] at hp hc;simp only [Ez,LG] at hl;have hn2:(((Am fn s a b).d9)++dL ts).length≤V:=by rw [hab.1];have hk:=ho.1;simp only [dS,dB,List.append_nil,rV] at hn;rw [if_neg (by omega)] at hn;simpa using hn
   have hko:IM fn par ts (Am fn s a b).d9:=by rw [hab.1];exact ho.2
   have I:=fun a' ha'=>FZ ts a' (Am fn s a b) hko hw.2.2.2.1 hn2 ha' (by omega) (by rw [hab.2.1];omega) (by rw [hab.2.2];omega) hA
   rw [BP];split
   ·exact Qv (Il ha (by omega)) (I a ha)
   ·split
    ·exact Qv (Il (by omega) (by omega)) (I _ (by omega))
    ·exact hA
 | .mk s [(_,ts),(_,ts2)],a,b,ho,hw,hn,ha,hl,hp,hc,h=>by
   have hn':b.d9.length≤V:=by rw [rV] at hn;omega
   have hab:=Ef fn s a b (.inl ho.1);have hlen:(Am fn s a b).b9.length=b.b9.length+1:=by rw [Bi];simp
   have hA:=VZ h (RK (V:=V) (L:=L) (par:=par) (a:=a) (.inl ho.1) hw.1 hw.2.2.1 (by omega) ha);simp only [nK,nB] at hp hc;simp only [Ez,LG] at hl;simp only [dS,dB,List.append_nil,rV] at hn;rw [if_neg (by have:=ho.1;omega)] at hn;simp only [List.length_nil] at hn;have hko:IM fn par ts (Am fn s a b).d9:=by rw [hab.1];exact ho.2.1
   have L1:=DI ts a (Am fn s a b) hko;have I:=FZ ts a (Am fn s a b) hko hw.2.2.2.1 (by rw [hab.1,rV];omega) ha (by omega) (by rw [hab.2.1];omega) (by rw [hab.2.2];omega) hA;have I2:=Qv (i:=b.b9.length) (Il (ts:=ts) (b:=Am fn s a b) ha (by omega)) I;rw [BP,if_pos ho.1];simp only;have e1:((AP fn ts a (Am fn s a b)).tk b.b9.length (AJ ts a (Am fn s a b))).d9=b.d9++dL ts:=by show (AP fn ts a (Am fn s a b)).d9=_;rw [L1.d9,hab.1]
   have e2:((AP fn ts a (Am fn s a b)).tk b.b9.length (AJ ts a (Am fn s a b))).b9.length=b.b9.length+1+CQ ts:=by rw [Lf,L1.len,hlen]
   have e3:((AP fn ts a (Am fn s a b)).tk b.b9.length (AJ ts a (Am fn s a b))).pl=b.pl+nL 1 ts:=by show (AP fn ts a (Am fn s a b)).pl=_;rw [L1.pl,hab.2.1]
   have e4:((AP fn ts a (Am fn s a b)).tk b.b9.length (AJ ts a (Am fn s a b))).ca=b.ca+nL 8 ts:=by show (AP fn ts a (Am fn s a b)).ca=_;rw [L1.ca,hab.2.2]
   refine YU (Il ha (by omega)) (FZ ts2 a _ (by rw [e1];exact ho.2.2) hw.2.2.2.2.1 (by rw [e1];simp only [rV];omega) ha (by omega) (by omega) (by omega) I2)
 | .mk _ (_::_::_::_),_,_,ho,_,_,_,_,_,_,_=>ho.elim
theorem FZ:∀(ts:List TS) (a:Nat) (b:Bd),IM fn par ts b.d9→Yr ts→(b.d9++dL ts).length≤V→a≤L→b.b9.length+CQ ts≤L→b.pl+nL 1 ts≤4000→b.ca+nL 8 ts≤4000→(∀s,s∈b.b9→Sa V fn.length L par s)→∀s,s∈(AP fn ts a b).b9→Sa V fn.length L par s
 | [],_,_,_,_,_,_,_,_,_,h=>by have _h1:=c;have _h2:=hF;rw [AP];exact h
 | [t],a,b,ho,hw,hn,ha,hl,hp,hc,h=>by simp only [dL,List.append_nil] at hn;simp only [CQ,nL,Nat.add_zero] at hl hp hc;rw [AP];exact NR t a b ho.1 hw.1 hn ha hl hp hc h
 | t::t2::ts,a,b,ho,hw,hn,ha,hl,hp,hc,h=>by
   rw [dL,←List.append_assoc] at hn;have hz:CQ (t::t2::ts)=Ez t+CQ (t2::ts):=rfl;have h1:nL 1 (t::t2::ts)=nK 1 t+nL 1 (t2::ts):=rfl;have h8:nL 8 (t::t2::ts)=nK 8 t+nL 8 (t2::ts):=rfl;have L1:=J6 t (b.b9.length+Ez t) b ho.1;have hn1:(b.d9++dS t).length≤V:=by rw [rV] at hn;omega
   have I:=NR t (b.b9.length+Ez t) b ho.1 hw.1 hn1 (by omega) (by omega) (by omega) (by omega) h;rw [AP];exact FZ (t2::ts) a _ (by rw [L1.d9];exact ho.2) hw.2 (by rw [L1.d9];exact hn) ha (by rw [L1.len];omega) (by rw [L1.pl];omega) (by rw [L1.ca];omega) I
end
end
structure iC(P:List PFn)(c:Co):Prop where
 nm:∀i,i<c.aY.length→Kh P (DB c.aY i).nm
 pt:∀p,p∈c.cU→Kh P p.1∧Kh P p.2
 en:∀e,e∈c.bN→e.1≤4000∧e.2<P.length
theorem iC.set{P c}(h:iC P c){a v}(d:a<c.aY.length)(f:Pm P.length c.aY.length v):iC P (c.set a v):=by
 refine ⟨fun i e=>?_,fun p b=>?_,h.en⟩
 ·rw [iD];rw [Lw] at e;exact h.nm i e
 ·unfold Co.set at b;simp only at b;split at b
  ·rename_i g;rcases List.mem_cons.1 b with rfl | b
   ·refine ⟨h.nm a d,.inr (.inr ⟨rfl,?_,rfl⟩)⟩;rcases f with ⟨q,_⟩ | ⟨_,q⟩ | ⟨q,_⟩
    ·omega
    ·exact q
    ·omega
   ·exact h.pt p b
  ·split at b
   ·rename_i g;rcases List.mem_cons.1 b with rfl | b
    ·refine ⟨h.nm a d,h.nm _ ?_⟩;rcases f with ⟨q,_⟩ | ⟨q,_⟩ | ⟨_,q⟩
     ·omega
     ·omega
     ·exact q
    ·exact h.pt p b
   ·exact h.pt p b
theorem iC.app{P c}(h:iC P c){l}(b:∀x,x∈l→Kh P x.nm):iC P {c with aY:=c.aY++l}:=by
 refine ⟨fun i a=>?_,h.pt,h.en⟩;simp only [rV] at a;unfold DB;rcases Nat.lt_or_ge i c.aY.length with q | q
 ·simp only;rw [List.getElem?_append_left q];exact h.nm i q
 ·simp only;rw [List.getElem?_append_right q,rU (by omega)];exact b _ (rQ _)
theorem iC.fields{P c}(h:iC P c){p}(b:p≤4000):iC P (c.fields p):=by refine h.app (fun x a=>?_);simp only [List.mem_cons,List.not_mem_nil,or_false] at a;rcases a with rfl | rfl | rfl | rfl<;>exact .inr (.inl ⟨rfl,b,by simp⟩)
theorem iC.l8{P c}(h:iC P c){f}(a:f<P.length):iC P (c.l8 f (Ap P f).l8.length):=by refine h.app (fun x d=>?_);obtain ⟨i,b,rfl⟩:=List.mem_map.1 d;exact .inl ⟨rfl,a,List.mem_range.1 b⟩
theorem iC.args{P:List PFn}:∀(l:List Vl) (a:Nat) (c:Co),iC P c→a+l.length≤c.aY.length→(∀v,v∈l→Pm P.length c.aY.length v)→iC P (XZ l a c)
 | [],_,_,h,_,_=>h
 | v::l,a,c,h,d,b=>by simp only [rW] at d;refine iC.args l (a+1) (c.set a v) (h.set (by omega) (b v (by simp))) (by rw [Lw];omega) (fun u e=>?_);rw [Lw];exact b u (rT _ e)
theorem iC.enter{P c}(h:iC P c){f}(a:f<P.length){args}(e:args.length≤(Ap P f).l8.length)(b:∀v,v∈args→Pm P.length c.aY.length v):iC P (c.enter f (Ap P f).l8.length args):=by refine iC.args args c.aY.length _ (h.l8 a) (by simp [Co.l8];omega) (fun v d=>(b v d).more (by simp [Co.l8]))
theorem iC.qW{P m}(h:iC P m.c){f b}(d:f<P.length){a}(c:a.length≤(Ap P f).l8.length)(e:∀v,v∈a→Pm P.length m.c.aY.length v):iC P (UR P m f a b).c:=by
 unfold Proofs.YtegmjgjkcdbmkaaGreatDoor.UR;split
 ·exact h
 ·exact h.enter d c e
theorem iC.leave{P n m}(h:iC P m.c)(b:CB P n m){v}(d:Pm P.length m.c.aY.length v):iC P (KF m v).c:=by
 obtain ⟨c,a,e⟩:=m;match a with
 | []=>exact h
 | [f]=>exact h
 | f::g::r=>exact h.set b.t8.1 d
theorem iC.norm{P:List PFn}{n:Nat}:∀(k:Nat) {m:Mc},iC P m.c→CB P n m→iC P (KO P k m).c
 | 0,_,h,_=>h
 | k+1,m,h,a=>by
   unfold KO;split
   ·split
    ·exact h
    ·split
     ·exact h
     ·exact iC.norm k (h.leave a (gX _ _)) a.qZ
   ·exact h
theorem iC.act{P k p q n r g c m}(h:iC P c)(f:LJ P.length c.aY)(d:p<c.aY.length)(o:q<c.aY.length)(t:k=4→g<P.length)(s:k=3→n≤3)(u:r≤4000)(a:aJ k p q n r g c=some m):iC P m:=by
 have i:=(f.at_ o).2;unfold Proofs.YtegmjgjkcdbmkaaGreatDoor.aJ at a;split at a
 ·cases a;exact (h.fields u).set (by simp [Co.fields];omega) (.inr (.inr ⟨rfl,by simp [Co.fields]⟩))
 ·split at a
  ·cases a;exact h.set d (.inr (.inr ⟨rfl,o⟩))
  ·split at a
   ·rename_i l;split at a
    ·rename_i j;cases a;obtain ⟨w,x,y⟩:=j;have e:(DB c.aY q).v.bG<c.aY.length:=by
      rcases i with ⟨b,_⟩ | ⟨b,_⟩ | ⟨_,b⟩
      ·omega
      ·omega
      ·exact b
     have v:=(f.at_ e).1;have:=s l;refine h.set d (.inr (.inr ⟨rfl,?_⟩));rcases v with b | ⟨_,_,_,_,b⟩
     ·omega
     ·simp only;omega
    ·cases a
   ·split at a
    ·rename_i l;cases a;exact h.set d (.inr (.inl ⟨rfl,t l⟩))
    ·split at a
     ·split at a
      ·rename_i j;cases a;have e:(DB c.aY q).v.bG<c.aY.length:=by
        rcases i with ⟨b,_⟩ | ⟨b,_⟩ | ⟨_,b⟩
        ·omega
        ·omega
        ·exact b
       exact h.set d (f.at_ e).2
      ·cases a
     ·split at a
      ·cases a;exact h.set d i
      ·split at a
       ·split at a
        ·rename_i j;cases a;have e:(DB c.aY p).v.bG<c.aY.length:=by
          rcases (f.at_ d).2 with ⟨b,_⟩ | ⟨b,_⟩ | ⟨_,b⟩
          ·omega
          ·omega
          ·exact b
         exact h.set e i
        ·cases a
       ·cases a;exact h
theorem iC.step{P}(k:Ms P){n m f r}(c:iC P m.c)(h:CB P (n+1) m)(o:m.bS=f::r)(H:f.next<(Ap P f.fn).b9.length):iC P (V5 P m).c:=by
 have y:=h.fr f (by rw [o];simp);have b:=k.ok f.fn y.fn _ (kX H);have O:=y.base;unfold V5;rw [o];simp only;obtain ⟨s,K⟩:∃s,YW (Ap P f.fn).b9 f.next=s:=⟨_,rfl⟩;rw [K] at b⊢;have z:=h.next o b.next;have w:∀v,v∈WH m.c.aY f.base s.args→Pm P.length m.c.aY.length v:=by intro v g;unfold WH at g;obtain ⟨a,d,rfl⟩:=List.mem_map.1 g;have:=b.args a d;exact (h.aY.at_ (by omega)).2
 have N:(WH m.c.aY f.base s.args).length=s.args.length:=by simp only [WH,rX]
 split
 ·rename_i j;have M:=b.many j;have C:=k.bX s.r9;exact iC.qW (m:={m with bS:={f with next:=s.next}::r}) c (b.func (.inr j)) (by omega) w
 ·split
  ·rename_i D;have R:=b.sr (by omega);split
   ·rename_i G;split
    ·exact c
    ·have g:=(h.aY.at_ (i:=f.base+s.r9) (by omega)).2;have x:(DB m.c.aY (f.base+s.r9)).v.bG<P.length:=by
      rcases g with ⟨q,_⟩ | ⟨_,q⟩ | ⟨q,_⟩
      ·omega
      ·exact q
      ·omega
     have C:=k.bX (DB m.c.aY (f.base+s.r9)).v.bG;have Q:=G.2;refine iC.qW (m:=⟨{m.c with bN:=(s.m9,(DB m.c.aY (f.base+s.r9)).v.bG)::m.c.bN},{f with next:=s.next}::r,m.bM⟩) ⟨c.nm,c.pt,fun e l=>?_⟩ x (by omega) w;rcases List.mem_cons.1 l with rfl | l
     ·exact ⟨b.m9,x⟩
     ·exact c.en e l
   ·exact c
  ·split
   ·rename_i A;have:=b.sr (by omega);exact iC.leave (m:={m with bS:={f with next:=s.next}::r}) c z ((h.aY.at_ (by omega)).2)
   ·split
    ·exact ⟨c.nm,c.pt,c.en⟩
    ·split
     ·rename_i t d;rename_i j D A L;by_cases u:s.kind=0
      ·have F:t=m.c:=by rw [u] at d;simpa [Proofs.YtegmjgjkcdbmkaaGreatDoor.aJ] using d.symm
       subst F
       exact c
      ·have S:=b.tg u (by omega) (by omega) (by omega);have I:∃p,p<m.c.aY.length∧Proofs.YtegmjgjkcdbmkaaGreatDoor.aJ s.kind (f.base+s.aQ) p s.field s.m9 s.r9 m.c=some t:=by
        by_cases B:s.kind=1∨s.kind=4
        ·refine ⟨f.base+s.aQ,by omega,?_⟩;rw [←d];rcases B with e | e<;>simp [Proofs.YtegmjgjkcdbmkaaGreatDoor.aJ,e]
        ·have:=b.sr (by have:=b.kind;omega);exact ⟨f.base+s.r9,by omega,d⟩
       obtain ⟨p,J,E⟩:=I;exact c.act h.aY (by omega) J (fun e=>b.func (.inl e)) (fun _=>b.field) b.m9 E
     ·exact c
theorem jI{P:List PFn}:∀(k:Nat) (m:Mc),m.bS.length<k→(KO P k m).bM=1→∀f r,(KO P k m).bS=f::r→f.next<(Ap P f.fn).b9.length
 | 0,_,h,_,_,_,_=>by omega
 | k+1,m,h,b,f,r,a=>by
   unfold KO at b a;by_cases d:m.bM=1
   ·rw [if_pos d] at b a;cases c:m.bS with
    | nil=> rw [c] at a;simp only at a;rw [c] at a;cases a
    | cons g s=>
      rw [c] at b a;simp only at b a;by_cases e:g.next<(Ap P g.fn).b9.length
      ·rw [if_pos e] at a;rw [c] at a;cases a;exact e
      ·rw [if_neg e] at b a;refine jI k (KF m Uh) ?_ b f r a;rw [jK c];rw [c] at h;simp only [rW] at h;omega
   ·rw [if_neg d] at b;exact absurd b d
theorem iC.go{P:List PFn}(e:Ms P):∀(n:Nat) {m:Mc},m.bS.length≤40→iC P m.c→CB P n m→iC P (PO P n m).1.c
 | 0,m,_,b,a=>by unfold PO;exact b.norm 41 a
 | n+1,m,k,b,a=>by
   unfold PO;split
   ·rename_i h;have j:=b.norm 41 a;have d:=a.norm 41;cases c:(KO P 41 m).bS with
    | nil=>exact absurd c (d.run h)
    | cons f r=> have i:=jI 41 m (by omega) h f r c;have g:=d.step e c i;exact iC.go e n g.bJ (j.step e d c i) g
   ·exact b.norm 41 a
theorem iC.run{P}(g:Ms P){d b}(k:b≤5000)(h:d<P.length)(a):iC P (gY P d b a).1.c:=by obtain ⟨o,e⟩:=CB.start g (n:=b) (f:=d) (ch:=a) k h;refine iC.go g b e.bJ ?_ e;exact iC.qW (m:=⟨⟨[],a,[],[]⟩,[],1⟩) ⟨fun i j=>absurd j (Nat.not_lt_zero _),fun p c=>absurd c List.not_mem_nil,fun p c=>absurd c List.not_mem_nil⟩ h (by simp) (fun v l=>absurd l List.not_mem_nil)
theorem Q8:∀(n:Nat) (x:UInt8),x∈Lib.decDigits n→48≤x.toNat∧x.toNat≤57:=by
 intro n;induction n using Nat.strongRecOn with
 | _ n c=>
   intro x a;have b:∀d:Nat,d<10→(UInt8.ofNat (48+d)).toNat=48+d:=by decide
   rw [Lib.decDigits] at a;split at a
   ·rename_i h;rw [List.mem_singleton] at a;subst a;rw [b n h];omega
   ·rename_i h;rcases List.mem_append.1 a with q | q
    ·exact c (n / 10) (by omega) x q
    ·rw [List.mem_singleton] at q;subst q;rw [b (n % 10) (by omega)];omega
def Yw(l:List UInt8):Nat:=l.foldl (fun a d=>10*a+(d.toNat-48)) 0
theorem Rb:∀n:Nat,Yw (Lib.decDigits n)=n:=by
 intro n;induction n using Nat.strongRecOn with
 | _ n b=>
   have a:∀d:Nat,d<10→(UInt8.ofNat (48+d)).toNat=48+d:=by decide
   rw [Lib.decDigits];split
   ·rename_i h;simp only [Yw,List.foldl_cons,List.foldl_nil];rw [a n h];omega
   ·rename_i h;have e:=b (n / 10) (by omega);unfold Yw at e⊢;rw [List.foldl_append,e];simp only [List.foldl_cons,List.foldl_nil];rw [a (n % 10) (by omega)];omega
theorem Q9{a b}(h:Lib.decDigits a=Lib.decDigits b):a=b:=by rw [←Rb a,←Rb b,h]
theorem UN(n):∃x l,Lib.decDigits n=x::l∧48≤x.toNat∧x.toNat≤57:=by
 cases h:Lib.decDigits n with
 | nil=>
   rw [Lib.decDigits] at h;split at h
   ·cases h
   ·exact absurd h (by simp)
 | cons x l=>exact ⟨x,l,rfl,Q8 n x (by rw [h];simp)⟩
theorem PC{c:UInt8}:∀{a e b d:List UInt8},c∉a→c∉e→a++[c]++b=e++[c]++d→a=e∧b=d
 | [],[],b,d,_,_,h=>by simpa using h
 | [],y::e,b,d,_,g,h=>by simp at h;exact absurd h.1 (fun q=>g (by simp [q]))
 | x::a,[],b,d,f,_,h=>by simp at h;exact absurd h.1 (fun q=>f (by simp [q]))
 | x::a,y::e,b,d,f,g,h=>by simp only [List.cons_append,List.cons.injEq] at h;obtain ⟨i,j⟩:=PC (fun q=>f (rT _ q)) (fun q=>g (rT _ q)) h.2;exact ⟨by rw [h.1,i],j⟩
theorem Rq{b}(h:Ud b){c}(a:c.toNat<97):c∉b.data.toList:=fun q=>by have:=h c q;omega
theorem Ra(n){c}(a:c.toNat<48∨57<c.toNat):c∉Lib.decDigits n:=fun q=>by have:=Q8 n c q;omega
theorem Km{a b:ByteArray}(h:a.data.toList=b.data.toList):a=b:=by cases a;cases b;simp only at h;have:=Array.toList_inj.1 h;subst this;rfl
structure NmP(P:List PFn):Prop where
 nl:∀i,Ud (Ap P i).name
 vl:∀i j,Ud (QE P i j)
 inj:∀i j,i<P.length→j<P.length→(Ap P i).name=(Ap P j).name→i=j
 dD:∀i,(Ap P i).l8.Nodup
theorem kE{P}(h:NmP P){c}(b:c.toNat<46∨(57<c.toNat∧c.toNat<64))(t):c∉GQ P t:=by
 have f:=Ra t.aV (c:=c) (by omega);have g:=Ra t.aX (c:=c) (by omega);have d:=Rq (h.nl t.aV) (c:=c) (by omega);have i:=Rq (h.vl t.aV t.aX) (c:=c) (by omega);have a:c≠46:=by rintro rfl;simp at b
 have e:c≠64:=by rintro rfl;simp at b
 unfold GQ;split
 ·simp [f,g,a]
 ·split
  ·simp only [List.mem_cons,not_or];exact ⟨e,d⟩
  ·simp only [List.mem_append,List.mem_singleton,not_or];exact ⟨⟨d,a⟩,i⟩
theorem OR{P}(h:NmP P)(t):∃x l,GQ P t=x::l∧(t.kind=1→48≤x.toNat∧x.toNat≤57)∧(t.kind=2→x=64)∧(t.kind≠1→t.kind≠2→x.toNat=46∨97≤x.toNat):=by
 unfold GQ;split
 ·rename_i c;obtain ⟨x,l,e,f⟩:=UN t.aV;exact ⟨x,l++[46]++Lib.decDigits t.aX,by rw [e];simp,fun _=>f,fun q=>by omega,fun q=>absurd c q⟩
 ·rename_i b;split
  ·rename_i a;exact ⟨64,_,rfl,fun q=>absurd q b,fun _=>rfl,fun _ q=>absurd a q⟩
  ·rename_i a;cases d:(Ap P t.aV).name.data.toList with
   | nil=>exact ⟨46,_,rfl,fun q=>absurd q b,fun q=>absurd q a,fun _ _=>.inl rfl⟩
   | cons x l=>exact ⟨x,_,rfl,fun q=>absurd q b,fun q=>absurd q a,fun _ _=>.inr (h.nl t.aV x (by rw [d];simp))⟩
theorem Vm{l:List ByteArray}(h:l.Nodup){i j:Nat}(a:i<l.length)(b:j<l.length)(e:l[i]=l[j]):i=j:=by
 have c:=List.pairwise_iff_getElem.1 h;rcases Nat.lt_trichotomy i j with q | q | q
 ·exact absurd e (c i j a b q)
 ·exact q
 ·exact absurd e.symm (c j i b a q)
theorem XE{P}(h:NmP P){s t}(J:Kh P s)(K:Kh P t)(e:GQ P s=GQ P t):s=t:=by
 obtain ⟨x,l,p,A,B,C⟩:=OR h s;obtain ⟨y,m,q,D,E,F⟩:=OR h t;rw [p,q] at e;have G:x=y:=by simpa using (List.cons.inj e).1
 subst G;have e:GQ P s=GQ P t:=by rw [p,q];exact e
 have L:(64:UInt8).toNat=64:=by decide
 rcases J with ⟨a,f,c⟩ | ⟨a,f,c⟩ | ⟨a,f,c⟩<;>rcases K with ⟨b,g,d⟩ | ⟨b,g,d⟩ | ⟨b,g,d⟩
 ·unfold GQ at e;rw [if_neg (by omega),if_neg (by omega),if_neg (by omega),if_neg (by omega)] at e;obtain ⟨j,k⟩:=PC (Rq (h.nl _) (by decide)) (Rq (h.nl _) (by decide)) e;have i:=h.inj _ _ f g (Km j);obtain ⟨u,o,r⟩:=s;obtain ⟨w,z,v⟩:=t;simp only at*;subst i a b;have n:=Km k;unfold QE at n;rw [rU c,rU d] at n;have:=Vm (h.dD o) c d n;subst this;rfl
 ·have:=C (by omega) (by omega);have:=D b;omega
 ·have:=C (by omega) (by omega);have:=E b;subst this;omega
 ·have:=F (by omega) (by omega);have:=A a;omega
 ·unfold GQ at e;rw [if_pos a,if_pos b] at e;obtain ⟨j,k⟩:=PC (Ra _ (by decide)) (Ra _ (by decide)) e;have H:=Q9 j;have I:=Q9 k;obtain ⟨u,o,r⟩:=s;obtain ⟨w,z,v⟩:=t;simp only at*;subst H I a b;rfl
 ·have:=A a;have:=E b;subst this;omega
 ·have:=F (by omega) (by omega);have:=B a;subst this;omega
 ·have:=D b;have:=B a;subst this;omega
 ·unfold GQ at e;rw [if_neg (by omega),if_pos a,if_neg (by omega),if_pos b] at e;have i:=h.inj _ _ f g (Km (List.cons.inj e).2);obtain ⟨u,o,r⟩:=s;obtain ⟨w,z,v⟩:=t;simp only at*;subst i a b c d;rfl
theorem YJ{a b:List UInt8}(h:(⟨a.toArray⟩:ByteArray)=⟨b.toArray⟩):a=b:=by have:=congrArg (fun x:ByteArray=>x.data.toList) h;simpa using this
theorem oR{P}(h:NmP P){p q}(a:Kh P p.1∧Kh P p.2)(b:Kh P q.1∧Kh P q.2)(e:jP P p=jP P q):p=q:=by obtain ⟨c,d⟩:=PC (kE h (by decide) _) (kE h (by decide) _) (YJ e);exact Prod.ext (XE h a.1 b.1 c) (XE h a.2 b.2 d)
theorem oP{P}(h:NmP P){p q}(c:p.2<P.length)(d:q.2<P.length)(e:kQ P p=kQ P q):p=q:=by have e:=YJ e;simp only [List.cons_append,List.nil_append,List.cons.injEq,true_and] at e;obtain ⟨a,b⟩:=PC (Ra _ (by decide)) (Ra _ (by decide)) e;exact Prod.ext (Q9 a) (h.inj _ _ c d (Km b))
theorem qC{P}(h:NmP P)(p q):jP P p≠kQ P q:=by intro e;have e:=YJ e;obtain ⟨x,l,a,_⟩:=OR h p.1;have:=kE h (c:=33) (by decide) p.1;rw [a] at e this;simp only [List.cons_append,List.nil_append,List.cons.injEq] at e;exact this (by rw [e.1];simp)
theorem jH{g k:Type}{f:g→k}:∀{l:List g},l.Nodup→(∀a b,a∈l→b∈l→f a=f b→a=b)→(l.map f).Nodup
 | [],_,_=>by simp
 | x::l,h,c=>by rw [List.nodup_cons] at h;rw [List.map_cons,List.nodup_cons];refine ⟨fun q=>?_,jH h.2 (fun a b i j=>c a b (rT _ i) (rT _ j))⟩;obtain ⟨y,d,e⟩:=List.mem_map.1 q;have:=c y x (rT _ d) (by simp) e;subst this;exact h.1 d
structure iV(P:List PFn)(l:List ByteArray)(pts:List (Tg×Tg))(ent:List (Nat×Nat)):Prop where
 sorted:l.Pairwise (fun a b=>ZU a b=true)
 aY:∀x,x∈l↔(∃p,p∈pts∧x=jP P p)∨(∃e,e∈ent∧x=kQ P e)
theorem jN:∀{l:List ByteArray},l.Pairwise (fun a b=>ZU b a=false)→l.Nodup→l.Pairwise (fun a b=>ZU a b=true)
 | [],_,_=>List.Pairwise.nil
 | x::l,h,c=>by rw [List.pairwise_cons] at h;rw [List.nodup_cons] at c;refine List.Pairwise.cons (fun b d=>mL (h.1 b d) (fun q=>c.1 (q▸d))) (jN h.2 c.2)
theorem oW{P:List PFn}(h:NmP P){c:Co}(k:iC P c){l:List ByteArray}{n:List (Tg×Tg)}{m:List (Nat×Nat)}(r:l.Pairwise (fun a b=>ZU b a=false))(o:l.Perm (n.map (jP P)++m.map (kQ P)))(s:n.Nodup)(t:m.Nodup)(i:∀p,p∈n↔p∈c.cU)(j:∀p,p∈m↔p∈c.bN):iV P l c.cU c.bN:=by
 refine ⟨jN r (o.nodup_iff.2 ?_),fun x=>?_⟩
 ·rw [List.nodup_append];refine ⟨jH s (fun a b f g e=>oR h (k.pt a ((i a).1 f)) (k.pt b ((i b).1 g)) e),jH t (fun a b f g e=>oP h (k.en a ((j a).1 f)).2 (k.en b ((j b).1 g)).2 e),fun a f b g=>?_⟩;obtain ⟨p,_,rfl⟩:=List.mem_map.1 f;obtain ⟨q,_,rfl⟩:=List.mem_map.1 g;exact qC h p q
 ·rw [o.mem_iff,List.mem_append,List.mem_map,List.mem_map];constructor
  ·rintro (⟨p,d,rfl⟩ | ⟨p,d,rfl⟩)
   ·exact .inl ⟨p,(i p).1 d,rfl⟩
   ·exact .inr ⟨p,(j p).1 d,rfl⟩
  ·rintro (⟨p,d,rfl⟩ | ⟨p,d,rfl⟩)
   ·exact .inl ⟨p,(i p).2 d,rfl⟩
   ·exact .inr ⟨p,(j p).2 d,rfl⟩
theorem jO:∀{a b:List ByteArray},a.Pairwise (fun a b=>ZU a b=true)→b.Pairwise (fun a b=>ZU a b=true)→(∀x,x∈a↔x∈b)→a=b
 | [],[],_,_,_=>rfl
 | [],y::b,_,_,h=>absurd ((h y).2 (by simp)) List.not_mem_nil
 | x::a,[],_,_,h=>absurd ((h x).1 (by simp)) List.not_mem_nil
 | x::a,y::b,c,d,h=>by
   rw [List.pairwise_cons] at c d;have f:x=y:=by
    rcases List.mem_cons.1 ((h x).1 (by simp)) with q | q
    ·exact q
    ·rcases List.mem_cons.1 ((h y).2 (by simp)) with r | r
     ·exact r.symm
     ·have g:=d.1 x q;have i:=c.1 y r;have:=mM g i;rw [iZ] at this;cases this
   subst f;rw [jO c.2 d.2 (fun z=>?_)];have e:=h z;simp only [List.mem_cons] at e;constructor
   ·intro q;rcases e.1 (.inr q) with r | r
    ·subst r;have:=c.1 z q;rw [iZ] at this;cases this
    ·exact r
   ·intro q;rcases e.2 (.inr q) with r | r
    ·subst r;have:=d.1 z q;rw [iZ] at this;cases this
    ·exact r
end Go.Proofs.YtegmjgjkcdbmkaaGreatDoor
