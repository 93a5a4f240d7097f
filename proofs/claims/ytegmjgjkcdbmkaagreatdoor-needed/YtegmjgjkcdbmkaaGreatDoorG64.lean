/- One of the texts of the proof: NeA NeB NeC. -/
import Derived.Test.YtegmjgjkcdbmkaaGreatDoorG54
import Derived.Test.YtegmjgjkcdbmkaaGreatDoorG63
import Derived.Deep.Upon
set_option maxRecDepth 100000
set_option maxHeartbeats 4000000
namespace Go.Proofs.YtegmjgjkcdbmkaaGreatDoor
open Go.RowKit Go.Maps
structure eJ(j m i:Prop)(t:Nat):Prop where
 a:j→t<156
 b:m→144≤t
 c:i→¬YF t
section
variable {o : List Sm} {P : List PFn} (M : MadeP (fsOf o) 0 0 P) (p : ∀ s, s ∈ o → s.In) {j m i : Prop} (y : j → ∀ s, s ∈ o → s.kind ≠ 0) (w : m → ∀ s, s ∈ o → s.kind ≠ 1) (A : i → ∀ s, s ∈ o → s.kind ≠ 2)
include M p
theorem dR{r:Rl}(h:Ly P r)(l:r.s.kind≠0∧r.s.kind≠11∧r.s.kind≠12):∃s n,s∈o∧s.In∧Mt s n r.s∧r.f<4:=by
 have b:r.f<4:=by have:=h.1;rw [Ip M] at this;exact this
 rcases dQ M h with q | ⟨x,g,k,d⟩
 ·omega
 ·have a:=(Ga g).1;have c:=Qa p a;have:x.1∈o:=by unfold Cd fsOf at a;simp only [List.mem_flatMap,List.mem_map] at a;obtain ⟨q,⟨f,_,rfl⟩,e⟩:=a;exact (List.mem_filter.1 e).1
  exact ⟨x.1,x.2,this,c,d,b⟩
include y w A
theorem dU:XW P ⟨fun c t=>(least P).I c t∧eJ j m i t,(least P).F,fun n g=>(least P).E n g∧¬i⟩:=by
 have C:=CU P;refine ⟨fun a b t h k=>⟨C.flow a b t h k.1,k.2⟩,fun r u=>?_,fun r t u x h=>?_⟩
 ·have B:=C.beg r u;refine ⟨fun q=>⟨B.1 q,?_⟩,fun q=>⟨B.2.1 q,?_⟩,fun q=>⟨B.2.2.1 q,?_⟩,B.2.2.2.1,B.2.2.2.2⟩
  ·obtain ⟨s,n,v,d,l,x⟩:=dR M p u (by omega);have f:=(Zq d.ok.kind).1.1 (by rw [←l.kd];exact q);refine ⟨fun z=>absurd f (y z s v),fun _=>?_,fun _ z=>?_⟩
   ·unfold pN;omega
   ·unfold YF pN at z;omega
  ·obtain ⟨s,n,v,d,l,x⟩:=dR M p u (by omega);have f:s.kind=1:=by
    have e:=l.kd;rw [q] at e;have:=d.ok.kind;have D:s.kind=0∨s.kind=1∨s.kind=2∨s.kind=3∨s.kind=4∨s.kind=5∨s.kind=6∨s.kind=7∨s.kind=8∨s.kind=9:=by omega
    rcases D with c | c | c | c | c | c | c | c | c | c<;>rw [c] at e<;>first | exact c | (simp [kM] at e)
   have G:=d.q;have H:=l.sr (.inl f);have E:r.sr<144:=by unfold Rl.sr vN;omega
   exact ⟨fun _=>by omega,fun z=>absurd f (w z s v),fun _ z=>by unfold YF at z;omega⟩
  ·obtain ⟨s,n,v,d,l,x⟩:=dR M p u (by omega);have f:s.kind=2:=by
    have e:=l.kd;rw [q] at e;have:=d.ok.kind;have D:s.kind=0∨s.kind=1∨s.kind=2∨s.kind=3∨s.kind=4∨s.kind=5∨s.kind=6∨s.kind=7∨s.kind=8∨s.kind=9:=by omega
    rcases D with c | c | c | c | c | c | c | c | c | c<;>rw [c] at e<;>first | exact c | (simp [kM] at e)
   have G:=d.g;have H:=l.sf (.inl f);have E:144≤fN r.s.r9∧fN r.s.r9<156:=by unfold fN;omega
   exact ⟨fun _=>by omega,fun _=>E.1,fun z=>absurd f (A z s v)⟩
 ·have F:=C.fol r t u x h.1;refine ⟨fun q a b=>⟨F.1 q a b,?_⟩,F.2.1,F.2.2.1,fun q a b=>⟨⟨(F.2.2.2 q a b).1,fun z=>h.2.c z a⟩,(F.2.2.2 q a b).2⟩⟩;exact ⟨fun z=>by have:=h.2.a z;omega,fun _=>by omega,fun _ z=>by unfold YF at z;omega⟩
theorem eM{c t:Nat}(h:(least P).I c t):eJ j m i t:=(h _ (dU M p y w A)).2
theorem eK{n g:Nat}(h:(least P).E n g):¬i:=(h _ (dU M p y w A)).2
end
structure eN(j m i:Prop)(s:ByteArray)(b:UInt8):Prop where
 e:s.data[0]? =some b
 d:j→¬(48≤b.toNat∧b.toNat≤57)
 u:m→¬97≤b.toNat
 f:i→b.toNat≠64
theorem dO{s t:ByteArray}{b:UInt8}(h:s.data[0]? =some b):(s++t).data[0]? =some b:=by
 have a:0<s.data.size:=by
  rcases Nat.eq_zero_or_pos s.data.size with q | q
  ·rw [Array.getElem?_eq_none (by omega)] at h;cases h
  ·exact q
 rw [ByteArray.data_append,Array.getElem?_append_left a];exact h
theorem eA{f:Nat}(a:f<4):∃b:UInt8,(Kz f).data[0]? =some b∧97≤b.toNat:=by
 have:f=0∨f=1∨f=2∨f=3:=by omega
 rcases this with rfl | rfl | rfl | rfl
 ·exact ⟨109,rfl,by decide⟩
 ·exact ⟨120,rfl,by decide⟩
 ·exact ⟨121,rfl,by decide⟩
 ·exact ⟨122,rfl,by decide⟩
theorem eI{o:List Sm}{P:List PFn}(M:MadeP (fsOf o) 0 0 P){D E r:Nat}(Y:AnHy P D E r){j m i:Prop}{c t:Nat}(h:(least P).I c t)(d:eJ j m i t):∃b,eN j m i (EF P t) b:=by
 have H:=Ip M;rcases (Im Y.ok h).2 with (⟨f,v,F,q,rfl⟩ | ⟨n,k,w,_,u,rfl⟩) | ⟨g,G,rfl⟩
 ·have a:f<4:=by omega
  have C:v<4:=by rw [(Fu M a).2.1] at q;exact q
  rw [Wg M a C];obtain ⟨b,e,x⟩:=eA a;refine ⟨b,dO (dO e),fun _=>by omega,fun z=>?_,fun _=>by omega⟩;have:=d.b z;unfold vN at this;omega
 ·rw [OQ w u];obtain ⟨b,l,e,x⟩:=UN n;have s:(JR n).data[0]? =some b:=by unfold JR;rw [e];rfl
  refine ⟨b,dO (dO s),fun z=>?_,fun _=>by omega,fun _=>by omega⟩;have:=d.a z;unfold pN at this;omega
 ·have B:g<4:=by omega
  rw [Yh M B];refine ⟨64,dO rfl,fun _=>by decide,fun _=>by decide,fun z=>?_⟩;refine absurd ?_ (d.c z);unfold YF fN;omega
theorem gL{P:Program}(w:World){N:Array Oper}{O:List Oper}{o:Oper}{a:Act}{Q:Exit→Act→World→Prop}(Y:o.guard=none)(s x:Operand)(t:TypeId)
 (J:o.op=.call {callee:=.builtin .append,args:=#[s,x],argTypes:=#[t,t]})(r:Nat)(e:TypeId)(i:TypeInfo)(z:Value)(b B:Nat)(y:P.underlying t=some (.slice e))(H:P.info? e=some i)(hz:i.zero=some z)
 (a1:i.size=b)(W:i.bytes=B)(a5:z.cells.size=b)(a2:0<b)(v:Value)(n:Nat)(F:List Value)(L:a.eval s=v)(k:w.ownsRow r e b v n F)
 (l:Option Addr)(m d:Nat)(M:a.eval x=.slice l m d)(f:List Value)(I:f.length=m*b)(D:m=0∨∃c,l=some c∧∀j u,f[j]? =some u→w.cell? (c.add j)=some u)(T:∀u∈f,u.oneCell'=true)
 (U:n+m≤maxLen)(X:(n+m)*B≤140737488355328)(V:r≤w.heap.size)
 (h:∀A p,p.ownsRow r e b A (n+m) (F++f)→w.grownBy p v.ownBlock→wpList P N Q O (a.put o.dst A) p):wpList P N Q (o::O) a w:=by
 refine wpList_plain Y fun K G=>?_
 rcases Nat.eq_zero_or_pos m with rfl | a8
 ·have Z:f=[]:=List.length_eq_zero_iff.1 (by rw [I,Nat.zero_mul]);subst Z;obtain ⟨va,S,R,rfl⟩:=Ad k;have a4:=Aq k;subst a4;have a3:S≤R:=by
   rcases k.2 with ⟨q,q2⟩ | ⟨g,a6,a7,q,_,_,q2,_⟩
   ·omega
   ·simp only [Value.slice.injEq] at q;omega
  have D:Src P i.size t (.slice l 0 d) 0 [] w:=by
   rcases l with _ | c
   ·exact Src.ofNil w y d
   ·exact Src.ofSlice w y c 0 d [] (by simp) (fun j u E=>by simp at E) (fun u E=>by simp at E)
  have C:=run_append_nothing (P:=P) w t t o.type e i y H va S R a3 (.slice l 0 d) D;unfold Oper.wp;simp [execOp,J,resolve,invoke,builtin,L,M,C,Result.andThen];exact G _ _ (h _ w (by rw [List.append_nil];exact k) ⟨rfl,rfl,rfl,Nat.le_refl _,fun _ _ _=>rfl⟩)
 ·rcases D with q | ⟨c,rfl,a0⟩
  ·omega
  ·obtain ⟨A,p,C,r1,r2,_⟩:=run_append_own (P:=P) w r t o.type e i z b B y H hz a1 W a5 a2 v n F k c m d f I a0 T U X V;unfold Oper.wp;simp [execOp,J,resolve,invoke,builtin,L,M,C,Result.andThen];exact G _ _ (h A p r1 r2)
theorem gO{w:World}{B d:Nat}{e b:TypeId}{s o:Nat}{v c:Value}{n m:Nat}{p r:List Value}(h:w.ownsRow B e s v n p)(f:w.ownsRow d b o c m r)(l:b≠e):∀k,v.ownBlock=some k→c.ownBlock≠some k:=by
 intro k j a;rcases f.2 with ⟨q,_⟩ | ⟨g,t,u,q,_,i,_⟩
 ·rw [q] at a;simp [Value.ownBlock] at a
 ·rw [q] at a;simp [Value.ownBlock] at a;exact Aj h i l k j (by rw [a])
structure gM(B:Nat)(w:World)(v:Value)(us:List Value)(ls:List (List ByteArray)):Prop where
 len:us.length=ls.length
 own:w.ownsRow B 28 1 v ls.length us
 at_:∀i (h:i<us.length) (h':i<ls.length),Au 0 w us[i] ls[i]
theorem gM.nil(B:Nat)(w:World):gM B w (.slice none 0 0) [] []:=⟨rfl,World.ownsRow_nil _ _ _ _,fun i h=>by simp at h⟩
theorem gM.quiet{B w c v b a}(h:gM B w v b a)(k:Ab (fun _=>False) w c):gM B c v b a:=⟨h.len,Ac h.own k (fun _ _ q=>q),fun i d e=>Ac (h.at_ i d e) k (fun _ _ q=>q)⟩
theorem gM.form{B w v d b}(h:gM B w v d b):∃a c,v=.slice a b.length c:=by obtain ⟨a,l,c,rfl⟩:=Ad h.own;have:=Aq h.own;subst this;exact ⟨a,c,rfl⟩
theorem gM.app{B}{w W j:World}{v n:Value}{a c:List Value}{b g:List (List ByteArray)}(h:gM B w v a b)(r:Ab (fun _=>False) w W)(s:W.grownBy j v.ownBlock)(t:c.length=g.length)(x:∀i (h:i<c.length) (y:i<g.length),Au 0 w c[i] g[i])(u:j.ownsRow B 28 1 n (b.length+g.length) (a++c)):gM B j n (a++c) (b++g):=by
 have m:Ab (fun k=>v.ownBlock=some k) w j:=Ab.grown (r.mono fun _ _ q=>q.elim) s (fun _ d=>.inl d);have l:=h.len;refine ⟨by rw [List.length_append,List.length_append,l,t],by rw [List.length_append];exact u,fun i o z=>?_⟩;rcases Nat.lt_or_ge i a.length with q | q
 ·have f:=h.at_ i q (by omega);rw [List.getElem_append_left q,List.getElem_append_left (by omega:i<b.length)];exact Ac f m (fun k d=>gO f h.own (by decide) k d)
 ·have p:i-a.length<c.length:=by rw [List.length_append] at o;omega
  have f:=x (i-a.length) p (by omega);have e:b.length=a.length:=l.symm;rw [List.getElem_append_right q,List.getElem_append_right (by omega:b.length≤i)];simp only [e];exact Ac f m (fun k d=>gO f h.own (by decide) k d)
theorem gM.lt{B w v c b}(h:gM B w v c b):∀k,v.ownBlock=some k→B≤k:=fun k a=>(World.ownsRow.lt h.own k a).1
theorem gM.get{B w a n c m e}(h:gM B w (.slice a n c) m e){i:Nat}(j:i<e.length):∃g b d,a=some ⟨g,0,none⟩∧g<w.heap.size∧w.cell? ⟨g,i,none⟩=some (.slice b (e[i]).length d)∧Au 0 w (.slice b (e[i]).length d) e[i]:=by
 obtain ⟨g,rfl⟩:=AA h.own (by omega);have p:=Aq h.own;subst p;have k:i<m.length:=by rw [h.len];exact j
 have f:=h.at_ i k j;obtain ⟨b,l,d,q⟩:=Ad f;rw [q] at f;have o:=Aq f;subst o;refine ⟨g,b,d,rfl,(World.ownsRow.lt h.own g rfl).2,?_,f⟩;have:=h.own.cellAt (i*1) (by simpa using j);rw [Nat.mul_one] at this;rw [this,List.getElem?_eq_getElem k,q]
def gK(p a b c:Nat):Prop:=(p=0∧a=1)∨(p=1∧b=1)∨(p=2∧c=1)
instance (p a0 a1 a2:Nat):Decidable (gK p a0 a1 a2):=by unfold gK;infer_instance
def gP(a b c:Nat)(l:Ln):Bool:=!decide (gK (AK l.a1 10) a b c)
theorem gV{α:Type}{l:List α}{k:Nat}(h:k≤l.length)(a:k≤60)(b:¬(k<l.length∧k<60)):l.take k=l.take 60:=by
 by_cases q:k<l.length
 ·rw [show k=60 by omega]
 ·rw [List.take_of_length_le (by omega),List.take_of_length_le (by omega)]
theorem gT{b:List Sm}{g:List Ln}{c d f:Nat}(h:∀l,l∈g→gP c d f l=true)(a:b=g.map Qt):(c=1→∀s,s∈b→s.kind≠0)∧(d=1→∀s,s∈b→s.kind≠1)∧(f=1→∀s,s∈b→s.kind≠2):=by
 have k:∀s,s∈b→¬gK s.kind c d f:=fun s q=>by
  rw [a] at q;obtain ⟨l,i,rfl⟩:=List.mem_map.1 q;have:=h l i;unfold gP at this;have j:¬gK (AK l.a1 10) c d f:=by simpa using this
  exact j
 exact ⟨fun q s a e=>k s a (.inl ⟨e,q⟩),fun q s a e=>k s a (.inr (.inl ⟨e,q⟩)),fun q s a e=>k s a (.inr (.inr ⟨e,q⟩))⟩
theorem gW{b:List Sm}(h:∀s,s∈b→s.kind≠0):DS (Cd b)=0:=by
 unfold DS;rw [List.countP_eq_zero];intro s a;have:s∈b:=by unfold Cd fsOf at a;simp only [List.mem_flatMap,List.mem_map] at a;obtain ⟨q,⟨f,_,rfl⟩,c⟩:=a;exact (List.mem_filter.1 c).1
 simpa using h s this
theorem gU(B0:Nat)(o7 w:World)(h:Nf B0 o7 w)(lv:Value)(C:List Ln)(nw:Int)(W:Wy lv C w)(m9:∀l∈C,l.Ok)(m8:GO nw):
 Calls Tryz.prog 4 #[lv,.int .i64 nw] w fun e M=>e=.returned (.bool true)∧Ab (fun _=>False) w M:=by
 have HL:=Aa W;have HH:=Aa h;have k6:=Aa m9;obtain ⟨la,lc,rfl,r0,r4⟩:=W;clear h m9 r4;obtain ⟨R,i2⟩:∃n,C.length=n:=⟨_,rfl⟩;have d7:=Aa i2;rw [i2] at r0⊢;clear i2;obtain ⟨X,g7⟩:∃n,AK nw 8=n:=⟨_,rfl⟩;have s6:X<8:=by rw [←g7];exact Bz _ _ (by omega)
 have p6:=Aa g7;clear g7;obtain ⟨r,l8⟩:∃n,X % 2=n:=⟨_,rfl⟩;obtain ⟨h1,m3⟩:∃n,X / 2=n:=⟨_,rfl⟩;obtain ⟨A,l9⟩:∃n,h1 % 2=n:=⟨_,rfl⟩;obtain ⟨y,m0⟩:∃n,X / 4=n:=⟨_,rfl⟩;have q0:Int.tmod (X:Int) 2=(r:Int):=by rw [←l8];exact Int.ofNat_tmod X 2
 have q1:Int.tdiv (X:Int) 2=(h1:Int):=by rw [←m3];exact Int.ofNat_tdiv X 2
 have q2:Int.tmod (h1:Int) 2=(A:Int):=by rw [←l9];exact Int.ofNat_tmod h1 2
 have q3:Int.tdiv (X:Int) 4=(y:Int):=by rw [←m0];exact Int.ofNat_tdiv X 4
 have b0:r≤1:=by omega
 have b1:h1≤3:=by omega
 have b2:A≤1:=by omega
 have b3:y≤1:=by omega
 clear l8 m3 l9 m0;obtain ⟨i0,q6,r5,r6,r7⟩:=info_parts Tryz.infoLn;go_enter Tryz.func4,Tryz.ntmps4;go_wp2_with (first | (go_at_call 13;refine (Dr nw 8 m8.1 m8.2 (by omega) (by omega) _).mono ?_;rw [p6.o];rintro e M ⟨rfl,hw⟩;have hw:=hw.symm;subst hw));go_loopw [5,7] (fun fe i wr=>∃(k:Nat),k≤R∧k≤60∧i=.int .i64 k∧dN (eP w.heap.size wr fe ((C.take k).filter (gP r A y)))∧dN (Ab (fun _=>False) w wr)) (fun _ i _=>60-(intOf i).toNat)
 case atStart=>exact ⟨0,by omega,by omega,rfl,eP.nil _ _,Ab.refl _ _⟩
 case round=>
  obtain ⟨k,m5,m6,rfl,HT,B⟩:=hrel;have j2:((C.take k).filter (gP r A y)).length≤60:=Nat.le_trans (List.length_filter_le _ _) (by rw [List.length_take];omega);obtain ⟨va,vc,rfl,o2⟩:=HT.o.form;obtain ⟨na,h7⟩:∃n,((C.take k).filter (gP r A y)).length=n:=⟨_,rfl⟩;have b5:=Aa h7;rw [h7] at o2 j2 HT⊢;clear h7;go_upto_region 4 with fail;go_cut [30] (fun v wx=>v=.bool (decide (k<R∧k<60))∧dN (wx=wr))
  case first=>
   by_cases h1:k<R
   ·have t1:decide ((k:Int)<(R:Int))=true:=by simp;omega
    by_cases h2:k<60
    ·have t2:decide ((k:Int)<60)=true:=by simp;omega
     have t3:decide (k<R∧k<60)=true:=decide_eq_true ⟨h1,h2⟩;go_wp2_with fail;go_meet
     case rel=>exact ⟨by rw [t3],rfl⟩
    ·have t2:decide ((k:Int)<60)=false:=by simp;omega
     have t3:decide (k<R∧k<60)=false:=decide_eq_false fun q=>h2 q.2
     go_wp2_with fail;go_meet
     case rel=>exact ⟨by rw [t3],rfl⟩
   ·have t1:decide ((k:Int)<(R:Int))=false:=by simp;omega
    have t3:decide (k<R∧k<60)=false:=decide_eq_false fun q=>h1 q.1
    go_wp2_with fail;go_meet
    case rel=>exact ⟨by rw [t3],rfl⟩
  case rest=>
  obtain ⟨rfl,a8⟩:=hcut;have c8:=a8.o.symm;subst c8;clear a8;by_cases a4:k<R∧k<60
  ·rw [show decide (k<R∧k<60)=true from decide_eq_true a4];have D:k<C.length:=by rw [d7.o];exact a4.1
   obtain ⟨g,s9,rfl,F,lg⟩:=Wy.get (HL.o.quiet B.o) D;have d0:=F.c0 k D;have d1:=F.c1 k D;have d2:=F.c2 k D;have d3:=F.c3 k D;have d4:=F.c4 k D;have d5:=F.c5 k D;have U:dN (C.take (k+1)=C.take k++[C[k]]):=List.take_succ_eq_append_getElem D;have j9:=Aa (k6.o _ (List.getElem_mem D));obtain ⟨Q,c5⟩:∃x,C[k]=x:=⟨_,rfl⟩;rw [c5] at d0 d1 d2 d3 d4 d5 U j9;have s7:=a4.1;have b4:=B.o.size;clear F c5 D;go_wp2_with fail;refine (PW Q j9.o wr).mono ?_;rintro e w1 ⟨mv,rfl,m7,o1⟩;obtain ⟨ma,ml,mc,rfl⟩:=Ad m7;obtain ⟨p0,i4⟩:∃p,AK Q.a0 4=p:=⟨_,rfl⟩;obtain ⟨m,i5⟩:∃p,AK Q.a1 10=p:=⟨_,rfl⟩;obtain ⟨p2,n4⟩:∃p,AK Q.a2 4=p:=⟨_,rfl⟩;obtain ⟨p3,n5⟩:∃p,AK Q.a3 4=p:=⟨_,rfl⟩;obtain ⟨p4,n6⟩:∃p,AK Q.a4 4=p:=⟨_,rfl⟩;have k8:=Aa i5;unfold Z8;rw [i4,i5,n4,n5,n6];clear i4 i5 n4 n5 n6 m7;have T1:=Aa (HT.o.quiet o1);have O1:=Aa (B.o.trans o1);clear HT B d0 d1 d2 d3 d4 d5 lg o1 b4;have E:=Aa (Ak.new w1 #[.int .i64 p0,.int .i64 m,.int .i64 p2,.int .i64 p3,.int .i64 p4,.int .i64 p4,.int .i64 0,.slice ma ml mc] 39);have A1:=Aa ((Ab.refl (fun _=>False) w1).alloc (.cells #[.int .i64 p0,.int .i64 m,.int .i64 p2,.int .i64 p3,.int .i64 p4,.int .i64 p4,.int .i64 0,.slice ma ml mc] 39));go_upto_region 7 with fail;generalize w1.alloc (.cells #[.int .i64 p0,.int .i64 m,.int .i64 p2,.int .i64 p3,.int .i64 p4,.int .i64 p4,.int .i64 0,.slice ma ml mc] 39)=w2 at E A1⊢;generalize w1.heap.size=sb at E⊢;have T2:=Aa (T1.o.quiet A1.o);have Z:=Aa (O1.o.trans A1.o);have L2:=Aa (HL.o.quiet Z.o);have m1:=E.o.cell 1;have lb:=Ae E.o;simp only [dM,dJ,dK] at m1;clear T1 O1 A1;go_cut [9] (fun v wx=>v=.bool (decide (gK m r A y))∧dN (wx=w2))
   case first=>
    by_cases e0:m=0
    ·by_cases f0:r=1
     ·have s0:((r:Int)==1)=true:=by simp;omega
      have t0:((m:Int)==0)=true:=by simp;omega
      have t1:((m:Int)==1)=false:=by simp;omega
      have t2:((m:Int)==2)=false:=by simp;omega
      have H:decide (gK m r A y)=true:=decide_eq_true (.inl ⟨e0,f0⟩);go_wp2_with fail;go_meet
      case rel=>exact ⟨by rw [H],rfl⟩
     ·have s0:((r:Int)==1)=false:=by simp;omega
      have t0:((m:Int)==0)=true:=by simp;omega
      have t1:((m:Int)==1)=false:=by simp;omega
      have t2:((m:Int)==2)=false:=by simp;omega
      have H:decide (gK m r A y)=false:=decide_eq_false (by unfold gK;omega);go_wp2_with fail;go_meet
      case rel=>exact ⟨by rw [H],rfl⟩
    by_cases V:m=1
    ·by_cases f1:A=1
     ·have Y:((A:Int)==1)=true:=by simp;omega
      have t0:((m:Int)==0)=false:=by simp;omega
      have t1:((m:Int)==1)=true:=by simp;omega
      have t2:((m:Int)==2)=false:=by simp;omega
      have H:decide (gK m r A y)=true:=decide_eq_true (.inr (.inl ⟨V,f1⟩));go_wp2_with fail;go_meet
      case rel=>exact ⟨by rw [H],rfl⟩
     ·have Y:((A:Int)==1)=false:=by simp;omega
      have t0:((m:Int)==0)=false:=by simp;omega
      have t1:((m:Int)==1)=true:=by simp;omega
      have t2:((m:Int)==2)=false:=by simp;omega
      have H:decide (gK m r A y)=false:=decide_eq_false (by unfold gK;omega);go_wp2_with fail;go_meet
      case rel=>exact ⟨by rw [H],rfl⟩
    by_cases e2:m=2
    ·by_cases f2:y=1
     ·have s2:((y:Int)==1)=true:=by simp;omega
      have t0:((m:Int)==0)=false:=by simp;omega
      have t1:((m:Int)==1)=false:=by simp;omega
      have t2:((m:Int)==2)=true:=by simp;omega
      have H:decide (gK m r A y)=true:=decide_eq_true (.inr (.inr ⟨e2,f2⟩));go_wp2_with fail;go_meet
      case rel=>exact ⟨by rw [H],rfl⟩
     ·have s2:((y:Int)==1)=false:=by simp;omega
      have t0:((m:Int)==0)=false:=by simp;omega
      have t1:((m:Int)==1)=false:=by simp;omega
      have t2:((m:Int)==2)=true:=by simp;omega
      have H:decide (gK m r A y)=false:=decide_eq_false (by unfold gK;omega);go_wp2_with fail;go_meet
      case rel=>exact ⟨by rw [H],rfl⟩
    have t0:((m:Int)==0)=false:=by simp;omega
    have t1:((m:Int)==1)=false:=by simp;omega
    have t2:((m:Int)==2)=false:=by simp;omega
    have H:decide (gK m r A y)=false:=decide_eq_false (by unfold gK;omega);go_wp2_with fail;go_meet
    case rel=>exact ⟨by rw [H],rfl⟩
   case rest=>
   obtain ⟨rfl,a8⟩:=hcut;have c8:=a8.o.symm;subst c8;clear a8 m1 lb E;by_cases b6:gK m r A y
   ·rw [show decide (gK m r A y)=true from decide_eq_true b6];have hA:gP r A y Q=false:=by unfold gP;rw [k8.o,decide_eq_true b6];rfl
    have j7:dN ((C.take (k+1)).filter (gP r A y)=(C.take k).filter (gP r A y)):=by show _=_;rw [U.o,List.filter_append,List.filter_cons,hA];simp
    have T3:dN (eP w.heap.size w2 (.slice va na vc) ((C.take (k+1)).filter (gP r A y))):=by show eP _ _ _ _;rw [j7.o];exact T2.o
    clear hA b6 T2 j7 U L2;go_wp2_with fail;go_roundw
    case rel=>exact ⟨k+1,by omega,by omega,by go_num,T3,Z⟩
    case measure=>simp [intOf];omega
   ·rw [show decide (gK m r A y)=false from decide_eq_false b6];have hA:gP r A y Q=true:=by unfold gP;rw [k8.o,decide_eq_false b6];rfl
    have j6:dN ((C.take (k+1)).filter (gP r A y)=(C.take k).filter (gP r A y)++[Q]):=by show _=_;rw [U.o,List.filter_append,List.filter_cons,hA];rfl
    have D:k<C.length:=by rw [d7.o];exact a4.1
    obtain ⟨g',t4,m2,F,lg⟩:=Wy.get L2.o D;simp only [Option.some.injEq,Addr.mk.injEq,and_true] at m2;obtain ⟨rfl,rfl⟩:=m2;have d0:=F.c0 k D;have d1:=F.c1 k D;have d2:=F.c2 k D;have d3:=F.c3 k D;have d4:=F.c4 k D;have d5:=F.c5 k D;have c5:C[k]=Q:=by have e:=U.o;rw [List.take_succ_eq_append_getElem D] at e;simpa using List.append_cancel_left e
    rw [c5] at d0 d1 d2 d3 d4 d5;have b4:=Z.o.size;clear F c5 D hA b6 U;have K:=T2.o;unfold eP at K;rw [b5.o] at K;have a7:=Aa K;clear K;go_wp2_with (at_builtin;refine wpList_append_own _ rfl _ _ 22 rfl w.heap.size 44 i0 (.agg fI) 6 48 Tryz.underlying22 q6 r5 r6 r7 rfl (by decide) _ _ _ rfl (a7.o.alloc _) ⟨w2.heap.size,0,none⟩ 1 1 (eY Q) rfl rfl (A5 rfl _ _) (eZ _) (by unfold maxLen;omega) (by omega) (by simp;omega) ?_;intro v' I c6 b8 i1);have R1:dN (eP w.heap.size I v' ((C.take (k+1)).filter (gP r A y))):=by show eP _ _ _ _;rw [j6.o];refine eP.snoc ?_;rw [b5.o];exact c6
    have O3:=Aa (eR T2.o Z.o ((Ab.refl _ _).alloc _) b8);clear T2 Z L2 c6 b8 i1 d0 d1 d2 d3 d4 d5 a7 j6;go_wp2_with fail;go_roundw
    case rel=>exact ⟨k+1,by omega,by omega,by go_num,R1,O3⟩
    case measure=>simp [intOf];omega
  ·have l3:=Aa (gV (α:=Ln) (l:=C) (k:=k) (by rw [d7.o];exact m5) m6 (by rw [d7.o];exact a4));rw [show decide (k<R∧k<60)=false from decide_eq_false a4];rw [l3.o] at HT b5;clear l3 a4 m5 m6;have f5:dN (∀l,l∈(C.take 60).filter (gP r A y)→gP r A y l=true):=fun l W=>(List.mem_filter.1 W).2
   have f3:dN (∀l∈(C.take 60).filter (gP r A y),l.Ok):=fun l W=>k6.o l (List.mem_of_mem_take (List.mem_filter.1 W).1)
   obtain ⟨fl,d9⟩:∃x,(C.take 60).filter (gP r A y)=x:=⟨_,rfl⟩;rw [d9] at HT b5 f5 f3;have j8:=Aa HT.o.at;clear d9;go_wp2_with fail;refine (Qm _ fl wr j8.o f3.o).mono ?_;rintro e w1 ⟨⟨s,sv,rfl,hs,_,c0,_,n7⟩,o1⟩;have g8:=Zu hs (by omega);have e5:=Xk fl;obtain ⟨sa,sl,sc,rfl⟩:∃a l c,sv=.slice a l c:=by obtain ⟨a,c,e⟩:=n7.form;exact ⟨a,_,c,e⟩
   rw [RJ];obtain ⟨ss,j1⟩:∃x,IC fl=x:=⟨_,rfl⟩;have es:ss=fl.map Qt:=by rw [←j1];unfold IC;rw [List.take_of_length_le (by rw [b5.o];exact j2)]
   rw [j1] at g8 e5⊢;have h0:DS (Cd ss)≤240:=Nat.le_trans List.countP_le_length e5;have h8:DT (Cd ss)≤240:=Nat.le_trans List.countP_le_length e5;have f6:=Aa g8;have a6:=Aa (gT f5.o es);have f7:dN (r=1→DS (Cd ss)=0):=fun q=>gW (a6.o.1 q)
   obtain ⟨pl,i6⟩:∃x,DS (Cd ss)=x:=⟨_,rfl⟩;obtain ⟨ca,g0⟩:∃x,DT (Cd ss)=x:=⟨_,rfl⟩;have k9:=Aa i6;have j5:=Aa g0;rw [i6] at h0 f7⊢;rw [g0] at h8⊢;have O1:=Aa (B.o.trans o1);clear j1 n7 o1 g8 hs i6 g0 c0 e5 es B HT j8 f5 f3 b5 o2 j2;have E:=Aa (Ak.new w1 #[.string s,.slice sa sl sc,.int .i64 pl,.int .i64 ca] 25);have A1:=Aa ((Ab.refl (fun _=>False) w1).alloc (.cells #[.string s,.slice sa sl sc,.int .i64 pl,.int .i64 ca] 25));go_upto_region 11 with fail;generalize w1.alloc (.cells #[.string s,.slice sa sl sc,.int .i64 pl,.int .i64 ca] 25)=w2 at E A1⊢;have Z:=Aa (O1.o.trans A1.o);generalize w1.heap.size=s3 at E⊢;clear O1 A1;have p0:=E.o.cell 0;have m:=E.o.cell 1;have p2:=E.o.cell 2;have p3:=E.o.cell 3;have lb:=Ae E.o;simp only [dM,dJ,dK] at p0 m p2 p3;go_wp2_with fail;have d6:=Aa (My B0 o7 w2 (HH.o.go Z.o) s ss f6.o (.slice sa sl sc) ⟨_,_,_,rfl⟩ (by rw [k9.o];exact h0) (by rw [j5.o];exact h8));rw [k9.o,j5.o] at d6;unfold Vs at d6;refine d6.o.mono ?_;rintro e I ⟨⟨P,mn,rp,vs,fv,ev,T,e6,r2,hy,rfl,e8,e9⟩,o3⟩;have d8:=e8.size;have i3:=all_oneCell_toArray e8.one;change (Fv vs fv ev).all _=true at i3;obtain ⟨cs,g1⟩:∃x,Fv vs fv ev=x:=⟨_,rfl⟩;rw [g1] at d8 i3⊢;have f4:=Aa g1;have l1:=Aa e8;have k4:dN ((∀l,l∈T.V++T.F→∀t,t∈l→∃b,eN (r=1) (A=1) (y=1) t b)∧(y=1→∀l,l∈T.E→l=[])):=by
    have k1:∀c x,(least P).I c x→∃b,eN (r=1) (A=1) (y=1) (EF P x) b:=fun c x hx=>eI e6 hy hx (eM e6 f6.o.ok a6.o.1 a6.o.2.1 a6.o.2.2 hx)
    refine ⟨fun l W t ht=>?_,fun z l W=>?_⟩
    ·rcases List.mem_append.1 W with q | q
     ·obtain ⟨i,hi,rfl⟩:=List.mem_iff_getElem.1 q;obtain ⟨x,hx,rfl⟩:=(e9.v i hi).aY.1 ht;exact k1 _ x hx
     ·obtain ⟨i,hi,rfl⟩:=List.mem_iff_getElem.1 q;obtain ⟨x,hx,rfl⟩:=(e9.f i hi).aY.1 ht;exact k1 _ x hx
    ·obtain ⟨i,hi,rfl⟩:=List.mem_iff_getElem.1 W;refine List.eq_nil_iff_forall_not_mem.2 fun t ht=>?_
     obtain ⟨g,hg,_⟩:=(e9.e i hi).aY.1 ht;exact eK e6 f6.o.ok a6.o.1 a6.o.2.1 a6.o.2.2 hg z
   have O3:=Aa (Z.o.trans o3);have B5:=Aa (E.o.O o3 (fun q=>q));clear d6 e6 r2 hy e9 e8 o3 E Z p0 m p2 p3 lb g1 a6;have BN:=Aa (Ak.new I IK 33);have A3:=Aa ((Ab.refl (fun _=>False) I).alloc (.cells IK 33));go_upto_region 12 with (refine wpList_store_mid rfl 33 (.tmp 12) (.tmp 82) rfl I.heap.size 0 cs rfl rfl (IS BN.o (by rw [d8];rfl)) (by rw [Tryz.infoSets,d8]) i3 ?_);have b9:=C9 I.heap.size cs.toList 0 (I.alloc (.cells IK 33));have h4:Ab (fun _=>False) I ((I.alloc (.cells IK 33)).setCells I.heap.size 0 cs.toList):=by refine ⟨b9.os.trans A3.o.os,b9.tape.trans A3.o.tape,b9.output.trans A3.o.output,Nat.le_trans A3.o.size b9.size,fun k hk _=>?_⟩;rw [b9.block k (Nat.lt_of_lt_of_le hk A3.o.size) (by omega)];exact A3.o.block k hk (fun q=>q)
   have N5:=Aa (IR (cs:=cs) BN.o (by rw [d8];rfl));have B6:=Aa (B5.o.O h4 (fun q=>q));have O6:=Aa (O3.o.trans h4);have a3:=Aa (l1.o.i9 h4);clear BN A3 b9 h4 B5 O3 l1;generalize (I.alloc (.cells IK 33)).setCells I.heap.size 0 cs.toList=N at N5 B6 O6 a3⊢;generalize I.heap.size=l6 at N5⊢;obtain ⟨j0,m4,o4,o5,o6⟩:=info_parts Tryz.infoSl;go_wp2_with fail;go_loopw [14,15] (fun sv f wr=>∃(f':Nat) (S:List Value),f'≤4∧f=.int .i64 f'∧dN (gM N.heap.size wr sv S (T.V.take (f'*4)))∧dN (Ab (fun _=>False) N wr)) (fun _ f _=>4-(intOf f).toNat)
   case atStart=>exact ⟨0,[],by omega,rfl,gM.nil _ _,Ab.refl _ _⟩
   case round=>
    obtain ⟨f,S,hf,rfl,J,B⟩:=hrel;by_cases q5:f<4
    ·have tf:decide ((f:Int)<4)=true:=by simp;omega
     go_wp2_with fail;go_loopw [14,16] (fun sv v wr=>∃(v':Nat) (S:List Value),v'≤4∧v=.int .i64 v'∧dN (gM N.heap.size wr sv S (T.V.take (f*4+v')))∧dN (Ab (fun _=>False) N wr)) (fun _ v _=>4-(intOf v).toNat)
     case atStart=>exact ⟨0,S,by omega,rfl,J,B⟩
     case round=>
      clear J B S;obtain ⟨v,S,hv,rfl,J,B⟩:=hrel;have a9:T.V.length=16:=a3.o.t16;have c3:dN ((T.V.take (f*4+v)).length=f*4+v):=by show _=_;rw [List.length_take,a9];omega
      clear a9;obtain ⟨ta,tc,c7⟩:=J.o.form;rw [c3.o] at c7;subst c7;by_cases r3:v<4
      ·have tv:decide ((v:Int)<4)=true:=by simp;omega
       obtain ⟨xa,xc,V,Y⟩:=(a3.o.i9 B.o).var q5 r3;have q9:=(N5.o.O B.o (fun q=>q)).cell (f*4+v);rw [←f4.o,V] at q9;have lb:=Ae (N5.o.O B.o (fun q=>q));have g4:f*4+v<T.V.length:=by rw [a3.o.t16];omega
       have U:dN (T.V.take (f*4+v+1)=T.V.take (f*4+v)++[FD T f v]):=by show _=_;rw [List.take_succ_eq_append_getElem g4];unfold FD;rw [List.getElem?_eq_getElem g4];rfl
       obtain ⟨L,hL⟩:∃x,FD T f v=x:=⟨_,rfl⟩;rw [hL] at q9 Y U;have S1:=Aa Y;have b4:=B.o.size;have K:=J.o.own;rw [c3.o] at K;have a7:=Aa K;clear Y V hL g4 K;go_wp2_with (at_builtin;refine wpList_append_own _ rfl _ _ 31 rfl N.heap.size 28 j0 (.slice none 0 0) 1 24 Tryz.underlying31 m4 o4 o5 o6 rfl (by decide) _ _ _ rfl (a7.o.alloc _) ⟨wr.heap.size,0,none⟩ 1 1 [.slice xa L.length xc] rfl rfl (A5 rfl _ _) (fun x hx=>by simp at hx;subst hx;rfl) (by unfold maxLen;omega) (by omega) (by simp;omega) ?_;intro v' w8 c6 b8 i1);have R2:dN (gM N.heap.size w8 v' (S++[.slice xa L.length xc]) (T.V.take (f*4+(v+1)))):=by
        show gM _ _ _ _ _;rw [show f*4+(v+1)=f*4+v+1 by omega,U.o];refine J.o.app ((Ab.refl _ _).alloc _) b8 rfl (fun i h h'=>?_) (by rw [c3.o];exact c6);have:i=0:=by simpa using h
        subst this;exact S1.o
       have O8:dN (Ab (fun _=>False) N w8):=Ab.grown (B.o.alloc _) b8 (fun k hk=>.inr (J.o.lt k hk));clear J B c6 b8 i1 a7 U S1 q9 lb b4 c3;go_wp2_with fail;go_roundw
       case rel=>exact ⟨v+1,_,by omega,by go_num,R2,O8⟩
       case measure=>simp [intOf];omega
      ·have tv:decide ((v:Int)<4)=false:=by simp;omega
       have R2:dN (gM N.heap.size wr (.slice ta (f*4+v) tc) S (T.V.take ((f+1)*4))):=by have:=J.o;rw [show f*4+v=(f+1)*4 by omega] at this⊢;exact this
       clear J c3;go_wp2_with fail;go_roundw
       case rel=>exact ⟨f+1,S,by omega,by go_num,R2,B⟩
       case measure=>simp [intOf];omega
    ·have tf:decide ((f:Int)<4)=false:=by simp;omega
     have a9:T.V.length=16:=a3.o.t16;have hq:=J.o;rw [List.take_of_length_le (by omega)] at hq;have c4:=Aa hq;clear J hq;obtain ⟨ta,tc,c7⟩:=c4.o.form;rw [a9] at c7;subst c7;obtain ⟨fa,fc,f1,f2⟩:=(a3.o.i9 B.o).fld;have f8:=(N5.o.O B.o (fun q=>q)).cell 16;rw [←f4.o,f1] at f8;have lb:=Ae (N5.o.O B.o (fun q=>q));obtain ⟨c9,o0,i7,i9⟩:=f2;have d9:=a3.o.fl;obtain ⟨nF,e7⟩:∃n,T.F.length=n:=⟨_,rfl⟩;have k2:=Aa e7;have l2:dN (nF=0∨∃ad,fa=some ad∧∀j u,c9[j]? =some u→wr.cell? (ad.add j)=some u):=by
      rw [←e7];rcases Nat.eq_zero_or_pos T.F.length with q | q
      ·exact .inl q
      ·obtain ⟨g,rfl⟩:=AA i7 q;exact .inr ⟨⟨g,0,none⟩,rfl,i7.cells (g:=g) rfl⟩
     have k7:dN (∀u∈c9,u.oneCell'=true):=fun u hu=>by obtain ⟨j,hj,rfl⟩:=List.mem_iff_getElem.1 hu;obtain ⟨a,b,c,e⟩:=Ad (i9 j hj (by omega));rw [e];rfl
     rw [e7] at f8 d9;have l4:dN (c9.length=nF*1):=by show _=_;omega
     have l0:=Aa i9;have l5:=Aa o0;have b4:=B.o.size;have K:=c4.o.own;rw [a9] at K;have a7:=Aa K;clear o0 i7 i9 f1 e7 K;go_upto_region 23 with (at_builtin;refine gL _ rfl (.tmp 103) (.tmp 105) 31 rfl N.heap.size 28 j0 (.slice none 0 0) 1 24 Tryz.underlying31 m4 o4 o5 o6 rfl (by decide) _ _ _ rfl a7.o fa nF fc rfl c9 l4.o l2.o k7.o (by unfold maxLen;omega) (by omega) b4 ?_;intro r9 w8 n3 g3);have R8:dN (gM N.heap.size w8 r9 (S++c9) (T.V++T.F)):=c4.o.app (Ab.refl _ _) g3 l5.o l0.o (by rw [a9,k2.o];exact n3);have O8:dN (Ab (fun _=>False) N w8):=Ab.grown B.o g3 (fun k hk=>.inr (c4.o.lt k hk));obtain ⟨LS,f9⟩:∃x,T.V++T.F=x:=⟨_,rfl⟩;have k5:=Aa k4.o.1;rw [f9] at R8 k5;have h6:LS.length=16+nF:=by rw [←f9,List.length_append,a9,k2.o]
     have p7:=Aa h6;obtain ⟨t5,t6,n8⟩:=R8.o.form;rw [h6] at n8;subst n8;clear n3 g3 c4 B l2 k7 l4 l0 l5 a7 f8 lb f9 h6 b4;go_wp2_with fail;go_loopw [17] (fun i wr=>∃(i':Nat),i'≤16+nF∧i=.int .i64 i'∧dN (Ab (fun _=>False) w8 wr)) (fun i _=>16+nF-(intOf i).toNat)
     case atStart=>exact ⟨0,by omega,rfl,Ab.refl _ _⟩
     case round=>
      obtain ⟨i,hi,rfl,B⟩:=hrel;by_cases a4:i<16+nF
      ·have ti:decide ((i:Int)<16+(nF:Int))=true:=by simp;omega
       have g5:i<LS.length:=by rw [p7.o];exact a4
       obtain ⟨g,b,d,V,lg,c1,Y⟩:=(R8.o.quiet B.o).get g5;subst V;have k0:=Aa (k5.o LS[i] (List.getElem_mem g5));obtain ⟨L,hL⟩:∃x,LS[i]=x:=⟨_,rfl⟩;rw [hL] at c1 Y k0;have S1:=Aa Y;obtain ⟨nL,h5⟩:∃x,L.length=x:=⟨_,rfl⟩;have k3:=Aa h5;have r1:=Qb Y;rw [h5] at c1 S1 r1;clear Y hL h5 g5;have j4:dN (∀M,Ab (fun _=>False) wr M→M.cell? ⟨g,i,none⟩=some (.slice b nL d)∧g<M.heap.size):=fun M o=>⟨(World.cell?_of_block (o.block g lg (fun q=>q))).trans c1,Nat.lt_of_lt_of_le lg o.size⟩
       go_wp2_with fail;go_loopw [18] (fun k j3=>∃(O:Nat),O≤nL∧k=.int .i64 O∧dN (Ab (fun _=>False) wr j3)) (fun k _=>nL-(intOf k).toNat)
       case atStart=>exact ⟨0,by omega,rfl,Ab.refl _ _⟩
       case round=>
        obtain ⟨O,s5,rfl,G⟩:=hrel;clear c1 lg;obtain ⟨c1,lg⟩:=j4.o wr G.o;by_cases q8:O<nL
        ·have tk:decide ((O:Int)<(nL:Int))=true:=by simp;omega
         have g6:O<L.length:=by rw [k3.o];exact q8
         have s2:=Ac S1.o G.o (fun _ _ q=>q);obtain ⟨g2,e2⟩:=AA s2 (by omega);subst e2;have r8:=(World.ownsRow.lt s2 g2 rfl).2;have c2:=Gv (l:=L) (c:=d) (by rw [k3.o];exact s2) O g6;obtain ⟨p8,h9⟩:=k0.o L[O] (List.getElem_mem g6);obtain ⟨t,n9⟩:∃x,L[O]=x:=⟨_,rfl⟩;rw [n9] at c2 h9;have a5:=Aa h9;clear s2 g6 n9 h9;obtain ⟨c0,b7⟩:=Array.getElem?_eq_some_iff.1 a5.o.e;have c0:0<t.size:=c0;have b7:t[0]=p8:=b7;have q4:t.toList.isEmpty=false:=by
          rcases hh:t.toList with _ | ⟨x,l⟩
          ·rw [ByteArray.toList_eq] at hh;have h3:=congrArg List.length hh;rw [Array.length_toList] at h3;have h4:0<t.data.size:=c0;simp only [List.length_nil] at h3;omega
          ·rfl
         have n0:r=0∨t[0].toNat<48∨57<t[0].toNat:=by
          by_cases q:r=1
          ·have:=a5.o.d q;rw [b7];omega
          ·omega
         have n1:A=0∨t[0].toNat<97:=by
          by_cases q:A=1
          ·have:=a5.o.u q;rw [b7];omega
          ·omega
         have n2:y=0∨t[0].toNat≠64:=by
          by_cases q:y=1
          ·have:=a5.o.f q;rw [b7];exact .inr this
          ·omega
         clear b7 a5;go_upto_region 30 with fail;go_cut [166] (fun v wx=>v=.bool false∧dN (wx=wr))
         case first=>
          go_wp2_with fail;all_goals
           go_meet
           case rel=>exact ⟨by first | rfl | (simp;omega),rfl⟩
         case rest=>
         obtain ⟨rfl,a8⟩:=hcut;have c8:=a8.o.symm;subst c8;clear a8 n0 n1 n2 q4 c0 c1 c2 lg r8;go_wp2_with fail;go_roundw
         case rel=>exact ⟨O+1,by omega,by go_num,G⟩
         case measure=>simp [intOf];omega
        ·have tk:decide ((O:Int)<(nL:Int))=false:=by simp;omega
         have O9:=Aa (B.o.trans G.o);clear B G j4;go_wp2_with fail;go_roundw
         case rel=>exact ⟨i+1,by omega,by go_num,O9⟩
         case measure=>simp [intOf];omega
      ·have ti:decide ((i:Int)<16+(nF:Int))=false:=by simp;omega
       have O9:=Aa (O8.o.trans B.o);have P9:=Aa (B6.o.O O9.o (fun q=>q));have p5:=Aa k4.o.2;obtain ⟨ea,ec,V,e2⟩:=(a3.o.i9 O9.o).bN;have p9:=a3.o.el;obtain ⟨nE,g9⟩:∃n,T.E.length=n:=⟨_,rfl⟩;rw [g9] at p9 V e2;have a5:=Aa g9;have o9:=Aa e2;have o8:dN (∀M,Ab (fun _=>False) N M→M.cell? ⟨l6,17,none⟩=some (.slice ea nE ec)∧l6<M.heap.size):=fun M o=>by have q:=(N5.o.O o (fun q=>q)).cell 17;rw [←f4.o,V] at q;exact ⟨q,Ae (N5.o.O o (fun q=>q))⟩
       clear g9 V e2 B;go_wp2_with fail;go_loopw [20] (fun j j3=>∃(j':Nat),j'≤nE∧j=.int .i64 j'∧dN (Ab (fun _=>False) wr j3)) (fun j _=>nE-(intOf j).toNat)
       case atStart=>exact ⟨0,by omega,rfl,Ab.refl _ _⟩
       case round=>
        obtain ⟨j,hj,rfl,G⟩:=hrel;obtain ⟨s4,s8⟩:=o8.o wr (O9.o.trans G.o);by_cases q7:j<nE
        ·have tj:decide ((j:Int)<(nE:Int))=true:=by simp;omega
         have e4:j<T.E.length:=by rw [a5.o];exact q7
         have i8:Dj wr (.slice ea T.E.length ec) T.E:=by rw [a5.o];exact o9.o.i9 G.o
         obtain ⟨g,b,d,e3,y1,y2,y3⟩:=i8.get e4;subst e3;by_cases hz:y=1
         ·have tz:((y:Int)==1)=true:=by simp [hz]
          have l7:T.E[j]=[]:=p5.o hz _ (List.getElem_mem e4);rw [l7] at y1;simp only [List.length_nil] at y1;clear l7 y3 i8 e4;go_wp2_with fail;go_roundw
          case rel=>exact ⟨j+1,by omega,by go_num,G⟩
          case measure=>simp [intOf];omega
         ·have tz:((y:Int)==1)=false:=by simp;omega
          clear y3 i8 e4 y1 y2;go_wp2_with fail;go_roundw
          case rel=>exact ⟨j+1,by omega,by go_num,G⟩
          case measure=>simp [intOf];omega
        ·have tj:decide ((j:Int)<(nE:Int))=false:=by simp;omega
         have P2:=(P9.o.O G.o (fun q=>q)).cell 2;have lp:=Ae (P9.o.O G.o (fun q=>q));simp only [dM,dJ,dK] at P2;by_cases hz:r=1
         ·have tz:((r:Int)==0)=false:=by simp;omega
          have i4:((pl:Int)==0)=true:=by simp;exact f7.o hz
          go_wp2_with fail;go_ret;exact ⟨by simp [f7.o hz],O6.o.trans (O9.o.trans G.o)⟩
         ·have tz:((r:Int)==0)=true:=by simp;omega
          go_wp2_with fail;go_ret;exact ⟨rfl,O6.o.trans (O9.o.trans G.o)⟩
end Go.Proofs.YtegmjgjkcdbmkaaGreatDoor
