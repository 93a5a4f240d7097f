/- One of the texts of the proof: ArE ArF ArG ArH ArI ArJ ArK ArL ArM ArN ArO. -/
import Derived.Test.YtegmjgjkcdbmkaaGreatDoorS33
import Derived.Test.YtegmjgjkcdbmkaaGreatDoorS24
set_option maxRecDepth 100000
set_option maxHeartbeats 4000000
namespace Go.Proofs.YtegmjgjkcdbmkaaGreatDoor
open Go.RowKit Go.Maps
abbrev ZB:Array Value:=#[.slice none 0 0,.int .i64 0,.int .i64 0,.int .i64 0,.map none,.map none,.map none]
theorem Dn.sets{P r m i a j f o v w l}(h:Dn P r m a j f o v w)(b:v.s.le (least P))(d:(least P).le v.s)(n:Bh 0 w i (P.map Cg))(p:A9 l (FG P v.s a) w):SetsAt P (least P) i a j f (o.om 0) (o.om 1) l w:=
 ⟨n,⟨o.bk 0,h.r.mp 0 (by omega),fun c=>h.r.d0 c 0 (.inl rfl),fun c k q=>(h.r.st 0 c k q).iff fun x=>⟨fun q=>b.i c x (q.1 rfl),fun q=>⟨fun _=>d.i c x q,fun e=>absurd e (by decide),fun e=>absurd e (by decide),fun e=>absurd e (by decide),fun e=>absurd e (by decide)⟩⟩⟩,
   ⟨o.bk 1,h.r.mp 1 (by omega),h.r.d1,fun c k q=>(h.r.st 1 c k q).iff fun x=>⟨fun q=>b.e c x (q.2.1 rfl),fun q=>⟨fun e=>absurd e (by decide),fun _=>d.e c x q,fun e=>absurd e (by decide),fun e=>absurd e (by decide),fun e=>absurd e (by decide)⟩⟩⟩,
   p.iff fun g=>FG.iff b d a g,h.tb,h.tl⟩
theorem Bh.base{B b w c P}(h:Bh B w c P)(a:b≤B):Bh b w c P:=by obtain ⟨d,f,g,j⟩:=h;refine ⟨d,Ao f a,g,fun i q m=>?_⟩;obtain ⟨o,n,e,k,l⟩:=j i q m;exact ⟨o,n,e,Ao k a,l.base a⟩
theorem SetsAt.other{P S n r v i u l y w B b E t}(h:SetsAt P S n r v i u l y w)(k:Ab (fun k=>k=b) w B)(a:Ak b E t w)(K:t≠3∧t≠9∧t≠190∧t≠136)(J:0≠b):SetsAt P S n r v i u l y B:=by
 have f:∀{x m},A9 x m w→¬x=b:=by rintro x m d rfl;obtain ⟨H,c,e⟩:=d.isMap;unfold Ak at a;rw [a] at e;cases e
 have s:∀{x g},Bv Hb Ha x g w→¬x=b:=by rintro x g d rfl;obtain ⟨H,c,e⟩:=d.isMap;unfold Ak at a;rw [a] at e;cases e
 obtain ⟨C,o,F,z⟩:=h.pm;obtain ⟨D,p,G,A⟩:=h.em;refine ⟨h.pl.O k (fun j L N M I q=>?_),⟨C,o.O k (s o),F,fun c x q=>(z c x q).O k (f (z c x q))⟩,⟨D,p.O k (s p),G,fun c x q=>(A c x q).O k (f (A c x q))⟩,h.rs.O k (f h.rs),h.tb.O k J h.tl,rP h.tl k.size⟩;subst I;unfold Ak at a;rw [a] at q;cases q;exact K
theorem YK(hc:RZ)(P:List PFn)(fv:Value)(f g d:Nat)(w:World)(A:AnOk P g d)(hn:PnOk P)(O:Bh 0 w fv P)(hm:f<P.length)(tb:JL w)(tl:0<w.heap.size):
 Calls Tryz.prog 40 #[.agg #[fv,.int .i64 f,.int .i64 g,.int .i64 d]] w fun e r=>∃F pb eb B,e=.returned (.agg (D0 F f g d pb eb B))∧SetsAt P (least P) F f g d pb eb B r∧Ab (fun _=>False) w r:=by
 obtain ⟨m,j,rfl,b8⟩:=O.form (by omega);have L:dN (Ab (fun _=>False) w ((w.alloc (.cells #[.slice (some ⟨m,0,none⟩) P.length j,.int .i64 f,.int .i64 g,.int .i64 d] 89)).alloc (.cells ZB 95))):=((Ab.refl _ w).alloc _).alloc _;have u:dN (Ak w.heap.size #[.slice (some ⟨m,0,none⟩) P.length j,.int .i64 f,.int .i64 g,.int .i64 d] 89 ((w.alloc (.cells #[.slice (some ⟨m,0,none⟩) P.length j,.int .i64 f,.int .i64 g,.int .i64 d] 89)).alloc (.cells ZB 95))):=(Ak.new w _ _).alloc _;have I:dN (Ak (w.heap.size+1) ZB 95 ((w.alloc (.cells #[.slice (some ⟨m,0,none⟩) P.length j,.int .i64 f,.int .i64 g,.int .i64 d] 89)).alloc (.cells ZB 95))):=by have:=Ak.new (w.alloc (.cells #[.slice (some ⟨m,0,none⟩) P.length j,.int .i64 f,.int .i64 g,.int .i64 d] 89)) ZB 95;rw [show (w.alloc (.cells #[.slice (some ⟨m,0,none⟩) P.length j,.int .i64 f,.int .i64 g,.int .i64 d] 89)).heap.size=w.heap.size+1 by simp] at this;exact this
 have x:=Aa A;have HN:=Aa hn;have HP:=Aa O;have HT:=Aa tb;have HC:=Aa hc;clear A hn O tb hc;go_enter Tryz.func40,Tryz.ntmps40;go_upto_region 1 with fail;generalize World.alloc (World.alloc w _) _=E at*;obtain ⟨i,N⟩:∃b,b=w.heap.size+1:=⟨_,rfl⟩;rw [←N] at I;rw [←N];have b5:w.heap.size<i:=by omega
 clear N;generalize a2:w.heap.size=n at*;have J:=Aa a2;clear a2;have s2:i<E.heap.size:=Ae I.o;have c0:=u.o.cell 0;have c1:=u.o.cell 1;have c2:=u.o.cell 2;have c3:=u.o.cell 3;have l1:=Ae u.o;simp only [dM,dJ,dK] at c0 c1 c2 c3;have X:=Aa (HT.o.O L.o (fun q=>q) (by have:=J.o;omega));have b4:0<E.heap.size:=by omega
 go_wp2_with fail;refine (LB P (.slice (some ⟨m,0,none⟩) P.length j) f g d E x.o (HP.o.i9 L.o) X.o b4).mono ?_;rintro e w2 ⟨t,o,rfl,hE,a4,o2,a1⟩;have T:=Aa hE;have V:=Aa a4;have Z:=Aa o2;have W:=Aa a1;clear hE a4 o2 a1 c0 c1 c2 c3 X;go_wp2_with fail;refine (TE P t (.slice (some ⟨m,0,none⟩) P.length j) f g d o Sv.zero w2 x.o T.o W.o).mono ?_;rintro e w3 ⟨rfl,p,v',M,h1,h2⟩;have O3:dN (Ab (fun _=>False) E w3):=Z.o.thn M.on (fun k hk q=>by have:=V.o k q;omega);have K:=Aa M.e;have U:=Aa h1;have a7:=Aa h2;clear M h1 h2 T V W Z;go_wp2_with fail;refine (Ov P t (.slice (some ⟨m,0,none⟩) P.length j) f g d p v' w3 x.o K.o hm U.o).mono ?_;rintro e C ⟨B,rfl,_,s4,R⟩;have y:=Aa (K.o.i9 R);have D:=Aa (O3.o.trans R);have S4:=Aa s4;clear s4 R K O3;have Y:dN (∀s,Ab (fun _=>False) C s→s.cell? ⟨n,0,none⟩=some (.slice (some ⟨m,0,none⟩) P.length j)∧s.cell? ⟨n,1,none⟩=some (.int .i64 f)∧s.cell? ⟨n,2,none⟩=some (.int .i64 g)∧s.cell? ⟨n,3,none⟩=some (.int .i64 d)∧s.cell? ⟨t,4,none⟩=some (.map (some (p.om 0)))∧s.cell? ⟨t,5,none⟩=some (.map (some (p.om 1)))):=fun s h'=>by have G:=u.o.O (D.o.trans h') (fun q=>q);have hs:=y.o.r.s9.O h' (fun q=>q);have q0:=G.cell 0;have q1:=G.cell 1;have q2:=G.cell 2;have q3:=G.cell 3;have q4:=hs.cell 4;have q5:=hs.cell 5;simp only [Gf,dM,dJ,dK] at q0 q1 q2 q3 q4 q5;exact ⟨q0,q1,q2,q3,q4,q5⟩
 have S:=Aa (I.o.O D.o (fun q=>q));obtain ⟨r0,r1,r2,r3,r4,r5⟩:=Y.o C (Ab.refl _ _);have b6:n<C.heap.size:=rP l1 D.o.size;have b9:=Ae y.o.r.s9;have nb:i≠n:=by omega
 have c4:i≠t:=S.o.ne y.o.r.s9 (by decide);have a0:=x.o.ok;have b3:=x.o.bA;have a9:=Aa a0;clear a0;go_wp2_with fail;go_region_held3 (fun r=>r.cell? ⟨n,0,none⟩=some (.slice (some ⟨m,0,none⟩) P.length j)∧r.cell? ⟨n,1,none⟩=some (.int .i64 f)∧r.cell? ⟨n,2,none⟩=some (.int .i64 g)∧r.cell? ⟨n,3,none⟩=some (.int .i64 d)∧r.cell? ⟨t,4,none⟩=some (.map (some (p.om 0)))∧r.cell? ⟨t,5,none⟩=some (.map (some (p.om 1)))) (go_keep)
  (first
    | (go_at_call 61;refine (Uy HC.o P (.slice (some ⟨m,0,none⟩) P.length j) f g d _ (y.o.pl.i9 ((Ab.refl (fun _=>False) C).drew)) a9.o HN.o b3 (by omega)).mono ?_;rintro e H ⟨F,rfl,p5,u5⟩;have z:=Aa (Ab.trans ((Ab.refl (fun _=>False) C).drew) u5);have P5:=Aa p5;obtain ⟨fa,fl,fc,rfl⟩:∃a l c,F=.slice a l c:=(match P5.o with | ⟨_,q,_⟩=>Ad q);clear u5 p5;obtain ⟨m0,m1,m2,m3,m4,m5⟩:=Y.o H z.o;have h:=Aa (S.o.O z.o (fun q=>q));have d0:=h.o.cell 0;have d1:=h.o.cell 1;have d2:=h.o.cell 2;have d3:=h.o.cell 3;have d4:=h.o.cell 4;have d5:=h.o.cell 5;have d6:=h.o.cell 6;have z0:=h.o.frozen 0;have z1:=h.o.frozen 1;have z2:=h.o.frozen 2;have z3:=h.o.frozen 3;have z4:=h.o.frozen 4;have z5:=h.o.frozen 5;have z6:=h.o.frozen 6;have b7:=Ae h.o;simp only [dM,dJ,dK] at d0 d1 d2 d3 d4 d5 d6))
 all_goals
  have Q:Ab (fun k=>k=i) H (((((((H.setCell ⟨i,0,none⟩ (.slice fa fl fc)).setCell ⟨i,1,none⟩ (.int .i64 f)).setCell ⟨i,2,none⟩ (.int .i64 g)).setCell ⟨i,3,none⟩ (.int .i64 d)).setCell ⟨i,4,none⟩ (.map (some (p.om 0)))).setCell ⟨i,5,none⟩ (.map (some (p.om 1)))).setCell ⟨i,6,none⟩ (.map (some B))):=(((((((Ab.refl _ H).d8 0 _).d8 1 _).d8 2 _).d8 3 _).d8 4 _).d8 5 _).d8 6 _;have a5:=(y.o.i9 z.o).sets U.o a7.o (P5.o.base (rR _)) (S4.o.O z.o (fun q=>q));have a6:=a5.other Q h.o (by decide) (by have:=J.o;omega);have a3:Ab (fun _=>False) w _:=(L.o.trans (D.o.trans z.o)).thn Q (fun k hk q=>by have:=J.o;omega);have b0:=Aa a6;have a8:=Aa a3;clear Q a5 a6 a3;go_wp2_with fail;refine bodyPost_ret (v:=.agg (D0 (.slice fa fl fc) f g d (p.om 0) (p.om 1) B)) (by simp [results,Tryz.results40,go_sem,d0,d1,d2,d3,d4,d5,d6,D0]) rfl ⟨_,_,_,_,rfl,b0.o,a8.o⟩
def SrtAll:Prop:=∀(B:Nat) (v:Value) (l:List ByteArray) (W:World),Au B W v l→l.length≤1000000→Calls Tryz.prog 90 #[v] W fun e d=>e=.returned (.tuple #[])∧∃c,Au B d v c∧c.Perm l∧c.Pairwise (fun a b=>ZU b a=false)∧Ab (fun k=>v.ownBlock=some k) W d
theorem PV(w:World):Calls Tryz.prog 157 #[.int .u64 0] w fun e a=>e=.returned (.int .i64 0)∧a=w:=by go_enter Tryz.func157,Tryz.ntmps157;go_wp2_with fail;go_ret;exact ⟨by simp [show Lib.len8 0=0 from by decide,wrap64],rfl⟩
theorem Vh(w:World):Calls Tryz.prog 122 #[.int .u64 0] w fun e b=>e=.returned (.int .i64 0)∧b=w:=by go_enter Tryz.func122,Tryz.ntmps122;go_wp2_with fail;refine (PV w).mono ?_;rintro e b ⟨rfl,a⟩;have a:=a.symm;subst a;go_wp2_with fail;go_ret;exact ⟨rfl,rfl⟩
theorem NL(w:World):Calls Tryz.prog 147 #[.slice none 0 0,.int .i64 0,.int .i64 0] w fun e a=>e=.returned (.tuple #[])∧a=w:=by go_enter Tryz.func147,Tryz.ntmps147;go_wp2;refine wp_loop_rounds 1 ?_;rw [rounds_succ];go_wp2;go_end0;exact ⟨rfl,rfl⟩
theorem Vq(w:World):Calls Tryz.prog 121 #[.slice none 0 0,.int .i64 0,.int .i64 0,.int .i64 0] w fun e b=>e=.returned (.tuple #[])∧b=w:=by go_enter Tryz.func121,Tryz.ntmps121;go_wp2;refine wp_loop_rounds 1 ?_;rw [rounds_succ];go_wp2_with fail;refine (NL _).mono ?_;rintro e b ⟨rfl,a⟩;have a:=a.symm;subst a;go_wp2_with fail;refine bodyPost_ret (results_none rfl _ _ _) rfl ?_;exact ⟨rfl,rfl⟩
theorem TH(w:World):Calls Tryz.prog 90 #[.slice none 0 0] w fun e b=>e=.returned (.tuple #[])∧b=w:=by go_enter Tryz.func90,Tryz.ntmps90;go_wp2_with fail;refine (Vh _).mono ?_;rintro e b ⟨rfl,a⟩;have a:=a.symm;subst a;go_wp2_with fail;refine (Vq _).mono ?_;rintro e b ⟨rfl,a⟩;have a:=a.symm;subst a;go_wp2_with fail;go_end0;exact ⟨rfl,rfl⟩
theorem Xw(h:XX):SrtAll:=by
 intro B v l W a j;rcases a.2 with ⟨rfl,q⟩ | ⟨g,d,o,rfl,_⟩
 ·have:l=[]:=List.eq_nil_of_length_eq_zero q;subst this;refine (TH W).mono ?_;rintro e n ⟨rfl,rfl⟩;exact ⟨rfl,[],a,List.Perm.refl _,List.Pairwise.nil,Ab.refl _ _⟩
 ·refine (h B g d l W a j).mono ?_;rintro e n ⟨rfl,m,b,c,f,i⟩;exact ⟨rfl,m,by have:=c.length_eq;rw [←this] at b;exact this▸b,c,f,i.mono fun k _ q=>by rw [q];rfl⟩
def Jo(f:Nat→ByteArray)(m:Nat→Prop)(l:List ByteArray):Prop:=l.Pairwise (fun a b=>ZU b a=false)∧∃c:List Nat,c.Pairwise (·≠ ·)∧(∀x,x∈c↔m x)∧l.Perm (c.map f)
def Ex(P:List PFn)(i:Nat):ByteArray:=(Ap P i).name
theorem Qu(hS:SrtAll)(P S M o r g p n s w)(h:SetsAt P S M o r g p n s w)(hP:P.length≤12)(Z:Nat)(m:Nat→Prop)(hs:A9 Z m w)(hm:∀x,m x→x<P.length):
 Calls Tryz.prog 62 #[.agg (D0 M o r g p n s),.map (some Z)] w fun e w'=>∃v l,e=.returned v∧Au w.heap.size w' v l∧Jo (Ex P) m l∧l.length≤12∧Ab (fun _=>False) w w':=by
 obtain ⟨i0,b5,c1,c2,c3⟩:=info_parts Tryz.infoStr;obtain ⟨y,fl,z,b4,b3⟩:∃a l c,M=.slice a l c∧l=P.length:=by obtain ⟨cs,q,_⟩:=h.pl;obtain ⟨a,l,c,e⟩:=Ad q;subst e;exact ⟨a,l,c,rfl,by have:=Aq q;rw [rX] at this;exact this⟩
 subst b4 b3;have E:dN (Ab (fun _=>False) w (w.alloc (.cells (D0 (.slice y P.length z) o r g p n s) 95))):=(Ab.refl _ w).alloc _;have J:=Aa (Ak.new w (D0 (.slice y P.length z) o r g p n s) 95);have a2:=Aa (hs.O E.o (fun q=>q));have K:=Aa (h.i9 E.o);have HH:=Aa h;have HM:=Aa hm;have b1:=Aa hS;clear h hs hm hS;go_enter Tryz.func62,Tryz.ntmps62;go_upto_region 2 with fail;change Code.wp _ _ _ _ (w.alloc (.cells (D0 (.slice y P.length z) o r g p n s) 95));generalize w.alloc (.cells (D0 (.slice y P.length z) o r g p n s) 95)=W0 at*;obtain ⟨b0,O⟩:∃b,b=w.heap.size:=⟨_,rfl⟩;rw [←O] at J⊢;have c4:=Aa O;clear O;go_wp2_with fail;refine (Df Z m W0 a2.o K.o.tb K.o.tl).mono ?_;rintro e w2 ⟨nv,d,rfl,F,V,U,X⟩;obtain ⟨na,nl,nc,rfl⟩:=Ad F;have b9:=Aq F;subst b9;have b7:d.length≤12:=C8 12 d V fun x f=>rP (HM.o _ ((U x).1 f)) hP
 have O2:=Aa (E.o.trans X);have t:=Aa F;have a9:=Aa V;have a1:=Aa U;have B2:=Aa (J.o.O X (fun q=>q));have N2:dN (Au w.heap.size w2 (.slice none 0 0) ((d.take 0).map (Ex P))):=World.ownsRow_nil _ _ _ _;clear F V U X a2 K J E;go_wp2_with fail;go_loopw [5,11] (fun v i wr=>∃(j:Nat) (A:Value),A=v∧j≤d.length∧i=.int .i64 j∧dN (Au w.heap.size wr A ((d.take j).map (Ex P)))∧dN (AD 0 wr (.slice na d.length nc) d)∧dN (Ak b0 (D0 (.slice y P.length z) o r g p n s) 95 wr)∧dN (Ab (fun _=>False) w wr)) (fun _ i _=>d.length-(intOf i).toNat)
 case atStart=>exact ⟨0,_,rfl,by omega,rfl,N2,Ao t.o (rR _),B2,O2⟩
 case round=>
  clear N2 t B2 O2;obtain ⟨j,v,rfl,hj,rfl,u,t,B,C⟩:=hrel;by_cases T:j<d.length
  ·have G:=t.o;obtain ⟨gl,rfl⟩:=AA G (by omega);have a3:=G.cellAt j (by omega);rw [List.getElem?_map,rU T] at a3;simp only [Option.map_some] at a3;have d1:=(G.lt gl rfl).2;have b6:(j:Int)<(d.length:Int):=by omega
   have a0:=Aa (show j+1≤d.length from T);have f:=HM.o _ ((a1.o d[j]).1 (rQ _));have HT:dN ((d.take (j+1)).map (Ex P)=(d.take j).map (Ex P)++[Ex P d[j]]):=by show _=_;rw [List.take_succ_eq_append_getElem T,List.map_append];rfl
   clear G;generalize d[j]=x at*;have W:=(HH.o.i9 C.o).pl;obtain ⟨gf,cf,e1,d0⟩:=W.form (by rw [rX];omega);rw [rX] at e1;cases e1;obtain ⟨vv,sv,Q,_,_⟩:=W.get (i:=x) (by rw [rX];exact f);have c0:=Q 0 (by omega);simp only [MR,dJ,Nat.add_zero] at c0;have a4:((P.map Cg)[x]'(by rw [rX];exact f)).name=Ex P x:=by rw [List.getElem_map];unfold Ex Ap;rw [rU f];rfl
   rw [a4] at c0;have b2:=B.o.cell 0;have c9:=Ae B.o;simp only [D0,dM,dJ] at b2;have c8:(x:Int)<(P.length:Int):=by omega
   have c6:((d.take j).map (Ex P)).length≤12:=by rw [rX,List.length_take];omega
   have c7:=C.o.size;have a7:=Aa Q;clear W Q a4 a7;generalize Ex P x=nm at*;go_wp2_with (at_builtin;refine wpList_append_own _ rfl _ _ 28 rfl w.heap.size 9 i0 (.string ByteArray.empty) 1 16 Tryz.underlying28 b5 c1 c2 c3 rfl (by decide) _ _ _ rfl (u.o.alloc _) ⟨wr.heap.size,0,none⟩ 1 1 [.string nm] rfl rfl (A5 (by simp) _ _) (fun x f=>by simp at f;subst f;rfl) (by unfold maxLen;omega) (by omega) (by simp;omega) ?_;intro A I a5 R b8);have N:Ab (fun k=>v.ownBlock=some k) wr I:=Ab.grown ((Ab.refl _ wr).alloc _) R (fun k H=>.inl H);have O3:dN (Ab (fun _=>False) w I):=Ab.grown (C.o.alloc _) R (fun j hj=>.inr (u.o.lt j hj).1);have a8:dN (AD 0 I (.slice (some ⟨gl,0,none⟩) d.length nc) d):=Av t.o N (fun k cs fz H q=>by obtain ⟨c5,e⟩:=B8 u.o k H;rw [e] at q;cases q)
   have a6:=Aa (B.o.O N (fun q=>Aj u.o B.o (by decide) b0 q rfl));have D:dN (Au w.heap.size I A ((d.take (j+1)).map (Ex P))):=by show Au _ _ _ _;rw [HT.o];unfold Au;rw [rV,List.map_append];exact a5
   clear R b8 a5 N;go_wp2_with fail;go_roundw
   case rel=>exact ⟨j+1,A,rfl,a0.o,by go_num,D,a8,a6,O3⟩
   case measure=>have:=a0.o;simp [intOf];omega
  ·have e:j=d.length:=by omega
   subst e;have b6:decide ((d.length:Int)<(d.length:Int))=false:=by simp
   have hX:Au w.heap.size wr v (d.map (Ex P)):=by have:=u.o;rw [List.take_length] at this;exact this
   have D:=Aa hX;clear hX;go_wp2_with fail;refine (b1.o w.heap.size v (d.map (Ex P)) wr D.o (by rw [rX];omega)).mono ?_;rintro e w5 ⟨rfl,l,s5,Y,q5,o5⟩;have O5:dN (Ab (fun _=>False) w w5):=C.o.thn o5 (fun k H q=>by have:=(D.o.lt k q).1;omega);have L:dN (Au w.heap.size w5 v l∧Jo (Ex P) m l∧l.length≤12):=⟨s5,⟨q5,d,a9.o,a1.o,Y⟩,by rw [Y.length_eq,rX];exact b7⟩;clear s5 Y q5 o5;go_wp2_with fail;go_ret;exact ⟨v,l,rfl,L.o.1,L.o.2.1,L.o.2.2,O5.o⟩
theorem JI(hS:SrtAll)(P fv o f g z u B w)(A:AnOk P f g)(e5:f≤4000)(hn:PnOk P)(h:SetsAt P (least P) fv o f g z u B w)(b6:ItOk w)(c:Nat)(hc:A8 P f c)(d6:0<P.length):
 Calls Tryz.prog 64 #[.agg (D0 fv o f g z u B),.int .i64 c] w fun e C=>∃v l,e=.returned v∧Au w.heap.size C v l∧Jo (EF P) ((least P).I c) l∧l.length≤16400∧Ab (fun _=>False) w C:=by
 obtain ⟨i0,e0,e7,e8,e9⟩:=info_parts Tryz.infoStr;have hP:=A.bA;have a8:=A.ok.l8;obtain ⟨s,fl,t,d9,d8⟩:∃a l c,fv=.slice a l c∧l=P.length:=by obtain ⟨cs,q,_⟩:=h.pl;obtain ⟨a,l,c,e⟩:=Ad q;subst e;exact ⟨a,l,c,rfl,by have:=Aq q;rw [rX] at this;exact this⟩
 subst d9 d8;have Z:dN (Ab (fun _=>False) w (w.alloc (.cells (D0 (.slice s P.length t) o f g z u B) 95))):=(Ab.refl _ w).alloc _;have E:=Aa (Ak.new w (D0 (.slice s P.length t) o f g z u B) 95);have K:=Aa (h.i9 Z.o);have HH:=Aa h;have HM:dN (∀x,(least P).I c x→EM P f x):=fun x q=>(Im A q).2
 have L:=Aa A;have HN:=Aa hn;have c4:=Aa b6;have HV:=Aa a8;have f3:=hc.lt hP a8 A.lp;have c1:=Aa hc;have d2:=Aa hS;clear h hS A hn b6 a8 hc;go_enter Tryz.func64,Tryz.ntmps64;go_upto_region 2 with fail;change Code.wp _ _ _ _ (w.alloc (.cells (D0 (.slice s P.length t) o f g z u B) 95));generalize w.alloc (.cells (D0 (.slice s P.length t) o f g z u B) 95)=W0 at*;obtain ⟨m,a0⟩:∃b,b=w.heap.size:=⟨_,rfl⟩;rw [←a0] at E⊢;have f1:=Aa a0;clear a0;obtain ⟨bk,V,d1,t1⟩:=K.o.pm;obtain ⟨sb,a6⟩:=(d1 c).2 c1.o;have b7:=(V.look Dw Tryz.underlying91 (Ca W0) (k:=c) (by omega) false).2 sb a6;unfold GG at b7;have b3:=Aa (t1 c sb a6);have b4:=E.o.cell 4;have c0:=Ae E.o;simp only [D0,dM,dJ,dK] at b4;clear V d1 t1 a6;go_wp2_with fail;refine (Df sb ((least P).I c) W0 b3.o K.o.tb K.o.tl).mono ?_;rintro e w2 ⟨nv,d,rfl,S,a5,a4,o2⟩;obtain ⟨na,nl,nc,rfl⟩:=Ad S;have e6:=Aq S;subst e6;have e3:d.length≤16400:=C8 16400 d a5 fun x y=>EM.lt L.o (HM.o _ ((a4 x).1 y))
 have O2:=Aa (Z.o.trans o2);have G:=Aa S;have c6:=Aa a5;have b1:=Aa a4;have B2:=Aa (E.o.O o2 (fun q=>q));have N2:dN (Au w.heap.size w2 (.slice none 0 0) ((d.take 0).map (EF P))):=World.ownsRow_nil _ _ _ _;clear S a5 a4 o2 b3 K E Z b4 c0 b7;go_wp2_with fail;go_loopw [5,14] (fun v i wr=>∃(j:Nat) (J:Value),J=v∧j≤d.length∧i=.int .i64 j∧dN (Au w.heap.size wr J ((d.take j).map (EF P)))∧dN (AD 0 wr (.slice na d.length nc) d)∧dN (Ak m (D0 (.slice s P.length t) o f g z u B) 95 wr)∧dN (Ab (fun _=>False) w wr)) (fun _ i _=>d.length-(intOf i).toNat)
 case atStart=>exact ⟨0,_,rfl,by omega,rfl,N2,Ao G.o (rR _),B2,O2⟩
 case round=>
  clear N2 G B2 O2;obtain ⟨j,v,rfl,hj,rfl,HR,G,M,H⟩:=hrel;by_cases a3:j<d.length
  ·have T:=G.o;obtain ⟨gl,rfl⟩:=AA T (by omega);have a1:=T.cellAt j (by omega);rw [List.getElem?_map,rU a3] at a1;simp only [Option.map_some] at a1;have f0:=(T.lt gl rfl).2;have e1:(j:Int)<(d.length:Int):=by omega
   have a9:=Aa (show j+1≤d.length from a3);have y:=HM.o _ ((b1.o d[j]).1 (rQ _));have HT:dN ((d.take (j+1)).map (EF P)=(d.take j).map (EF P)++[EF P d[j]]):=by show _=_;rw [List.take_succ_eq_append_getElem a3,List.map_append];rfl
   clear T;have f8:=EM.lt L.o y;have a7:=Qz hP HV.o e5 y;generalize d[j]=x at*;have b5:=HH.o.i9 H.o;have c8:=Aa b5.pl;have d3:=Aa a7.bare;have b9:GQ (P.map Cg) (ON x)=GQ P (ON x):=Wh P _;have f5:(EF P x).size≤20000:=XG L.o.ok HN.o a7;have f4:((d.take j).map (EF P)).length≤16400:=by rw [rX,List.length_take];omega
   have f7:=H.o.size;have Y:dN (∀r,Ab (fun _=>False) wr r→r.cell? ⟨m,0,none⟩=some (.slice s P.length t)∧r.cell? ⟨m,1,none⟩=some (.int .i64 o)∧r.cell? ⟨m,2,none⟩=some (.int .i64 f)∧r.cell? ⟨m,3,none⟩=some (.int .i64 g)):=fun r h'=>by have U:=M.o.O h' (fun q=>q);have q0:=U.cell 0;have q1:=U.cell 1;have q2:=U.cell 2;have q3:=U.cell 3;simp only [D0,dM,dJ,dK] at q0 q1 q2 q3;exact ⟨q0,q1,q2,q3⟩
   obtain ⟨r0,r1,r2,r3⟩:=Y.o wr (Ab.refl _ _);have c0:=Ae M.o;have d4:=Aa b9;have c5:dN (∀W,Ab (fun _=>False) wr W→ItOk W):=fun W hW n r e2 d7=>c4.o n r e2 (H.o.trans (hW.trans d7))
   have d0:=Aa L.o.ok.bare;have c9:=Aa HN.o.bare;have d5:0<(P.map Cg).length:=by rw [rX];exact d6
   clear b5 a7 b9;go_upto_region 5 with fail;clear a1 f0;go_region_held3 (fun C=>C.cell? ⟨m,0,none⟩=some (.slice s P.length t)∧C.cell? ⟨m,1,none⟩=some (.int .i64 o)∧C.cell? ⟨m,2,none⟩=some (.int .i64 f)∧C.cell? ⟨m,3,none⟩=some (.int .i64 g)) (go_keep)
    (first
      | (go_at_call 106;refine (ID x _ (by omega)).mono ?_;rintro e w4 ⟨rfl,u4⟩;have O:=Aa (Ab.trans ((Ab.refl (fun _=>False) wr).drew) u4);clear u4;obtain ⟨m0,V,m2,m3⟩:=Y.o w4 O.o)
      | (go_at_call 88;refine (SY 0 (.slice s P.length t) o f g (P.map Cg) (ON x) w4 (c8.o.i9 O.o) d0.o c9.o d3.o (c5.o w4 O.o) d5).mono ?_;rw [d4.o];rintro e D ⟨rfl,u5⟩;have p:=Aa (O.o.trans u5);clear u5;obtain ⟨m0,V,m2,m3⟩:=Y.o D p.o;have Q:dN (Au w.heap.size D v ((d.take j).map (EF P))):=Ac HR.o p.o (fun _ _ q=>q);have f6:=p.o.size;have c7:=Aa (Aj Q.o (M.o.O p.o (fun q=>q)) (by decide)))
      | (refine AT rfl _ _ 28 rfl w.heap.size 9 i0 (.string ByteArray.empty) 1 16 Tryz.underlying28 e0 e7 e8 e9 rfl (by decide) _ _ _ rfl (Q.o.alloc _) ⟨D.heap.size,0,none⟩ 1 1 [.string (EF P x)] rfl rfl (A5 rfl _ _) (fun x y=>by simp at y;subst y;rfl) (by decide) (by unfold maxLen;omega) (by omega) (by simp;omega) ?_;intro J w3 b8 a2 e4;have R:=Aa (Ab.grown ((Ab.refl (fun k=>v.ownBlock=some k) D).alloc (.cells #[.string (EF P x)] 9)) a2 (fun k I=>.inl I));have F:=Aa ((M.o.O p.o (fun q=>q)).O R.o (fun q=>c7.o m q rfl));have n0:=F.o.cell 0;have n1:=F.o.cell 1;have n2:=F.o.cell 2;have n3:=F.o.cell 3;simp only [D0,dM,dJ,dK] at n0 n1 n2 n3;have b2:=Aa b8;have c2:=Aa a2;clear b8 a2 e4))
   all_goals
    have O3:dN (Ab (fun _=>False) w w3):=(H.o.trans p.o).thn R.o (fun k I q=>by have:=(Q.o.lt k q).1;omega);have c3:dN (AD 0 w3 (.slice (some ⟨gl,0,none⟩) d.length nc) d):=Av (Ac G.o p.o (fun _ _ q=>q)) R.o (fun k cs fz I q=>by obtain ⟨f2,e⟩:=B8 Q.o k I;rw [e] at q;cases q)
    have N:dN (Au w.heap.size w3 J ((d.take (j+1)).map (EF P))):=by show Au _ _ _ _;rw [HT.o];unfold Au;rw [rV,List.map_append];exact b2.o
    clear b2 c2 R n0 n1 n2 n3;go_wp2_with fail;go_roundw
    case rel=>exact ⟨j+1,J,rfl,a9.o,by go_num,N,c3,F,O3⟩
    case measure=>have:=a9.o;simp [intOf];omega
  ·have e:j=d.length:=by omega
   subst e;have e1:decide ((d.length:Int)<(d.length:Int))=false:=by simp
   have hX:Au w.heap.size wr v (d.map (EF P)):=by have:=HR.o;rw [List.take_length] at this;exact this
   have N:=Aa hX;clear hX;go_wp2_with fail;refine (d2.o w.heap.size v (d.map (EF P)) wr N.o (by rw [rX];omega)).mono ?_;rintro e D ⟨rfl,l,s5,p5,q5,o5⟩;have p:dN (Ab (fun _=>False) w D):=H.o.thn o5 (fun k I q=>by have:=(N.o.lt k q).1;omega);have X:dN (Au w.heap.size D v l∧Jo (EF P) ((least P).I c) l∧l.length≤16400):=⟨s5,⟨q5,d,c6.o,b1.o,p5⟩,by rw [p5.length_eq,rX];exact e3⟩;clear s5 p5 q5 o5;go_wp2_with fail;go_ret;exact ⟨v,l,rfl,X.o.1,X.o.2.1,X.o.2.2,p.o⟩
theorem I9(B v l s w)(h:Au B w v l)(C:l.length≤4001):
 Calls Tryz.prog 136 #[v,.string s] w fun e z=>e=.returned (.int .i64 (CE l s 0))∧z=w:=by
 obtain ⟨E,G,F,rfl⟩:=Ad h;have y:=Aq h;subst y;generalize p:CE l s 0=V;have o:dN (CE (l.drop 0) s 0=V):=p;have j:=Aa h;clear p h;go_enter Tryz.func136,Tryz.ntmps136;go_wp2_with fail;go_loopw [8] (fun i wr=>∃k:Nat,k≤l.length∧i=.int .i64 k∧wr=w∧dN (CE (l.drop k) s k=V)) (fun i _=>l.length-(intOf i).toNat)
 case atStart=>exact ⟨0,by omega,rfl,rfl,o⟩
 case round=>
  obtain ⟨k,A,rfl,rfl,d⟩:=hrel;clear o;by_cases m:k<l.length
  ·obtain ⟨g,rfl⟩:=AA j.o (by omega);have c:=j.o.cellAt k (by omega);rw [List.getElem?_map,rU m] at c;simp only [Option.map_some] at c;have D:=(j.o.lt g rfl).2;have b:=UV l s k m;have u:(k:Int)<(l.length:Int):=by omega
   have n:=Aa (show k+1≤l.length from m);generalize l[k]=a at c b;cases r:(s.toList==a.toList) with
   | true=>
     have f:a.toList=s.toList:=by have:s.toList=a.toList:=by simpa using r
                                  exact this.symm
     rw [if_pos f,d.o] at b;subst b;clear d f;go_wp2_with fail;go_ret;exact ⟨rfl,rfl⟩
   | false=>
     have f:¬a.toList=s.toList:=fun q=>by simp [q] at r
     rw [if_neg f,d.o] at b;have t:=Aa b;clear d f b;go_wp2_with fail;go_roundw
     case rel=>exact ⟨k+1,n.o,by go_num,by trivial,t.o.symm⟩
     case measure=>have:=n.o;simp [intOf];omega
  ·have e:k=l.length:=by omega
   subst e;have u:decide ((l.length:Int)<(l.length:Int))=false:=by simp
   have x:V= -1:=by have:=d.o;rw [List.drop_length] at this;exact this.symm
   subst x;clear d;go_wp2_with fail;go_ret;exact ⟨rfl,rfl⟩
def FE:List PFn→ByteArray→ByteArray→Nat→Option Nat
 | [],_,_,_=>none
 | f::l,a,b,k=>if f.name.toList=a.toList∧0≤CE f.l8 b 0 then some (vN k (CE f.l8 b 0).toNat) else FE l a b (k+1)
theorem IT(l:List PFn)(a b:ByteArray)(k:Nat)(h:k<l.length):FE (l.drop k) a b k=if l[k].name.toList=a.toList∧0≤CE l[k].l8 b 0 then some (vN k (CE l[k].l8 b 0).toNat) else FE (l.drop (k+1)) a b (k+1):=by rw [List.drop_eq_getElem_cons h];rfl
theorem PK:∀(l:List ByteArray) (s:ByteArray) (k:Nat),CE l s k<(k:Int)+l.length∨CE l s k= -1
 | [],_,_=>.inr rfl
 | a::l,s,k=>by
   unfold CE;split
   ·simp only [rW];omega
   ·have:=PK l s (k+1);simp only [rW];omega
theorem Tx(P S R r t j s m u w)(h:SetsAt P S R r t j s m u w)(hP:P.length≤12)(a5:∀i,(Ap P i).l8.length≤12)(a b:ByteArray):
 Calls Tryz.prog 104 #[.agg (D0 R r t j s m u),.string a,.string b] w fun e w'=>e=.returned (.tuple #[.int .i64 ((FE P a b 0).getD 0:Nat),.bool (FE P a b 0).isSome])∧Ab (fun _=>False) w w':=by
 obtain ⟨I,fl,J,b1,b0⟩:∃a l c,R=.slice a l c∧l=P.length:=by obtain ⟨cs,q,_⟩:=h.pl;obtain ⟨a,l,c,e⟩:=Ad q;subst e;exact ⟨a,l,c,rfl,by have:=Aq q;rw [rX] at this;exact this⟩
 subst b1 b0;generalize hV:FE P a b 0=V;have X:dN (FE (P.drop 0) a b 0=V):=hV;have Z:dN (Ab (fun _=>False) w (w.alloc (.cells (D0 (.slice I P.length J) r t j s m u) 95))):=(Ab.refl _ w).alloc _;have L:=Aa (Ak.new w (D0 (.slice I P.length J) r t j s m u) 95);have HH:=Aa h;have a8:=Aa a5;clear h hV a5;go_enter Tryz.func104,Tryz.ntmps104;go_upto_region 1 with fail;change Code.wp _ _ _ _ (w.alloc (.cells (D0 (.slice I P.length J) r t j s m u) 95));generalize w.alloc (.cells (D0 (.slice I P.length J) r t j s m u) 95)=W0 at*;have a0:=L.o.cell 0;have b6:=Ae L.o;simp only [D0,dM,dJ] at a0;go_wp2_with fail;clear a0 b6 L;go_loopw [15] (fun i wr=>∃k:Nat,k≤P.length∧i=.int .i64 k∧dN (Ab (fun _=>False) w wr)∧dN (FE (P.drop k) a b k=V)) (fun i _=>P.length-(intOf i).toNat)
 case atStart=>exact ⟨0,by omega,rfl,Z,X⟩
 case round=>
  clear X Z;obtain ⟨k,hk,rfl,N,o⟩:=hrel;by_cases z:k<P.length
  ·have hs:=IT P a b k z;have U:=(HH.o.i9 N.o).pl;obtain ⟨T,cf,e1,c4⟩:=U.form (by rw [rX];omega);rw [rX] at e1;cases e1;obtain ⟨vv,sv,y,K,a4⟩:=U.get (i:=k) (by rw [rX];exact z);obtain ⟨sa,sc,rfl,_⟩:=a4.form;obtain ⟨A,C,B,rfl⟩:=Ad K;have F:=y 0 (by omega);have c1:=y 1 (by omega);have G:=y 2 (by omega);have H:=y 3 (by omega);have a1:(P.map Cg)[k]'(by rw [rX];exact z)=Cg P[k]:=List.getElem_map ..;rw [a1] at F c1 G H K;simp only [MR,dJ,dK,Nat.add_zero] at F c1 G H;have a3:Ap P k=P[k]:=by unfold Ap;rw [rU z];rfl
   have b3:=a8.o k;rw [a3] at b3;have b2:(k:Int)<(P.length:Int):=by omega
   have E:=Aa (show k+1≤P.length from z);have a6:Au 0 wr (.slice A C B) P[k].l8:=K;have H:wr.cell? ⟨T,k*4+3,none⟩=some (.slice sa 0 sc):=H;have F:wr.cell? ⟨T,k*4,none⟩=some (.string P[k].name):=F;have G:wr.cell? ⟨T,k*4+2,none⟩=some (.int .i64 P[k].i8):=G;have a9:=PK P[k].l8 b 0;clear U y a1 a3 a4 K;generalize P[k]=f at*;generalize a2:CE f.l8 b 0=x at*;have M:=Aa a2;have W:Ab (fun _=>False) wr (wr.alloc (.cells #[.string f.name,.slice A C B,.int .i64 f.i8,.slice sa 0 sc] 136)):=(Ab.refl _ wr).alloc _;have Q:=Aa (Ac a6 W (fun _ _ q=>q));have O:=Aa (N.o.trans W);have D:=Aa hs;clear a6 W hs a2;by_cases p:f.name.toList=a.toList∧0≤x
   ·have g:=D.o;rw [if_pos p,o.o] at g;obtain ⟨a7,b5⟩:=p;obtain ⟨n,rfl⟩:∃n:Nat,x=(n:Int):=⟨x.toNat,by omega⟩;rw [Int.toNat_natCast] at g;subst g;have he:(f.name.toList==a.toList)=true:=by simpa using a7
    have b8:(0:Int)≤(n:Int):=by omega
    have b9:n<12:=by omega
    clear D o a7 b5 a9;go_wp2_with fail;refine (I9 0 (.slice A C B) f.l8 b _ Q.o (by omega)).mono ?_;rw [M.o];rintro e w5 ⟨rfl,d⟩;have d:=d.symm;subst d;go_wp2_with (go_at_call 125;refine (Eu k n _ (by omega) (by omega)).mono ?_;rintro e w' ⟨rfl,d⟩;have d:=d.symm;subst d);refine bodyPost_ret (v:=.tuple #[.int .i64 (vN k n:Nat),.bool true]) (by simp [results,Tryz.results104,go_sem]) rfl ⟨rfl,O.o⟩
   ·have g:=D.o;rw [if_neg p,o.o] at g;have Y:=Aa g;clear D o g;cases he:(f.name.toList==a.toList) with
    | true=>
      have b7:¬(0:Int)≤x:=fun q=>p ⟨by simpa using he,q⟩
      have hd:decide ((0:Int)≤x)=false:=by simp;omega
      clear p;go_wp2_with fail;refine (I9 0 (.slice A C B) f.l8 b _ Q.o (by omega)).mono ?_;rw [M.o];rintro e w5 ⟨rfl,d⟩;have d:=d.symm;subst d;go_wp2_with fail;go_roundw
      case rel=>exact ⟨k+1,E.o,by go_num,O,Y.o.symm⟩
      case measure=>have:=E.o;simp [intOf];omega
    | false=>
      clear p;go_wp2_with fail;refine (I9 0 (.slice A C B) f.l8 b _ Q.o (by omega)).mono ?_;rw [M.o];rintro e w5 ⟨rfl,d⟩;have d:=d.symm;subst d;go_wp2_with fail;go_roundw
      case rel=>exact ⟨k+1,E.o,by go_num,O,Y.o.symm⟩
      case measure=>have:=E.o;simp [intOf];omega
  ·have e:k=P.length:=by omega
   subst e;have b2:decide ((P.length:Int)<(P.length:Int))=false:=by simp
   have b4:V=none:=by have:=o.o;rw [List.drop_length] at this;exact this.symm
   subst b4;clear o;go_wp2_with fail;refine bodyPost_ret (v:=.tuple #[.int .i64 0,.bool false]) (by simp [results,Tryz.results104,go_sem]) rfl ⟨rfl,N.o⟩
theorem QX{a b:ByteArray}:∀(l:List PFn) (k c:Nat),FE l a b k=some c→∃f i,∃h:f<l.length,i<l[f].l8.length∧l[f].name.toList=a.toList∧CE l[f].l8 b 0=(i:Int)∧c=vN (k+f) i
 | [],k,c,h=>by cases h
 | f::l,k,c,h=>by
   unfold FE at h;split at h
   ·rename_i q;refine ⟨0,(CE f.l8 b 0).toNat,by simp,?_,q.1,?_,?_⟩
    ·have:=PK f.l8 b 0;simp only [List.getElem_cons_zero];omega
    ·simp only [List.getElem_cons_zero];omega
    ·cases h;rfl
   ·obtain ⟨g,i,w,e,m,n,v⟩:=QX l (k+1) c h;exact ⟨g+1,i,by simp;omega,by simpa using e,by simpa using m,by simpa using n,by rw [v];congr 1;omega⟩
theorem Sj{P:List PFn}{a b:ByteArray}{d c:Nat}(h:FE P a b 0=some c):A8 P d c:=by obtain ⟨f,i,e,g,_,_,k⟩:=QX P 0 c h;refine .inl ⟨f,i,e,?_,by rw [k,Nat.zero_add]⟩;unfold Ap;rw [rU e];exact g
def RY(f:Nat→ByteArray)(m:Nat→Prop)(n:Nat)(w:World)(e:Ending)(a:World):Prop:=
 (∃v l,e=.returned (.tuple #[v,.bool true])∧Au w.heap.size a v l∧Jo f m l∧l.length≤n)∧Ab (fun _=>False) w a
theorem Jo.len{f:Nat→ByteArray}{m:Nat→Prop}{l}(h:Jo f m l){n:Nat}(e:∀x,m x→x<n):l.length≤n:=by obtain ⟨_,i,a,b,c⟩:=h;rw [c.length_eq,rX];exact C8 n i a fun x g=>e x ((b x).1 g)
section
variable (u : SrtAll) (P : List PFn) (t : Value) (o d j s r p : Nat) (w : World) (A : AnOk P d j) (C : d ≤ 4000) (z : PnOk P) (h : SetsAt P (least P) t o d j s r p w) (y : ItOk w) (B : 0 < P.length)
include u A C z h y B
theorem LF(a b:ByteArray):
 Calls Tryz.prog 66 #[.agg (D0 t o d j s r p),.string a,.string b] w fun e X=>(∀c,FE P a b 0=some c→RY (EF P) ((least P).I c) 16400 w e X)∧(FE P a b 0=none→e=.returned (.tuple #[.slice none 0 0,.bool false])∧Ab (fun _=>False) w X):=by
 have K:dN (Ab (fun _=>False) w (w.alloc (.cells (D0 t o d j s r p) 95))):=(Ab.refl _ w).alloc _;have Z:=Aa (Ak.new w (D0 t o d j s r p) 95);have J:=Aa h;have F:=Aa A;have HN:=Aa z;have a1:=Aa y;have a2:=Aa u;obtain ⟨k,x,m,a4⟩:∃a l c,t=.slice a l c:=by obtain ⟨cs,q,_⟩:=h.pl;exact Ad q
 subst a4;clear h A z y u;go_enter Tryz.func66,Tryz.ntmps66;go_upto_region 1 with fail;change Code.wp _ _ _ _ (w.alloc (.cells (D0 (.slice k x m) o d j s r p) 95));generalize w.alloc (.cells (D0 (.slice k x m) o d j s r p) 95)=G at*;have I:dN (∀f,Ab (fun _=>False) G f→f.cell? ⟨w.heap.size,0,none⟩=some (.slice k x m)∧f.cell? ⟨w.heap.size,1,none⟩=some (.int .i64 o)∧f.cell? ⟨w.heap.size,2,none⟩=some (.int .i64 d)∧f.cell? ⟨w.heap.size,3,none⟩=some (.int .i64 j)∧f.cell? ⟨w.heap.size,4,none⟩=some (.map (some s))∧f.cell? ⟨w.heap.size,5,none⟩=some (.map (some r))∧f.cell? ⟨w.heap.size,6,none⟩=some (.map (some p))∧w.heap.size<f.heap.size):=fun f h'=>by have g:=Z.o.O h' (fun q=>q);have N:=g.cell 0;have O:=g.cell 1;have Q:=g.cell 2;have R:=g.cell 3;have S:=g.cell 4;have T:=g.cell 5;have U:=g.cell 6;simp only [D0,dM,dJ,dK] at N O Q R S T U;exact ⟨N,O,Q,R,S,T,U,Ae g⟩
 obtain ⟨c0,c1,c2,c3,c4,c5,c6,lb⟩:=I.o G (Ab.refl _ _);go_wp2_with fail;refine (Tx P (least P) (.slice k x m) o d j s r p G (J.o.i9 K.o) F.o.bA F.o.ok.l8 a b).mono ?_;rintro e Y ⟨rfl,H⟩;obtain ⟨m0,m1,m2,m3,m4,m5,m6,a6⟩:=I.o Y H;have i:=Aa (K.o.trans H);clear H c0 c1 c2 c3 c4 c5 c6 lb;cases D:FE P a b 0 with
 | none=> have E:=Aa D;clear D;simp only [Option.getD_none,Option.isSome_none];go_wp2_with fail;refine bodyPost_ret (v:=.tuple #[.slice none 0 0,.bool false]) (by simp [results,Tryz.results66,go_sem]) rfl ⟨fun c q=>(by rw [E.o] at q;cases q),fun _=>⟨rfl,i.o⟩⟩
 | some c=> have a0:dN (A8 P d c):=Sj D;have E:=Aa D;simp only [Option.getD_some,Option.isSome_some];clear D;go_wp2_with fail;refine (JI a2.o P (.slice k x m) o d j s r p Y F.o C HN.o (J.o.i9 i.o) (fun n f a5 a3=>a1.o n f a5 (i.o.trans a3)) c a0.o B).mono ?_;rintro e w3 ⟨v,l,rfl,V,W,L,M⟩;have HX:dN (RY (EF P) ((least P).I c) 16400 w (.returned (.tuple #[v,.bool true])) w3):=⟨⟨v,l,rfl,Ao V i.o.size,W,L⟩,i.o.trans M⟩;clear V W L M;go_wp2_with fail;refine bodyPost_ret (v:=.tuple #[v,.bool true]) (by simp [results,Tryz.results66,go_sem]) rfl ⟨fun c' q=>?_,fun q=>(by rw [E.o] at q;cases q)⟩;rw [E.o] at q;cases q;exact HX.o
end
theorem Tv(u:SrtAll)(P:List PFn)(t:Value)(o d j s r p:Nat)(w:World)(A:AnOk P d j)(h:SetsAt P (least P) t o d j s r p w)(n:Nat)(h1:1≤n)(h2:n≤j):
 Calls Tryz.prog 67 #[.agg (D0 t o d j s r p),.int .i64 n] w fun e w'=>RY (Ex P) ((least P).E n) 12 w e w':=by
 have g:dN (Ab (fun _=>False) w (w.alloc (.cells (D0 t o d j s r p) 95))):=(Ab.refl _ w).alloc _;have Z:=Aa (Ak.new w (D0 t o d j s r p) 95);have I:=Aa h;have F:=Aa A;have a1:=Aa u;obtain ⟨m,E,D,a2⟩:∃a l c,t=.slice a l c:=by obtain ⟨cs,q,_⟩:=h.pl;exact Ad q
 subst a2;clear h A u;go_enter Tryz.func67,Tryz.ntmps67;go_upto_region 1 with fail;change Code.wp _ _ _ _ (w.alloc (.cells (D0 (.slice m E D) o d j s r p) 95));generalize w.alloc (.cells (D0 (.slice m E D) o d j s r p) 95)=i at*;have HC:dN (∀b,Ab (fun _=>False) i b→b.cell? ⟨w.heap.size,0,none⟩=some (.slice m E D)∧b.cell? ⟨w.heap.size,1,none⟩=some (.int .i64 o)∧b.cell? ⟨w.heap.size,2,none⟩=some (.int .i64 d)∧b.cell? ⟨w.heap.size,3,none⟩=some (.int .i64 j)∧b.cell? ⟨w.heap.size,4,none⟩=some (.map (some s))∧b.cell? ⟨w.heap.size,5,none⟩=some (.map (some r))∧b.cell? ⟨w.heap.size,6,none⟩=some (.map (some p))∧w.heap.size<b.heap.size):=fun b h'=>by have f:=Z.o.O h' (fun q=>q);have O:=f.cell 0;have Q:=f.cell 1;have R:=f.cell 2;have S:=f.cell 3;have T:=f.cell 4;have U:=f.cell 5;have V:=f.cell 6;simp only [D0,dM,dJ,dK] at O Q R S T U V;exact ⟨O,Q,R,S,T,U,V,Ae f⟩
 obtain ⟨c0,c1,c2,c3,c4,c5,c6,lb⟩:=HC.o i (Ab.refl _ _);obtain ⟨bk,L,J,X⟩:=(I.o.i9 g.o).em;obtain ⟨H,G⟩:=(J n).2 ⟨h1,h2⟩;have a3:=F.o.lc;have K:=(L.look Dw Tryz.underlying91 (Ca i) (k:=n) (by omega) true).2 H G;unfold GG at K;simp only [if_true] at K;have a0:=Aa (X n H G);clear L J X G;go_wp2_with fail;refine (Qu a1.o P (least P) (.slice m E D) o d j s r p i (I.o.i9 g.o) F.o.bA H ((least P).E n) a0.o (fun x q=>(MN F.o q).2)).mono ?_;rintro e w3 ⟨v,l,rfl,W,Y,M,N⟩;have HX:dN (RY (Ex P) ((least P).E n) 12 w (.returned (.tuple #[v,.bool true])) w3):=⟨⟨v,l,rfl,Ao W g.o.size,Y,M⟩,g.o.trans N⟩;clear W Y M N;go_wp2_with fail;refine bodyPost_ret (v:=.tuple #[v,.bool true]) (by simp [results,Tryz.results67,go_sem]) rfl HX.o
theorem lT(u:SrtAll)(P:List PFn)(t:Value)(o d j s r p:Nat)(w:World)(A:AnOk P d j)(h:SetsAt P (least P) t o d j s r p w)(Z:o<P.length):
 Calls Tryz.prog 41 #[.agg (D0 t o d j s r p)] w fun e R=>∃v l,e=.returned v∧Au w.heap.size R v l∧Jo (Ex P) (FG P (least P) o) l∧l.length≤12∧Ab (fun _=>False) w R:=by
 have g:dN (Ab (fun _=>False) w (w.alloc (.cells (D0 t o d j s r p) 95))):=(Ab.refl _ w).alloc _;have T:=Aa (Ak.new w (D0 t o d j s r p) 95);have E:=Aa h;have D:=Aa A;have V:=Aa u;obtain ⟨i,m,k,Y⟩:∃a l c,t=.slice a l c:=by obtain ⟨cs,q,_⟩:=h.pl;exact Ad q
 subst Y;clear h A u;go_enter Tryz.func41,Tryz.ntmps41;go_upto_region 1 with fail;change Code.wp _ _ _ _ (w.alloc (.cells (D0 (.slice i m k) o d j s r p) 95));generalize w.alloc (.cells (D0 (.slice i m k) o d j s r p) 95)=n at*;have U:dN (∀b,Ab (fun _=>False) n b→b.cell? ⟨w.heap.size,0,none⟩=some (.slice i m k)∧b.cell? ⟨w.heap.size,1,none⟩=some (.int .i64 o)∧b.cell? ⟨w.heap.size,2,none⟩=some (.int .i64 d)∧b.cell? ⟨w.heap.size,3,none⟩=some (.int .i64 j)∧b.cell? ⟨w.heap.size,4,none⟩=some (.map (some s))∧b.cell? ⟨w.heap.size,5,none⟩=some (.map (some r))∧b.cell? ⟨w.heap.size,6,none⟩=some (.map (some p))∧w.heap.size<b.heap.size):=fun b X=>by have f:=T.o.O X (fun q=>q);have H:=f.cell 0;have I:=f.cell 1;have J:=f.cell 2;have K:=f.cell 3;have L:=f.cell 4;have M:=f.cell 5;have N:=f.cell 6;simp only [D0,dM,dJ,dK] at H I J K L M N;exact ⟨H,I,J,K,L,M,N,Ae f⟩
 obtain ⟨c0,c1,c2,c3,c4,c5,c6,lb⟩:=U.o n (Ab.refl _ _);go_wp2_with fail;refine (Qu V.o P (least P) (.slice i m k) o d j s r p n (E.o.i9 g.o) D.o.bA p (FG P (least P) o) (E.o.i9 g.o).rs (fun x q=>q.lt D.o (Sy.le.rf _) Z)).mono ?_;rintro e S ⟨v,l,rfl,O,Q,F,G⟩;have W:dN (Au w.heap.size S v l∧Jo (Ex P) (FG P (least P) o) l∧l.length≤12∧Ab (fun _=>False) w S):=⟨Ao O g.o.size,Q,F,g.o.trans G⟩;clear O Q F G;go_wp2_with fail;go_ret;exact ⟨v,l,rfl,W.o⟩
section
variable (o : SrtAll) (P : List PFn) (m : Value) (g b d i f j : Nat) (w : World) (A : AnOk P b d) (t : b ≤ 4000) (r : PnOk P) (h : SetsAt P (least P) m g b d i f j w) (p : ItOk w) (s : 0 < P.length)
include o A t r h p s
theorem Qs(n k:Nat)(H:1≤n)(h2:n≤b)(h3:k<4):
 Calls Tryz.prog 46 #[.agg (D0 m g b d i f j),.int .i64 n,.int .i64 k] w fun e T=>RY (EF P) ((least P).I (pN n k)) 16400 w e T:=by
 have C:dN (Ab (fun _=>False) w (w.alloc (.cells (D0 m g b d i f j) 95))):=(Ab.refl _ w).alloc _;have V:=Aa (Ak.new w (D0 m g b d i f j) 95);have Y:=Aa h;have W:=Aa A;have HN:=Aa r;have Z:=Aa p;have a0:=Aa o;obtain ⟨y,B,z,a2⟩:∃a l c,m=.slice a l c:=by obtain ⟨cs,q,_⟩:=h.pl;exact Ad q
 subst a2;clear h A r p o;have g1:decide ((n:Int)<1)=false:=by simp;omega
 have g2:decide ((b:Int)<(n:Int))=false:=by simp;omega
 have g3:decide ((k:Int)<0)=false:=by simp
 have g4:decide ((4:Int)≤(k:Int))=false:=by simp;omega
 go_enter Tryz.func46,Tryz.ntmps46;go_upto_region 1 with fail;change Code.wp _ _ _ _ (w.alloc (.cells (D0 (.slice y B z) g b d i f j) 95));generalize w.alloc (.cells (D0 (.slice y B z) g b d i f j) 95)=D at*;have G:dN (∀u,Ab (fun _=>False) D u→u.cell? ⟨w.heap.size,0,none⟩=some (.slice y B z)∧u.cell? ⟨w.heap.size,1,none⟩=some (.int .i64 g)∧u.cell? ⟨w.heap.size,2,none⟩=some (.int .i64 b)∧u.cell? ⟨w.heap.size,3,none⟩=some (.int .i64 d)∧u.cell? ⟨w.heap.size,4,none⟩=some (.map (some i))∧u.cell? ⟨w.heap.size,5,none⟩=some (.map (some f))∧u.cell? ⟨w.heap.size,6,none⟩=some (.map (some j))∧w.heap.size<u.heap.size):=fun u h'=>by have x:=V.o.O h' (fun q=>q);have J:=x.cell 0;have K:=x.cell 1;have L:=x.cell 2;have M:=x.cell 3;have N:=x.cell 4;have O:=x.cell 5;have Q:=x.cell 6;simp only [D0,dM,dJ,dK] at J K L M N O Q;exact ⟨J,K,L,M,N,O,Q,Ae x⟩
 obtain ⟨c0,c1,c2,c3,c4,c5,c6,lb⟩:=G.o D (Ab.refl _ _);have X:dN (A8 P b (pN n k)):=.inr ⟨n,k,H,h2,h3,rfl⟩;go_upto_region 3 with fail;go_region_held3 (fun u=>u.cell? ⟨w.heap.size,0,none⟩=some (.slice y B z)∧u.cell? ⟨w.heap.size,1,none⟩=some (.int .i64 g)∧u.cell? ⟨w.heap.size,2,none⟩=some (.int .i64 b)∧u.cell? ⟨w.heap.size,3,none⟩=some (.int .i64 d)∧u.cell? ⟨w.heap.size,4,none⟩=some (.map (some i))∧u.cell? ⟨w.heap.size,5,none⟩=some (.map (some f))∧u.cell? ⟨w.heap.size,6,none⟩=some (.map (some j))) (go_keep)
  (first
    | (go_at_call 65;refine (Iw n k _ H (by omega) (by omega)).mono ?_;rintro e T ⟨rfl,E⟩;have E:=E.symm;subst E)
    | (go_at_call 64;refine (JI a0.o P (.slice y B z) g b d i f j D.drew W.o t HN.o (Y.o.i9 C.o.drew) (fun n u a3 a1=>Z.o n u a3 (C.o.drew.trans a1)) (pN n k) X.o s).mono ?_;rintro e U ⟨v,l,rfl,R,S,I,F⟩;have HX:dN (RY (EF P) ((least P).I (pN n k)) 16400 w (.returned (.tuple #[v,.bool true])) U):=⟨⟨v,l,rfl,Ao R C.o.size,S,I⟩,C.o.drew.trans F⟩;have OO:=Aa (Ab.trans ((Ab.refl (fun _=>False) D).drew) F);clear R S I F;obtain ⟨m0,m1,m2,m3,m4,m5,m6,a4⟩:=G.o U OO.o))
 all_goals
  go_wp2_with fail;refine bodyPost_ret (v:=.tuple #[v,.bool true]) (by simp [results,Tryz.results46,go_sem]) rfl HX.o
end
structure AnHy(P:List PFn)(mn pn cn:Nat):Prop where
 ok:AnOk P pn cn
 pn:pn≤4000
 nm:PnOk P
 mn:mn<P.length
def GH(P:List PFn)(d f a h:Nat)(w:World):Prop:=∃c e b g,Ak h (D0 c d f a e b g) 98 w∧SetsAt P (least P) c d f a e b g w
theorem GH.i9{P b c a d w e}(h:GH P b c a d w)(k:Ab (fun _=>False) w e):GH P b c a d e:=by obtain ⟨g,l,f,m,i,j⟩:=h;exact ⟨g,l,f,m,i.O k (fun q=>q),j.i9 k⟩
def RX(f:Nat→ByteArray)(m:Nat→Prop)(n:Nat)(w:World)(e:Ending)(a:World):Prop:=
 (∃v l,e=.returned (.tuple #[v,.int .i64 0])∧Au w.heap.size a v l∧Jo f m l∧l.length≤n)∧Ab (fun _=>False) w a
theorem G9(a:Option Addr)(l c:Nat)(w:World):Calls Tryz.prog 45 #[.slice a l c,.bool true] w fun e b=>e=.returned (.tuple #[.slice a l c,.int .i64 0])∧b=w:=by go_enter Tryz.func45,Tryz.ntmps45;go_wp2_with fail;refine bodyPost_ret (v:=.tuple #[.slice a l c,.int .i64 0]) (by simp [results,Tryz.results45,go_sem]) rfl ⟨rfl,rfl⟩
theorem KW(u:SrtAll)(P:List PFn)(m f g z:Nat)(w:World)(Y:AnHy P m f g)(h:GH P m f g z w)(t:ItOk w)(n k:Nat)(L:1≤n)(M:n≤f)(N:k<4):
 Calls Tryz.prog 31 #[.pointer (some ⟨z,0,none⟩),.int .i64 n,.int .i64 k] w fun e B=>RX (EF P) ((least P).I (pN n k)) 16400 w e B:=by
 obtain ⟨K,Q,G,Z,b,i⟩:=h;obtain ⟨H,J,I,O⟩:∃a l c,K=.slice a l c:=by obtain ⟨cs,q,_⟩:=i.pl;exact Ad q
 subst O;have R:=b.cell 0;have S:=b.cell 1;have T:=b.cell 2;have U:=b.cell 3;have V:=b.cell 4;have W:=b.cell 5;have X:=b.cell 6;have lb:=Ae b;simp only [D0,dM,dJ,dK] at R S T U V W X;have D:=Aa i;have d:=Aa Y;have E:=Aa u;have C:=Aa t;clear i b Y u t;go_enter Tryz.func31,Tryz.ntmps31;go_wp2_with fail;refine (Qs E.o P (.slice H J I) m f g Q G Z w d.o.ok d.o.pn d.o.nm D.o C.o (Nat.lt_of_le_of_lt (rR _) d.o.mn) n k L M N).mono ?_;rintro e w2 ⟨⟨v,l,rfl,o,A,x⟩,y⟩;obtain ⟨p,s,r,rfl⟩:=Ad o;have F:dN (RX (EF P) ((least P).I (pN n k)) 16400 w (.returned (.tuple #[.slice p s r,.int .i64 0])) w2):=⟨⟨_,l,rfl,o,A,x⟩,y⟩;clear o A x y;go_wp2_with (go_at_call 45;refine (G9 p s r _).mono ?_;rintro e B ⟨rfl,j⟩;have j:=j.symm;subst j);refine bodyPost_ret (v:=.tuple #[.slice p s r,.int .i64 0]) (by simp [results,Tryz.results31,go_sem]) rfl F.o
theorem Ox(r:SrtAll)(P:List PFn)(i j d u:Nat)(w:World)(Y:AnHy P i j d)(h:GH P i j d u w)(n:Nat)(I:1≤n)(J:n≤d):
 Calls Tryz.prog 48 #[.pointer (some ⟨u,0,none⟩),.int .i64 n] w fun e y=>RX (Ex P) ((least P).E n) 12 w e y:=by
 obtain ⟨H,L,D,U,b,f⟩:=h;obtain ⟨E,G,F,K⟩:∃a l c,H=.slice a l c:=by obtain ⟨W,q,_⟩:=f.pl;exact Ad q
 subst K;have M:=b.cell 0;have N:=b.cell 1;have O:=b.cell 2;have Q:=b.cell 3;have R:=b.cell 4;have S:=b.cell 5;have T:=b.cell 6;have X:=Ae b;simp only [D0,dM,dJ,dK] at M N O Q R S T;have z:=Aa f;have C:=Aa Y;have A:=Aa r;clear f b Y r;go_enter Tryz.func48,Tryz.ntmps48;go_wp2_with fail;refine (Tv A.o P (.slice E G F) i j d L D U w C.o.ok z.o n I J).mono ?_;rintro e V ⟨⟨v,l,rfl,k,x,s⟩,t⟩;obtain ⟨m,p,o,rfl⟩:=Ad k;have B:dN (RX (Ex P) ((least P).E n) 12 w (.returned (.tuple #[.slice m p o,.int .i64 0])) V):=⟨⟨_,l,rfl,k,x,s⟩,t⟩;clear k x s t;go_wp2_with (go_at_call 45;refine (G9 m p o _).mono ?_;rintro e y ⟨rfl,g⟩;have g:=g.symm;subst g);refine bodyPost_ret (v:=.tuple #[.slice m p o,.int .i64 0]) (by simp [results,Tryz.results48,go_sem]) rfl B.o
theorem OD(t:SrtAll)(P:List PFn)(k m g A:Nat)(w:World)(Y:AnHy P k m g)(h:GH P k m g A w)(s:ItOk w)(a b:ByteArray)(c:Nat)(u:FE P a b 0=some c):
 Calls Tryz.prog 47 #[.pointer (some ⟨A,0,none⟩),.string a,.string b] w fun e C=>RX (EF P) ((least P).I c) 16400 w e C:=by
 obtain ⟨M,O,I,X,d,i⟩:=h;obtain ⟨J,L,K,N⟩:∃a l c,M=.slice a l c:=by obtain ⟨cs,q,_⟩:=i.pl;exact Ad q
 subst N;have Q:=d.cell 0;have R:=d.cell 1;have S:=d.cell 2;have T:=d.cell 3;have U:=d.cell 4;have V:=d.cell 5;have W:=d.cell 6;have lb:=Ae d;simp only [D0,dM,dJ,dK] at Q R S T U V W;have F:=Aa i;have f:=Aa Y;have G:=Aa t;have E:=Aa s;have D:=Aa u;clear i d Y t s u;go_enter Tryz.func47,Tryz.ntmps47;go_wp2_with fail;refine (LF G.o P (.slice J L K) k m g O I X w f.o.ok f.o.pn f.o.nm F.o E.o (Nat.lt_of_le_of_lt (rR _) f.o.mn) a b).mono ?_;rintro e Z ⟨x,_⟩;obtain ⟨⟨v,l,rfl,n,B,y⟩,z⟩:=x c D.o;clear x;obtain ⟨o,r,p,rfl⟩:=Ad n;have H:dN (RX (EF P) ((least P).I c) 16400 w (.returned (.tuple #[.slice o r p,.int .i64 0])) Z):=⟨⟨_,l,rfl,n,B,y⟩,z⟩;clear n B y z;go_wp2_with (go_at_call 45;refine (G9 o r p _).mono ?_;rintro e C ⟨rfl,j⟩;have j:=j.symm;subst j);refine bodyPost_ret (v:=.tuple #[.slice o r p,.int .i64 0]) (by simp [results,Tryz.results47,go_sem]) rfl H.o
theorem lO(k:SrtAll)(P:List PFn)(d i f n:Nat)(w:World)(Y:AnHy P d i f)(h:GH P d i f n w):
 Calls Tryz.prog 20 #[.pointer (some ⟨n,0,none⟩)] w fun e o=>∃v l,e=.returned v∧Au w.heap.size o v l∧Jo (Ex P) (FG P (least P) d) l∧l.length≤12∧Ab (fun _=>False) w o:=by
 obtain ⟨z,B,t,J,b,g⟩:=h;obtain ⟨u,y,x,A⟩:∃a l c,z=.slice a l c:=by obtain ⟨K,q,_⟩:=g.pl;exact Ad q
 subst A;have C:=b.cell 0;have D:=b.cell 1;have E:=b.cell 2;have F:=b.cell 3;have G:=b.cell 4;have H:=b.cell 5;have I:=b.cell 6;have L:=Ae b;simp only [D0,dM,dJ,dK] at C D E F G H I;have p:=Aa g;have j:=Aa Y;have r:=Aa k;clear g b Y k;go_enter Tryz.func20,Tryz.ntmps20;go_wp2_with fail;refine (lT r.o P (.slice u y x) d i f B t J w j.o.ok p.o j.o.mn).mono ?_;rintro e M ⟨v,l,rfl,m⟩;have s:=Aa m;clear m;go_wp2_with fail;go_ret;exact ⟨v,l,rfl,s.o⟩
def Nu(b:Bd):Prop:=∀s,s∈b.b9→(s.kind=1→1≤s.m9∧s.m9≤b.pl)∧(s.kind=8→1≤s.m9∧s.m9≤b.ca)
def R8(b c:Bd):Prop:=Nu c∧b.pl≤c.pl∧b.ca≤c.ca
theorem R8.tr{a b c:Bd}(h:R8 a b)(k:R8 b c):R8 a c:=⟨k.1,rO h.2.1 k.2.1,rO h.2.2 k.2.2⟩
theorem KM{l:List AY}{i:Nat}{f:AY→AY}{s:AY}(h:s∈l.modify i f):∃t,t∈l∧(s=t∨s=f t):=by
 obtain ⟨j,a,e⟩:=List.mem_iff_getElem.1 h;rw [List.length_modify] at a;rw [List.getElem_modify] at e;refine ⟨l[j],rQ _,?_⟩;split at e
 ·exact .inr e.symm
 ·exact .inl e.symm
theorem R8.tk{a b:Bd}(h:R8 a b)(i n:Nat):R8 a (b.tk i n):=⟨fun s d=>by
 obtain ⟨t,c,rfl | rfl⟩:=KM d
 ·exact h.1 _ c
 ·exact h.1 t c,h.2⟩
theorem R8.nx{a b:Bd}(h:R8 a b)(i n:Nat):R8 a (b.nx i n):=⟨fun s d=>by
 obtain ⟨t,c,rfl | rfl⟩:=KM d
 ·exact h.1 _ c
 ·exact h.1 t c,h.2⟩
theorem Nu.stepA{b:Bd}(h:Nu b)(c:List ByteArray)(s:VS)(a:Nat):R8 b (Am c s a b):=by
 have d:(Proofs.YtegmjgjkcdbmkaaGreatDoor.Am c s a b).pl=if s.kind=1 then b.pl+1 else b.pl:=rfl
 have f:(Proofs.YtegmjgjkcdbmkaaGreatDoor.Am c s a b).ca=if s.kind=8 then b.ca+1 else b.ca:=rfl
 refine ⟨fun u g=>?_,by rw [d];split<;>omega,by rw [f];split<;>omega⟩;rcases List.mem_append.1 g with q | q
 ·have:=h u q;exact ⟨fun k=>⟨(this.1 k).1,by have:=(this.1 k).2;rw [d];split<;>omega⟩,fun k=>⟨(this.2 k).1,by have:=(this.2 k).2;rw [f];split<;>omega⟩⟩
 ·rw [List.mem_singleton.1 q];refine ⟨fun k=>?_,fun k=>?_⟩
  ·have k:s.kind=1:=k;have e:({Az c s b with next:=a}:AY).m9=b.pl+1:=by simp [Az,k]
   rw [e,d,if_pos k];omega
  ·have k:s.kind=8:=k;have e:({Az c s b with next:=a}:AY).m9=b.ca+1:=by simp [Az,k]
   rw [e,f,if_pos k];omega
mutual
theorem Rp(fn:List ByteArray):∀(t:TS) (a:Nat) (b:Bd),Nu b→R8 b (BP fn t a b)
 | .mk s [],a,b,h=>by rw [BP];exact h.stepA fn s a
 | .mk s [(_,ts)],a,b,h=>by
   have hA:=h.stepA fn s a;rw [BP];split
   ·exact (hA.tr (Gq fn ts a _ hA.1)).tk _ _
   ·split
    ·exact (hA.tr (Gq fn ts _ _ hA.1)).tk _ _
    ·exact hA
 | .mk s ((_,ts)::(_,ts2)::r),a,b,h=>by
   have hA:=h.stepA fn s a;rw [BP];split
   ·have h1:=(hA.tr (Gq fn ts a _ hA.1)).tk b.b9.length (AJ ts a (Am fn s a b));exact (h1.tr (Gq fn ts2 a _ h1.1)).nx _ _
   ·exact hA
theorem Gq(fn:List ByteArray):∀(ts:List TS) (a:Nat) (b:Bd),Nu b→R8 b (AP fn ts a b)
 | [],a,b,h=>by rw [AP];exact ⟨h,rN _,rN _⟩
 | [t],a,b,h=>by rw [AP];exact Rp fn t a b h
 | t::t2::ts,a,b,h=>by have h1:=Rp fn t (b.b9.length+Ez t) b h;rw [AP];exact h1.tr (Gq fn (t2::ts) a _ h1.1)
end
theorem UA(c:List ByteArray)(t:TF)(b a:Nat):Nu (EQ c t b a)∧b≤(EQ c t b a).pl∧a≤(EQ c t b a).ca:=Gq c t.v8 (CQ t.v8) (QU t b a) (fun s d=>by cases d)
theorem Oj(c:List ByteArray):∀(l:List TF) (b a:Nat),b≤(BB c l b a).1∧a≤(BB c l b a).2
 | [],_,_=>⟨rN _,rN _⟩
 | t::l,b,a=>by have d:=UA c t b a;have e:=Oj c l (EQ c t b a).pl (EQ c t b a).ca;rw [BB];exact ⟨rO d.2.1 e.1,rO d.2.2 e.2⟩
theorem Om(a:List ByteArray):∀(l:List TF) (c b:Nat) (f:PFn),f∈Bu a l c b→∀s,s∈f.b9→(s.kind=1→1≤s.m9∧s.m9≤(BB a l c b).1)∧(s.kind=8→1≤s.m9∧s.m9≤(BB a l c b).2)
 | [],_,_,f,h=>by cases h
 | t::l,c,b,f,h=>by
   rw [Bu] at h;rw [BB];rcases List.mem_cons.1 h with rfl | q
   ·intro s g;have d:=(UA a t c b).1 s g;have e:=Oj a l (EQ a t c b).pl (EQ a t c b).ca;exact ⟨fun k=>⟨(d.1 k).1,rO (d.1 k).2 e.1⟩,fun k=>⟨(d.2 k).1,rO (d.2 k).2 e.2⟩⟩
   ·exact Om a l _ _ f q
theorem Me{fn:List ByteArray}{par:List Nat}:∀(l:List TF) (b a:Nat),(∀t,t∈l→IM fn par t.v8 (t.i8.map fun p=>p.a9))→BB fn l b a=(b+(l.map fun t=>nL 1 t.v8).sum,a+(l.map fun t=>nL 8 t.v8).sum)
 | [],_,_,_=>rfl
 | t::l,b,a,c=>by obtain ⟨_,d,e,_⟩:=KU (fn:=fn) (par:=par) t b a (c t (List.mem_cons_self ..));rw [BB,d,e,Me l _ _ (fun t f=>c t (rT _ f))];simp only [List.map_cons,List.sum_cons,Nat.add_assoc]
theorem Hf{f g:TF→Nat}(h:∀t,f t≤g t):∀(l:List TF),(l.map f).sum≤(l.map g).sum
 | []=>rN _
 | t::l=>by have a:=h t;have b:=Hf h l;simp only [List.map_cons,List.sum_cons];omega
theorem GoodP.anHy{a:List TF}(G:GoodP a):AnHy (Bu (DU a) a 0 0) (vx (DU a) EA) (BB (DU a) a 0 0).1 (BB (DU a) a 0 0).2:=by
 have d:=Me (fn:=DU a) (par:=Zy a) a 0 0 G.bP.ok;have m:=Hf (f:=fun t=>nL 1 t.v8) (g:=fun t=>CQ t.v8) (fun t=>JA 1 t.v8) a;have n:=Hf (f:=fun t=>nL 8 t.v8) (g:=fun t=>CQ t.v8) (fun t=>JA 8 t.v8) a;have o:=G.sum;have h:(BB (DU a) a 0 0).1≤4000:=by rw [d];simp only;omega
 have k:(BB (DU a) a 0 0).2≤4000:=by rw [d];simp only;omega
 have c:=Ff (fn:=DU a) a 0 0;refine ⟨⟨G.cQ,by rw [c];exact G.bP.bA,by omega,by omega,fun i b s e=>?_⟩,h,G.cX,?_⟩
 ·have j:Ap (Bu (DU a) a 0 0) i∈Bu (DU a) a 0 0:=by unfold Ap;rw [rU b];exact rQ _
  have:=Om (DU a) a 0 0 _ j s e
  exact ⟨this.1,this.2,(G.cQ.ok i b s e).field⟩
 ·have:=(O8 (l:=DU a) (s:=EA) G.bP.main).1;rw [c];simpa [DU] using this
theorem GP{w a}(h:Below (World.heap w).size w a):Ab (fun _=>False) w a:=⟨h.os,h.tape,h.output,h.size,fun k b _=>h.block k b⟩
theorem Hp(H:RZ)(s:ByteArray)(b:List TF)(x:Nat)(G:GoodP b)(D:∀t,t∈b→∀u,u∈t.v8→Na 4000 u)(w:World)(O:JL w)(P:0<w.heap.size)
 (C:Calls Tryz.prog 36 #[.string s] w fun e d=>∃(g n B:Nat) (a:Option Addr) (l c:Nat) (U:Nat→Prop),e=.returned (.tuple #[.slice (some ⟨g,0,none⟩) n B,.agg #[.slice a l c,.int .i64 x],.int .i64 0,.int .i64 0])∧Di 4000 U d (.slice a l c) b∧(∀k,U k→k<d.heap.size)∧Below w.heap.size w d):
 Calls Tryz.prog 19 #[.string s] w fun e d=>∃r,e=.returned (.tuple #[.pointer (some ⟨r,0,none⟩),.int .i64 0,.int .i64 0])∧w.heap.size≤r∧GH (Bu (DU b) b 0 0) (vx (DU b) EA) (BB (DU b) b 0 0).1 (BB (DU b) b 0 0).2 r d∧Ab (fun _=>False) w d:=by
 have z:=Aa C;have j:=Aa G.anHy;have W:=Aa (G.cY D);have T:=Aa H;have Y:=Aa O;clear C G D H O;go_enter Tryz.func19,Tryz.ntmps19;go_wp2_with fail;refine z.o.mono ?_;rintro e w2 ⟨g,n,B,a,l,c,U,rfl,L,N,F⟩;have O2:=Aa (GP F);have X:=Aa L;have Z:=Aa N;have h:=Aa ((Ab.refl (fun _=>False) w2).alloc (.cells #[.slice a l c,.int .i64 x] 82));clear F z L N;go_wp2_with (first
  | (go_at_call 39;refine (Xn 4000 U (.slice a l c) b x _ (X.o.O h.o (fun _ _ q=>q)) (fun k hk=>by have:=Z.o k hk;have:=h.o.size;omega) W.o).mono ?_;rintro e w4 ⟨fv,rfl,K,I⟩;have V:=Aa K;have i:=Aa (O2.o.trans (h.o.trans I));clear K I)
  | (go_at_call 40;refine (YK T.o (Bu (DU b) b 0 0) fv (vx (DU b) EA) (BB (DU b) b 0 0).1 (BB (DU b) b 0 0).2 w4 j.o.ok j.o.nm (V.o.base (rR _)) j.o.mn (Y.o.O i.o (fun q=>q) P) (rP P i.o.size)).mono ?_;rintro e f ⟨a0,o,m,p,rfl,M,J⟩;have A:=Aa M;have y:=Aa (i.o.trans J);clear M J;obtain ⟨Q,S,R,rfl⟩:∃a l c,a0=.slice a l c:=(match A.o.pl with | ⟨_,q,_⟩=>Ad q);unfold D0))
 have a1:=Ak.new f (D0 (.slice Q S R) (vx (DU b) EA) (BB (DU b) b 0 0).1 (BB (DU b) b 0 0).2 o m p) 98;have E:=(Ab.refl (fun _=>False) f).alloc (.cells (D0 (.slice Q S R) (vx (DU b) EA) (BB (DU b) b 0 0).1 (BB (DU b) b 0 0).2 o m p) 98);refine bodyPost_ret (v:=.tuple #[.pointer (some ⟨f.heap.size,0,none⟩),.int .i64 0,.int .i64 0]) (by simp [results,Tryz.results19,go_sem]) rfl ⟨f.heap.size,rfl,y.o.size,⟨_,o,m,p,a1,A.o.i9 E⟩,y.o.trans E⟩
theorem lP(P:List PFn)(D:Value)(n f j o m p:Nat)(w:World)(A:AnOk P f j)(h:SetsAt P (least P) D n f j o m p w)(a b u y:ByteArray):
 Calls Tryz.prog 63 #[.agg (D0 D n f j o m p),.string a,.string b,.string u,.string y] w fun e w'=>((∀c d,FE P a b 0=some c→FE P u y 0=some d→∃r:Bool,e=.returned (.tuple #[.bool r,.bool true])∧(r=true↔∃x,(least P).I c x∧(least P).I d x))∧(FE P a b 0=none∨FE P u y 0=none→e=.returned (.tuple #[.bool false,.bool false])))∧Ab (fun _=>False) w w':=by
 have Y:dN (Ab (fun _=>False) w (w.alloc (.cells (D0 D n f j o m p) 95))):=(Ab.refl _ w).alloc _;have B0:=Aa (Ak.new w (D0 D n f j o m p) 95);have L:=Aa h;have g:=Aa A;obtain ⟨z,C,B,a3⟩:∃a l c,D=.slice a l c:=by obtain ⟨cs,q,_⟩:=h.pl;exact Ad q
 subst a3;clear h A;go_enter Tryz.func63,Tryz.ntmps63;go_upto_region 1 with fail;change Code.wp _ _ _ _ (w.alloc (.cells (D0 (.slice z C B) n f j o m p) 95));generalize w.alloc (.cells (D0 (.slice z C B) n f j o m p) 95)=M at*;have K:dN (∀i,Ab (fun _=>False) M i→i.cell? ⟨w.heap.size,0,none⟩=some (.slice z C B)∧i.cell? ⟨w.heap.size,1,none⟩=some (.int .i64 n)∧i.cell? ⟨w.heap.size,2,none⟩=some (.int .i64 f)∧i.cell? ⟨w.heap.size,3,none⟩=some (.int .i64 j)∧i.cell? ⟨w.heap.size,4,none⟩=some (.map (some o))∧i.cell? ⟨w.heap.size,5,none⟩=some (.map (some m))∧i.cell? ⟨w.heap.size,6,none⟩=some (.map (some p))∧w.heap.size<i.heap.size):=fun i h'=>by have s:=B0.o.O h' (fun q=>q);have q0:=s.cell 0;have q1:=s.cell 1;have q2:=s.cell 2;have q3:=s.cell 3;have q4:=s.cell 4;have q5:=s.cell 5;have q6:=s.cell 6;simp only [D0,dM,dJ,dK] at q0 q1 q2 q3 q4 q5 q6;exact ⟨q0,q1,q2,q3,q4,q5,q6,Ae s⟩
 obtain ⟨c0,c1,c2,c3,c4,c5,c6,lb⟩:=K.o M (Ab.refl _ _);go_wp2_with fail;refine (Tx P (least P) (.slice z C B) n f j o m p M (L.o.i9 Y.o) g.o.bA g.o.ok.l8 a b).mono ?_;rintro e w2 ⟨rfl,I⟩;obtain ⟨m0,m1,m2,m3,m4,m5,m6,a4⟩:=K.o w2 I;have a2:=Aa I;have Z:=Aa (Y.o.trans I);clear I c0 c1 c2 c3 c4 c5 c6 lb;go_wp2_with fail;refine (Tx P (least P) (.slice z C B) n f j o m p w2 (L.o.i9 Z.o) g.o.bA g.o.ok.l8 u y).mono ?_;rintro e J ⟨rfl,U⟩;obtain ⟨n0,n1,n2,n3,n4,n5,n6,a5⟩:=K.o J (a2.o.trans U);have H:=Aa (Z.o.trans U);clear U m0 m1 m2 m3 m4 m5 m6 a4;cases t:FE P a b 0 with
 | none=> have F:=Aa t;clear t;simp only [Option.getD_none,Option.isSome_none];go_wp2_with fail;refine bodyPost_ret (v:=.tuple #[.bool false,.bool false]) (by simp [results,Tryz.results63,go_sem]) rfl ⟨⟨fun c d q=>(by rw [F.o] at q;cases q),fun _=>rfl⟩,H.o⟩
 | some c=>
   cases E:FE P u y 0 with
   | none=> have G:=Aa E;clear t E;simp only [Option.getD_none,Option.isSome_none,Option.getD_some,Option.isSome_some];go_wp2_with fail;refine bodyPost_ret (v:=.tuple #[.bool false,.bool false]) (by simp [results,Tryz.results63,go_sem]) rfl ⟨⟨fun c d _ q=>(by rw [G.o] at q;cases q),fun _=>rfl⟩,H.o⟩
   | some d=>
     have F:=Aa t;have G:=Aa E;have S:A8 P f c:=Sj t;have T:A8 P f d:=Sj E;obtain ⟨bk,R,N,V⟩:=(L.o.i9 H.o).pm;obtain ⟨W,O⟩:=(N c).2 S;obtain ⟨X,Q⟩:=(N d).2 T;have lc:=S.lt g.o.bA g.o.ok.l8 g.o.lp;have ld:=T.lt g.o.bA g.o.ok.l8 g.o.lp;have g1:=(R.look Dw Tryz.underlying91 (Ca J) (k:=c) (by omega) false).2 W O;have g2:=(R.look Dw Tryz.underlying91 (Ca J) (k:=d) (by omega) false).2 X Q;unfold GG at g1 g2;have a0:=Aa (V c W O);have a1:=Aa (V d X Q);clear t E S T R N V O Q;simp only [Option.getD_some,Option.isSome_some];go_wp2_with fail;refine (mP W X _ _ J a0.o a1.o).mono ?_;rintro e w4 ⟨r,rfl,hr,o4⟩;have HR:=Aa hr;have O4:=Aa (H.o.trans o4);clear hr o4;go_wp2_with fail;refine bodyPost_ret (v:=.tuple #[.bool r,.bool true]) (by simp [results,Tryz.results63,go_sem]) rfl ⟨⟨fun c' d' q q'=>?_,fun q=>?_⟩,O4.o⟩
     ·rw [F.o] at q;rw [G.o] at q';cases q;cases q';exact ⟨r,rfl,HR.o⟩
     ·rw [F.o,G.o] at q;rcases q with q | q<;>cases q
theorem lL(P:List PFn)(B C s E:Nat)(w:World)(Y:AnHy P B C s)(h:GH P B C s E w)(a b i j:ByteArray):
 Calls Tryz.prog 42 #[.pointer (some ⟨E,0,none⟩),.string a,.string b,.string i,.string j] w fun e w'=>((∀c d,FE P a b 0=some c→FE P i j 0=some d→∃r:Bool,e=.returned (.tuple #[.bool r,.int .i64 0])∧(r=true↔∃x,(least P).I c x∧(least P).I d x))∧(FE P a b 0=none∨FE P i j 0=none→e=.returned (.tuple #[.bool false,.int .i64 8])))∧Ab (fun _=>False) w w':=by
 obtain ⟨O,S,K,rb,f,A⟩:=h;obtain ⟨L,N,M,R⟩:∃a l c,O=.slice a l c:=by obtain ⟨cs,q,_⟩:=A.pl;exact Ad q
 subst R;have T:=f.cell 0;have U:=f.cell 1;have V:=f.cell 2;have W:=f.cell 3;have X:=f.cell 4;have Z:=f.cell 5;have q6:=f.cell 6;have lb:=Ae f;simp only [D0,dM,dJ,dK] at T U V W X Z q6;have I:=Aa A;have J:=Aa Y;clear A f Y;go_enter Tryz.func42,Tryz.ntmps42;go_wp2_with fail;refine (lP P (.slice L N M) B C s S K rb w J.o.ok I.o a b i j).mono ?_;rintro e w2 ⟨⟨t,u⟩,n⟩;by_cases g:FE P a b 0=none∨FE P i j 0=none
 ·have Q:=u g;subst Q;have o:=Aa g;have p:=Aa n;clear t u g n;go_wp2_with fail;refine bodyPost_ret (v:=.tuple #[.bool false,.int .i64 8]) (by simp [results,Tryz.results42,go_sem]) rfl ⟨⟨fun c d q m=>?_,fun _=>rfl⟩,p.o⟩;rcases o.o with k | k
  ·rw [k] at q;cases q
  ·rw [k] at m;cases m
 ·obtain ⟨c,y⟩:∃c,FE P a b 0=some c:=Option.isSome_iff_exists.1 (Option.isSome_iff_ne_none.2 fun q=>g (.inl q));obtain ⟨d,z⟩:∃d,FE P i j 0=some d:=Option.isSome_iff_exists.1 (Option.isSome_iff_ne_none.2 fun q=>g (.inr q));obtain ⟨r,rfl,D⟩:=t c d y z;have F:=Aa y;have G:=Aa z;have H:=Aa D;have o:=Aa g;have p:=Aa n;clear t u g n y z D;go_wp2_with fail;refine bodyPost_ret (v:=.tuple #[.bool r,.int .i64 0]) (by simp [results,Tryz.results42,go_sem]) rfl ⟨⟨fun c' d' q m=>?_,fun q=>absurd q o.o⟩,p.o⟩;rw [F.o] at q;rw [G.o] at m;cases q;cases m;exact ⟨r,rfl,H.o⟩
end Go.Proofs.YtegmjgjkcdbmkaaGreatDoor
