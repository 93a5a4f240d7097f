/- One of the texts of the proof: ArB ArC. -/
import Derived.Test.YtegmjgjkcdbmkaaGreatDoorG31
set_option maxRecDepth 100000
set_option maxHeartbeats 4000000
namespace Go.Proofs.YtegmjgjkcdbmkaaGreatDoor
open Go.RowKit Go.Maps
theorem FG.lt{P d a}{S:Sy}(A:AnOk P d a)(h:S.le (least P)){m g:Nat}(c:m<P.length)(k:FG P S m g):g<P.length:=k (fun x=>x<P.length) c fun _ _ b q=>q.lt A h b
theorem IF.new(B:Nat)(w:World)(n:Nat)(a:B≤w.heap.size):IF B (w.alloc (.cells #[.int .i64 (n:Nat)] 3)) (.slice (some ⟨w.heap.size,0,none⟩) 1 1) [n]:=
 ⟨w.heap.size,0,1,_,rfl,a,heap_alloc_new w _,Nat.le_refl _,by simp,by decide,fun j b=>by
   have:j=0:=by simpa using b
   subst this;rfl⟩
theorem IF.ne{B w v l b m}(h:IF B w v l)(k:A9 b m w):∀x,v.ownBlock=some x→x≠b:=by rintro x d rfl;obtain ⟨_,f,e⟩:=h.kind x d;obtain ⟨g,c,a⟩:=k.isMap;rw [e] at a;cases a
theorem Ov(P S fv d pn cn o v w)(A:AnOk P pn cn)(h:Dn P S fv d pn cn o v w)(hm:d<P.length)(e4:v.s.le (least P)):
 Calls Tryz.prog 60 #[.pointer (some ⟨S,0,none⟩)] w fun e w'=>∃b,e=.returned (.map (some b))∧w.heap.size≤b∧A9 b (FG P v.s d) w'∧Ab (fun _=>False) w w':=by
 have p1:=h.r.s9.cell 1;have b7:=Ae h.r.s9;simp only [Gf,dM,dJ,dK] at p1;have h0:=A.bA;have a6:=Aa (fun g (k:FG P v.s d g)=>k.lt A e4 hm);have H:=Aa h;have HA:=Aa A;clear h A e4;go_enter Tryz.func60,Tryz.ntmps60;go_wp2_with fail;refine (Fh d w (by omega)).mono ?_;rintro e D ⟨O,rfl,h9,s2,W⟩;have p2:D.cell? ⟨S,1,none⟩=some (.int .i64 d):=(World.cell?_of_block (W.block S b7 (fun q=>q))).trans p1;have i1:S<D.heap.size:=Nat.lt_of_lt_of_le b7 W.size;have q3:=IF.new w.heap.size D d W.size;have o3:Ab (fun _=>False) w (D.alloc (.cells #[.int .i64 d] 3)):=W.alloc _;have s3:A9 O (fun g=>g=d) (D.alloc (.cells #[.int .i64 d] 3)):=s2.O ((Ab.refl (fun _=>False) D).alloc _) (fun q=>q);have d1:=Aa q3;have c9:=Aa o3;have d5:=Aa s3;clear q3 o3 s3 s2 W p1 b7;go_wp2_with fail;clear p2 i1;generalize D.alloc (.cells #[.int .i64 d] 3)=W3 at*;generalize D.heap.size=g3 at*;obtain ⟨mf,e6⟩:=Ru;obtain ⟨J,hJ⟩:∃J:Nat→Value→World→Prop,J=fun n q u=>∃(E:Nat→Prop) (l:List Nat),dN (IF w.heap.size u q l)∧dN (A9 O E u)∧dN (Bf P v.s d E l (fun _=>False))∧dN (Ls E l.length n)∧dN (n≤25)∧dN (Ab (fun _=>False) w u):=⟨_,rfl⟩
 have c4:dN (∃n,J n (.slice (some ⟨g3,0,none⟩) 1 1) W3):=⟨_,by rw [hJ];refine ⟨_,[d],d1,d5,Bf.start P v.s d,rfl,?_,c9⟩;show _+[d].length≤25;have:List.countP (fun i=>@decide (¬(i=d)) (Classical.propDecidable _)) (List.range 12)≤(List.range 12).length:=List.countP_le_length;rw [List.length_range] at this;simp only [List.length_singleton];omega⟩
 have HJ:=Aa hJ;have c7:=Aa e6;clear d1 d5 c9 hJ e6;go_loopw [4] (fun q u=>∃R,R=q∧∃n,J n R u) (fun q u=>mf (fun n=>J n q u))
 case atStart=>exact ⟨_,rfl,c4.o⟩
 case round=>
  clear c4;obtain ⟨q,rfl,n0,e7⟩:=hrel;have e8:=(c7.o (fun n=>J n q wr) n0 e7).1;obtain ⟨L,b6⟩:∃L,L=mf (fun n=>J n q wr):=⟨_,rfl⟩;have e9:J L q wr:=by rw [b6];exact e8
  rw [HJ.o] at e9;obtain ⟨E,l,z,B,p,G,b9,C⟩:=e9;have g4:=Aa b6;clear e7 e8 b6 n0;obtain ⟨g,oo,b0,e,j0,j1,lc,lm⟩:=z.o.form;subst e;cases l with
  | nil=> have HX:=Aa (B.o.iff p.o.done);rw [List.length_nil];go_wp2_with fail;go_ret;exact ⟨O,rfl,h9,HX.o,C.o⟩
  | cons c l=>
    have c0:=z.o.head;obtain ⟨o5,e5,Q5⟩:=z.o.tail;rw [List.length_cons] at lc⊢;have hp:(0:Int)<(l.length:Int)+1:=by omega
    have h4:c<P.length:=a6.o c (p.o.le c p.o.pop.2);have hE:=H.o.i9 C.o;have HE:=Aa hE;have d2:=Aa Q5;have c3:=Aa e5;clear Q5 e5 hE;go_upto_region 6 with fail;rw [c3.o];clear c0 c3;go_wp2_with fail;refine (Nq P S fv d pn cn o v wr HA.o HE.o c h4).mono ?_;rintro e w5 ⟨kb,rfl,j2,s5,b8⟩;have b1:=HE.o.i9 b8;have a8:=Aa b8;have d8:=Aa b1.tb;have d9:=Aa b1.tl;have d6:=Aa s5;clear s5 b8 b1;go_wp2_with fail;refine (Df kb _ w5 d6.o d8.o d9.o).mono ?_;rintro e w6 ⟨cv,a,rfl,hI,f1,b5,o6⟩;obtain ⟨ca,i2,N,rfl⟩:=Ad hI;have h8:=Aq hI;subst h8;have i4:a.length≤12:=C8 12 a f1 fun x hx=>Nat.lt_of_lt_of_le (a6.o _ ((p.o.le c p.o.pop.2).step ((b5 x).1 hx))) h0
    have hO:=a8.o.trans o6;have i7:=a8.o.size;have q6:IF w.heap.size w6 (.slice (some ⟨g,o5,none⟩) l.length (b0-1)) l:=d2.o.O hO (fun _ _ q=>q);have s6:A9 O E w6:=B.o.O hO (fun q=>q);have a5:=Aa hI;have a9:=Aa q6;have d7:=Aa s6;have d0:=Aa (C.o.trans hO);have c6:=Aa b5;have F:dN (∀k s,Value.ownBlock (.slice (some ⟨g,o5,none⟩) l.length (b0-1))=some k→Value.ownBlock (.slice ca a.length N)=some s→k≠s):=fun k s I U=>by cases I;have:=(a5.o.lt s U).1;show g≠s;omega
    have c1:=Aa p.o.pop;have c8:dN (∀n,Ls E l.length n→n<L):=fun n h=>by have I:=G.o;unfold Ls at h I;rw [List.length_cons] at I;omega
    clear hI f1 b5 o6 hO q6 s6 z B p C G d2 HE d8 d9 d6 a8;go_wp2_with fail;obtain ⟨qv,f6⟩:∃qv,qv=Value.slice (some ⟨g,o5,none⟩) l.length (b0-1):=⟨_,rfl⟩;rw [←f6] at a9 F⊢;clear f6;generalize w5.heap.size=B5 at*;go_loopw [4,33] (fun q i u=>∃(j:Nat) (m:Nat→Prop) (r:List Nat) (R:Value),R=q∧j≤a.length∧i=.int .i64 j∧dN (IF w.heap.size u R r)∧dN (A9 O m u)∧dN (Bf P v.s d m r (fun f=>f=c)∧m c)∧dN (∀t x,t<j→a[t]? =some x→m x)∧dN (∀n,Ls m r.length n→n<L)∧dN (AD B5 u (.slice ca a.length N) a)∧dN (∀k s,R.ownBlock=some k→Value.ownBlock (.slice ca a.length N)=some s→k≠s)∧dN (Ab (fun _=>False) w u)) (fun _ i _=>a.length-(intOf i).toNat)
    case atStart=>exact ⟨0,E,l,qv,rfl,by omega,rfl,a9,d7,c1,fun t x ht=>by omega,c8,a5,F,d0⟩
    case round=>
     clear a9 d7 c1 c8 a5 F d0;obtain ⟨j,m,r,q,rfl,hj,rfl,z,B,p,HD,G,X,F,C⟩:=hrel;by_cases b4:j<a.length
     ·have a2:=X.o;obtain ⟨gl,rfl⟩:=AA a2 (by omega);have b2:=a2.cellAt j (by omega);rw [List.getElem?_map,List.getElem?_eq_getElem b4] at b2;simp only [Option.map_some] at b2;have i0:=(a2.lt gl rfl).2;have HG:=Aa (List.getElem?_eq_getElem b4);have b3:=(c6.o a[j]).1 (List.getElem_mem _);have g0:=Aa b3;have i6:(j:Int)<(a.length:Int):=by omega
      have Z:=Aa (show j+1≤a.length from b4);have i9:a[j]<P.length:=a6.o _ ((p.o.1.le c p.o.2).step b3);have h5:r.length≤100000:=by
       have I:=G.o _ rfl;have U:=b9.o;have h3:r.length≤2*((List.range 12).countP fun i=>@decide (¬m i) (Classical.propDecidable _))+r.length:=by omega
       omega
      clear a2 b3;generalize a[j]=x at*;go_wp2_with fail;refine (Fg O m x wr B.o (by omega)).mono ?_;rintro e M ⟨rb,rfl,f7,s7,o7⟩;have V:=z.o.ne B.o;have f4:=z.o.O o7 (fun k K q=>V k K q);have e3:AD B5 M (.slice (some ⟨gl,0,none⟩) a.length N) a:=Ac X.o o7 (fun k K q=>by obtain ⟨i3,e1⟩:=B8 X.o k K;obtain ⟨es,c',e2⟩:=B.o.isMap;rw [←q,e1] at e2;cases e2)
      have f2:Ab (fun _=>False) w M:=C.o.thn o7 (fun k K q=>by omega);have c2:dN (∀t y,t<j+1→a[t]? =some y→(m y∨y=x)):=fun t y ht hy=>by
       by_cases e:t=j
       ·subst e;rw [HG.o] at hy;cases hy;exact .inr rfl
       ·exact .inl (HD.o t y (by omega) hy)
      have T:=Aa f4;have Y:=Aa e3;have a0:=Aa f2;have a1:=Aa s7;have d4:=Aa f7;clear f4 e3 f2 s7 o7 f7 V B C X z HD b2 i0;cases rb
      ·have f3:m x:=Classical.byContradiction fun q=>by have:=d4.o.2 q;cases this
       have a4:=Aa (p.o.1.old f3);have a7:dN (∀n,Ls (fun y=>m y∨y=x) r.length n→n<L):=by
        have e:(fun y=>m y∨y=x)=m:=funext fun y=>propext ⟨fun q=>q.elim id fun q=>q▸f3,.inl⟩
        rw [e];exact G.o
       go_wp2_with fail;go_roundw
       case rel=>exact ⟨j+1,_,r,q,rfl,Z.o,by go_num,T,a1,⟨a4.o,.inl p.o.2⟩,c2,a7,Y,F,a0⟩
       case measure=>have:=Z.o;simp [intOf];omega
      ·have h7:¬m x:=d4.o.1 rfl;have a4:=Aa (p.o.1.add p.o.2 g0.o);have a7:dN (∀n,Ls (fun y=>m y∨y=x) (r++[x]).length n→n<L):=fun n h=>by rw [List.length_append,List.length_singleton] at h;exact Nat.lt_of_lt_of_le (UC (by omega) h7 rfl h) (Nat.le_of_lt (G.o _ rfl))
       have f5:IF w.heap.size (M.alloc (.cells #[.int .i64 (x:Nat)] 3)) q r:=T.o.O ((Ab.refl (fun _=>False) M).alloc _) (fun _ _ q=>q);have i8:=a0.o.size;have d3:=Aa f5;clear f5;go_wp2_with (at_builtin;refine Jl _ rfl _ _ rfl rfl d3.o x ⟨M.heap.size,0,none⟩ 1 rfl (by simp) (Addr.add_lit _ _ _) h5 (by simp;omega) ?_;intro g9 o9 g8 w9 q9 f8 e0);have a3:Ab (fun k=>q.ownBlock=some k) M w9:=((Ab.refl _ M).alloc _).trans f8;have V:=T.o.ne a1.o;have g6:=Aa q9;have g7:=Aa (a1.o.O a3 (fun q=>V _ q rfl));have g2:dN (AD B5 w9 (.slice (some ⟨gl,0,none⟩) a.length N) a):=Ac Y.o a3 (fun k K q=>F.o k k q K rfl);have g5:dN (Ab (fun _=>False) w w9):=a0.o.thn a3 (fun k K q=>by have:=(T.o.kind k q).1;omega);have g1:dN (∀k s,Value.ownBlock (.slice (some ⟨g9,o9,none⟩) (r.length+1) g8)=some k→Value.ownBlock (.slice (some ⟨gl,0,none⟩) a.length N)=some s→k≠s):=fun k s I U=>by
        cases I;rcases e0 with h | h
        ·exact F.o _ _ h U
        ·have:=(Y.o.lt s U).2;simp at h;show g9≠s;omega
       clear q9 f8 e0 a3 V d3 T a1 Y a0;go_wp2_with fail;go_roundw
       case rel=>exact ⟨j+1,_,r++[x],_,rfl,Z.o,by go_num,g6,g7,⟨a4.o,.inl p.o.2⟩,c2,a7,g2,g1,g5⟩
       case measure=>have:=Z.o;simp [intOf];omega
     ·have e:j=a.length:=by omega
      subst e;have i5:decide ((a.length:Int)<(a.length:Int))=false:=by simp
      have f9:dN (Bf P v.s d m r (fun _=>False)):=p.o.1.fin fun x hx=>by obtain ⟨t,ht,e⟩:=List.mem_iff_getElem.1 ((c6.o x).2 hx);exact HD.o t x ht (by rw [List.getElem?_eq_getElem ht,e])
      obtain ⟨Q,f0⟩:∃n,Ls m r.length n:=⟨_,rfl⟩;have h6:=G.o Q f0;have c5:dN (J Q q wr):=by show J Q q wr;rw [HJ.o];exact ⟨m,r,z,B,f9,f0,by have:=b9.o;show Q≤25;omega,C⟩
      go_wp2_with fail;go_roundw
      case rel=>exact ⟨q,rfl,Q,c5.o⟩
      case measure=> refine Nat.lt_of_le_of_lt (c7.o (fun n=>J n q wr) Q c5.o).2 (Nat.lt_of_lt_of_le h6 (Nat.le_of_eq ?_));exact g4.o
def RZ:Prop:=∀(s:ByteArray) (W:World),s.size≤4000→Calls Tryz.prog 102 #[.string s] W fun e a=>e=.returned (.string s)∧Ab (fun _=>False) W a
theorem MB(z:RZ)(B N l w)(h:Au B w N l)(hl:l.length≤4000)(G:∀s,s∈l→s.size≤4000):
 Calls Tryz.prog 103 #[N] w fun e O=>∃v,e=.returned v∧Au w.heap.size O v l∧Ab (fun _=>False) w O:=by
 obtain ⟨L,C,I,J,K⟩:=info_parts Tryz.infoStr;obtain ⟨va,vl,vc,rfl⟩:=Ad h;have a3:=Aq h;subst a3;obtain ⟨Q,a0,M,y⟩:=run_make_own (P:=Tryz.prog) w w.heap.size 28 9 L (.string ByteArray.empty) 1 Tryz.underlying28 C I J .i64 .i64 l.length (by rw [K];omega) (by unfold maxLen;omega) (Nat.le_refl _);have t:dN (Au w.heap.size Q (.slice (some ⟨w.heap.size,0,none⟩) 0 l.length) (l.take 0)):=M;have p:dN (Ab (fun _=>False) w Q):=Ab.grown (Ab.refl _ w) y (fun k D=>by cases D);have X:=Aa h;have T:=Aa z;have V:=Aa G;clear M y h z G;go_enter Tryz.func103,Tryz.ntmps103;go_wp2_with fail;clear a0;go_loopw [3,11] (fun v i wr=>∃(k:Nat) (a:Value),a=v∧k≤l.length∧i=.int .i64 k∧dN (Au w.heap.size wr a (l.take k))∧dN (Ab (fun _=>False) w wr)) (fun _ i _=>l.length-(intOf i).toNat)
 case atStart=>exact ⟨0,_,rfl,by omega,rfl,t,p⟩
 case round=>
  clear t p;obtain ⟨k,v,rfl,D,rfl,f,b⟩:=hrel;by_cases d:k<l.length
  ·have c:=Ac X.o b.o (fun _ _ q=>q);obtain ⟨Z,rfl⟩:=AA c (by omega);have m:=c.cellAt k (by omega);rw [List.getElem?_map,List.getElem?_eq_getElem d] at m;simp only [Option.map_some] at m;have a4:=(c.lt Z rfl).2;have a6:(k:Int)<(l.length:Int):=by omega
   have r:=Aa (show k+1≤l.length from d);have a2:=V.o _ (List.getElem_mem d);have W:dN (l.take (k+1)=l.take k++[l[k]]):=List.take_succ_eq_append_getElem d;have a7:(l.take k).length≤4000:=by rw [List.length_take];omega
   clear c;generalize l[k]=x at*;go_wp2_with fail;refine (T.o x wr a2).mono ?_;rintro e R ⟨rfl,o⟩;have F:Au w.heap.size R v (l.take k):=Ac f.o o (fun _ _ q=>q);have n:=b.o.trans o;have a8:=n.size;have u:=Aa F;have U:=Aa n;clear F n o f b m a4;go_wp2_with (at_builtin;refine wpList_append_own _ rfl _ _ 28 rfl w.heap.size 9 L (.string ByteArray.empty) 1 16 Tryz.underlying28 C I J K rfl (by decide) _ _ _ rfl (u.o.alloc _) ⟨R.heap.size,0,none⟩ 1 1 [.string x] rfl rfl (A5 (by simp) _ _) (fun x H=>by simp at H;subst H;rfl) (by unfold maxLen;omega) (by omega) (by simp;omega) ?_;intro a S E A a1);have Y:dN (Ab (fun _=>False) w S):=Ab.grown (U.o.alloc _) A (fun j hj=>.inr (u.o.lt j hj).1);have g:dN (Au w.heap.size S a (l.take (k+1))):=by show Au _ _ _ _;rw [W.o];unfold Au;rw [List.length_append,List.map_append];exact E
   clear A a1 E;go_wp2_with fail;go_roundw
   case rel=>exact ⟨k+1,a,rfl,r.o,by go_num,g,Y⟩
   case measure=>have:=r.o;simp [intOf];omega
  ·have e:k=l.length:=by omega
   subst e;have a5:decide ((l.length:Int)<(l.length:Int))=false:=by simp
   have g:dN (Au w.heap.size wr v l):=by have:=f.o;rw [List.take_length] at this;exact this
   go_wp2_with fail;go_ret;exact ⟨v,rfl,g.o,b.o⟩
end Go.Proofs.YtegmjgjkcdbmkaaGreatDoor
