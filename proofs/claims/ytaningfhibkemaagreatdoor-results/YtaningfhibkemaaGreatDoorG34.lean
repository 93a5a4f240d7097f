/- Part of the proof: ArB ArC. -/
import Derived.Test.YtaningfhibkemaaGreatDoorG33
set_option maxRecDepth 100000
set_option maxHeartbeats 4000000
namespace Go.Proofs.YtaningfhibkemaaGreatDoor
open Go.RowKit Go.Maps Go.Proofs.Tryz
theorem Gz.lt{P d a}{S:Sy}(A:AnOk P d a)(h:S.le (least P)){m g:Nat}(c:m<P.length)(k:Gz P S m g):g<P.length:=k (fun x=>x<P.length) c fun _ _ b q=>q.lt A h b
theorem JJ.new(B:Nat)(w:World)(n:Nat)(a:B<=w.heap.size):JJ B (w.alloc (.cells #[.int .i64 (n:Nat)] 3)) (.slice (some ⟨w.heap.size,0,none⟩) 1 1) [n]:=
 ⟨w.heap.size,0,1,_,rfl,a,heap_alloc_new w _,gI _,jY,T,fun j b=>by
   have:j=0:=by simpa using b
   subst this;rfl⟩
theorem JJ.ne{B w v l b m}(h:JJ B w v l)(k:Bl b m w):∀x,v.ownBlock=some x->x≠b:=by rintro x d rfl;obtain⟨_,f,e⟩:=h.kind x d;obtain⟨g,c,a⟩:=k.isMap;rw[e]at a;cases a
theorem Qr(P X fv d pn cn o v w)(A:AnOk P pn cn)(h:D6 P X fv d pn cn o v w)(hm:d<P.length)(e8:v.s.le (least P)):
 Calls prog 42 #[.pointer (some ⟨X,0,none⟩)] w fun e w'=>∃b,e=.returned (.map (some b))/\w.heap.size<=b/\Bl b (Gz P v.s d) w'/\O kD w w':=by
 have p1:=h.r.bY.cell 1;have c1:=Ae h.r.bY;simp only[G7,gH,gF,gG]at p1;have h6:=A.cR;have a9:=J (fun g (k:Gz P v.s d g)=>k.lt A e8 hm);have H:=J h;have HA:=J A;clear h A e8;go_enter func42,ntmps42;go_wp2_with fail;refine(Kf d w Z).mono ?_;rintro e F ⟨S,rfl,i2,s2,o2⟩;have p2:F.cell? ⟨X,1,none⟩=some (.int .i64 d):=(gJ (o2.block X c1 id)).trans p1;have i4:X<F.heap.size:=gY c1 o2.size;have q3:=JJ.new w.heap.size F d o2.size;have o3:O kD w (F.alloc (.cells #[.int .i64 d] 3)):=o2.alloc _;have s3:Bl S (fun g=>g=d) (F.alloc (.cells #[.int .i64 d] 3)):=s2.d8 ((O.refl kD F).alloc _) id;have d4:=J q3;have d2:=J o3;have d8:=J s3;clear q3 o3 s3 s2 o2 p1 c1;go_wp2_with fail;clear p2 i4;generalize F.alloc (.cells #[.int .i64 d] 3)=W3 at*;generalize F.heap.size=g3 at*;obtain⟨mf,e9⟩:=Oh;obtain⟨z,hJ⟩:∃z:Nat->Value->World->Prop,z=fun n q u=>∃(G:Nat->Prop) (l:List Nat),D (JJ w.heap.size u q l)/\D (Bl S G u)/\D (Bf P v.s d G l (fun _=>False))/\D (MJ G l.length n)/\D (n<=25)/\D (O kD w u):=⟨_,rfl⟩
 have c7:D (∃n,z n (.slice (some ⟨g3,0,none⟩) 1 1) W3):=⟨_,by rw[hJ];refine⟨_,[d],d4,d8,Bf.start P v.s d,rfl,?_,d2⟩;show _+[d].length<=25;have:List.countP (fun i=>@decide (¬(i=d)) (Classical.propDecidable _)) (List.range 12)<=(List.range 12).length:=List.countP_le_length;rw[List.length_range]at this;simp only[iC];omega⟩
 have HJ:=J hJ;have d0:=J e9;clear d4 d8 d2 hJ e9;go_loopw[4] (fun q u=>∃V,V=q/\∃n,z n V u) (fun q u=>mf (fun n=>z n q u))
 case atStart=>exact⟨_,rfl,c7.o⟩
 case round=>
  clear c7;obtain⟨q,rfl,n0,f0⟩:=hrel;have f1:=(d0.o (fun n=>z n q wr) n0 f0).1;obtain⟨N,b9⟩:∃N,N=mf (fun n=>z n q wr):=⟨_,rfl⟩;have f2:z N q wr:=by rw[b9];exact f1
  rw[HJ.o]at f2;obtain⟨G,l,B,C,p,K,c3,E⟩:=f2;have g7:=J b9;clear f0 f1 b9 n0;obtain⟨g,oo,b3,e,j3,j4,lc,lm⟩:=B.o.form;subst e;cases l with
  |nil=> have HX:=J (C.o.iff p.o.done);rw[gZ];go_wp2_with fail;go_ret;exact⟨S,rfl,i2,HX.o,E.o⟩
  |cons c l=>
   have c0:=B.o.head;obtain⟨o5,e5,Q5⟩:=B.o.tail;rw[gK]at lc⊢;have hp:(0:Int)<(l.length:Int)+1:=Z;have h7:c<P.length:=a9.o c (p.o.le c p.o.pop.2);have hE:=H.o.s9 E.o;have HE:=J hE;have d5:=J Q5;have c6:=J e5;clear Q5 e5 hE;go_upto_region 6 with fail;rw[c6.o];clear c0 c6;go_wp2_with fail;refine(Pf P X fv d pn cn o v wr HA.o HE.o c h7).mono ?_;rintro e w5 ⟨kb,rfl,j5,s5,c2⟩;have b4:=HE.o.s9 c2;have b1:=J c2;have e3:=J b4.tb;have e4:=J b4.tl;have d9:=J s5;clear s5 c2 b4;go_wp2_with fail;refine(DS kb _ w5 d9.o e3.o e4.o).mono ?_;rintro e w6 ⟨cv,a,rfl,hI,f4,b8,o6⟩;obtain⟨ca,i5,R,rfl⟩:=Ad hI;have i1:=Ag hI;subst i1;have i7:a.length<=12:=DJ 12 a f4 fun x hx=>gY (a9.o _ ((p.o.le c p.o.pop.2).step ((b8 x).1 hx))) h6
   have hO:=b1.o.trans o6;have j0:=b1.o.size;have q6:JJ w.heap.size w6 (.slice (some ⟨g,o5,none⟩) l.length (b3-1)) l:=d5.o.d8 hO (fun _ _ q=>q);have s6:Bl S G w6:=C.o.d8 hO id;have a8:=J hI;have b2:=J q6;have e0:=J s6;have d3:=J (E.o.trans hO);have c9:=J b8;have I:D (∀k s,Value.ownBlock (.slice (some ⟨g,o5,none⟩) l.length (b3-1))=some k->Value.ownBlock (.slice ca a.length R)=some s->k≠s):=fun k s L h2=>by cases L;have:=(a8.o.lt s h2).1;show g≠s;omega
   have c4:=J p.o.pop;have d1:D (∀n,MJ G l.length n->n<N):=fun n h=>by have L:=K.o;unfold MJ at h L;rw[gK]at L;omega
   clear hI f4 b8 o6 hO q6 s6 B C p E K d5 HE e3 e4 d9 b1;go_wp2_with fail;obtain⟨qv,f9⟩:∃qv,qv=Value.slice (some ⟨g,o5,none⟩) l.length (b3-1):=⟨_,rfl⟩;rw[<-f9]at b2 I⊢;clear f9;generalize w5.heap.size=B5 at*;go_loopw[4,33] (fun q i u=>∃(j:Nat) (m:Nat->Prop) (r:List Nat) (V:Value),V=q/\j<=a.length/\i=.int .i64 j/\D (JJ w.heap.size u V r)/\D (Bl S m u)/\D (Bf P v.s d m r (fun f=>f=c)/\m c)/\D (∀t x,t<j->a[t]? =some x->m x)/\D (∀n,MJ m r.length n->n<N)/\D (Ax B5 u (.slice ca a.length R) a)/\D (∀k s,V.ownBlock=some k->Value.ownBlock (.slice ca a.length R)=some s->k≠s)/\D (O kD w u)) (fun _ i _=>a.length-(intOf i).toNat)
   case atStart=>exact⟨0,G,l,qv,rfl,Z,rfl,b2,e0,c4,fun t x ht=>Z,d1,a8,I,d3⟩
   case round=>
    clear b2 e0 c4 d1 a8 I d3;obtain⟨j,m,r,q,rfl,hj,rfl,B,C,p,HD,K,HI,I,E⟩:=hrel;by_cases b7:j<a.length
    .have a5:=HI.o;obtain⟨gl,rfl⟩:=Ap a5 Z;have b5:=a5.cellAt j Z;rw[iL,gL b7]at b5;simp only[Option.map_some]at b5;have i3:=(a5.lt gl rfl).2;have HG:=J (gL b7);have b6:=(c9.o a[j]).1 (gQ _);have g4:=J b6;have i9:(j:Int)<(a.length:Int):=Z;have a2:=J (show j+1<=a.length from b7);have j2:a[j]<P.length:=a9.o _ ((p.o.1.le c p.o.2).step b6);have h8:r.length<=100000:=by have L:=K.o _ rfl;have h2:=c3.o;have h3:r.length<=2*((List.range 12).countP fun i=>@decide (¬m i) (Classical.propDecidable _))+r.length:=Z;omega
     clear a5 b6;generalize a[j]=x at*;go_wp2_with fail;refine(Gf S m x wr C.o Z).mono ?_;rintro e Q ⟨rb,rfl,g0,s7,o7⟩;have a0:=B.o.ne C.o;have f7:=B.o.d8 o7 (fun k M q=>a0 k M q);have e7:Ax B5 Q (.slice (some ⟨gl,0,none⟩) a.length R) a:=Ac HI.o o7 (fun k M q=>by obtain⟨i6,e1⟩:=Dw HI.o k M;obtain⟨es,c',e2⟩:=C.o.isMap;rw[<-q,e1]at e2;cases e2)
     have f5:O kD w Q:=E.o.thn o7 (fun k M q=>Z);have c5:D (∀t y,t<j+1->a[t]? =some y->(m y\/y=x)):=fun t y ht hy=>by
      by_cases e:t=j
      .subst e;rw[HG.o]at hy;cases hy;exact .inr rfl
      .exact .inl (HD.o t y Z hy)
     have Y:=J f7;have a1:=J e7;have a3:=J f5;have a4:=J s7;have d7:=J g0;clear f7 e7 f5 s7 o7 g0 a0 C E HI B HD b5 i3;cases rb
     .have f6:m x:=Classical.byContradiction fun q=>by have:=d7.o.2 q;cases this
      have a7:=J (p.o.1.old f6);have b0:D (∀n,MJ (fun y=>m y\/y=x) r.length n->n<N):=by
       have e:(fun y=>m y\/y=x)=m:=funext fun y=>propext ⟨fun q=>q.elim id fun q=>q▸f6,.inl⟩
       rw[e];exact K.o
      go_wp2_with fail;go_roundw
      case rel=>exact⟨j+1,_,r,q,rfl,a2.o,by go_num,Y,a4,⟨a7.o,.inl p.o.2⟩,c5,b0,a1,I,a3⟩
      case measure=>have:=a2.o;simp[intOf];omega
     .have i0:¬m x:=d7.o.1 rfl;have a7:=J (p.o.1.add p.o.2 g4.o);have b0:D (∀n,MJ (fun y=>m y\/y=x) (r++[x]).length n->n<N):=fun n h=>by rw[gM,iC]at h;exact gY (Vy Z i0 rfl h) (Nat.le_of_lt (K.o _ rfl))
      have f8:JJ w.heap.size (Q.alloc (.cells #[.int .i64 (x:Nat)] 3)) q r:=Y.o.d8 ((O.refl kD Q).alloc _) (fun _ _ q=>q);have j1:=a3.o.size;have d6:=J f8;clear f8;go_wp2_with(at_builtin;refine Kk _ rfl _ _ rfl rfl d6.o x ⟨Q.heap.size,0,none⟩ 1 rfl jY (Addr.add_lit _ _ _) h8 jX ?_;intro g9 o9 h5 w9 q9 g1 e6);have a6:O (fun k=>q.ownBlock=some k) Q w9:=((O.refl _ Q).alloc _).trans g1;have a0:=Y.o.ne a4.o;have h0:=J q9;have h4:=J (a4.o.d8 a6 (fun q=>a0 _ q rfl));have g6:D (Ax B5 w9 (.slice (some ⟨gl,0,none⟩) a.length R) a):=Ac a1.o a6 (fun k M q=>I.o k k q M rfl);have g8:D (O kD w w9):=a3.o.thn a6 (fun k M q=>by have:=(Y.o.kind k q).1;omega);have g5:D (∀k s,Value.ownBlock (.slice (some ⟨g9,o9,none⟩) (r.length+1) h5)=some k->Value.ownBlock (.slice (some ⟨gl,0,none⟩) a.length R)=some s->k≠s):=fun k s L h2=>by
       cases L;rcases e6 with h|h
       .exact I.o _ _ h h2
       .have:=(a1.o.lt s h2).2;simp at h;show g9≠s;omega
      clear q9 g1 e6 a6 a0 d6 Y a4 a1 a3;go_wp2_with fail;go_roundw
      case rel=>exact⟨j+1,_,r++[x],_,rfl,a2.o,by go_num,h0,h4,⟨a7.o,.inl p.o.2⟩,c5,b0,g6,g5,g8⟩
      case measure=>have:=a2.o;simp[intOf];omega
    .have e:j=a.length:=Z;subst e;have i8:decide ((a.length:Int)<(a.length:Int))=false:=jY;have g2:D (Bf P v.s d m r (fun _=>False)):=p.o.1.fin fun x hx=>by obtain⟨t,ht,e⟩:=iF.1 ((c9.o x).2 hx);exact HD.o t x ht (by rw[gL ht,e])
     obtain⟨U,f3⟩:∃n,MJ m r.length n:=⟨_,rfl⟩;have h9:=K.o U f3;have c8:D (z U q wr):=by show z U q wr;rw[HJ.o];exact⟨m,r,B,C,g2,f3,by have:=c3.o;show U<=25;omega,E⟩
     go_wp2_with fail;go_roundw
     case rel=>exact⟨q,rfl,U,c8.o⟩
     case measure=> refine Nat.lt_of_le_of_lt (d0.o (fun n=>z n q wr) U c8.o).2 (gY h9 (Nat.le_of_eq ?_));exact g7.o
def QU:Prop:=∀(s:ByteArray) (a:World),s.size<=4000->Calls prog 92 #[.string s] a fun e b=>e=.returned (.string s)/\O kD a b
theorem N7(z:QU)(B R l w)(h:Au B w R l)(hl:l.length<=4000)(H:∀s,s∈l->s.size<=4000):
 Calls prog 93 #[R] w fun e S=>∃v,e=.returned v/\Au w.heap.size S v l/\O kD w S:=by
 obtain⟨N,C,K,L,M⟩:=info_parts Tryz.infoStr;obtain⟨va,vl,vc,rfl⟩:=Ad h;have a5:=Ag h;subst a5;obtain⟨U,a2,Q,y⟩:=run_make_own (P:=prog) w w.heap.size 51 9 N (.string ByteArray.empty) 1 underlying51 C K L .i64 .i64 l.length (by rw[M];omega) jZ (gI _);have t:D (Au w.heap.size U (.slice (some ⟨w.heap.size,0,none⟩) 0 l.length) (l.take 0)):=Q;have p:D (O kD w U):=O.grown (O.refl _ w) y (fun k E=>by cases E);have HV:=J h;have Y:=J z;have a1:=J H;clear Q y h z H;go_enter func93,ntmps93;go_wp2_with fail;clear a2;go_loopw[3,11] (fun v i wr=>∃(k:Nat) (a:Value),a=v/\k<=l.length/\i=.int .i64 k/\D (Au w.heap.size wr a (l.take k))/\D (O kD w wr)) (fun _ i _=>l.length-(intOf i).toNat)
 case atStart=>exact⟨0,_,rfl,Z,rfl,t,p⟩
 case round=>
  clear t p;obtain⟨k,v,rfl,E,rfl,f,b⟩:=hrel;by_cases d:k<l.length
  .have c:=Ac HV.o b.o (fun _ _ q=>q);obtain⟨gl,rfl⟩:=Ap c Z;have m:=c.cellAt k Z;rw[iL,gL d]at m;simp only[Option.map_some]at m;have a6:=(c.lt gl rfl).2;have a8:(k:Int)<(l.length:Int):=Z;have r:=J (show k+1<=l.length from d);have a4:=a1.o _ (gQ d);have HT:D (l.take (k+1)=l.take k++[l[k]]):=iN d;have a9:(l.take k).length<=4000:=by rw[List.length_take];omega
   clear c;generalize l[k]=x at*;go_wp2_with fail;refine(Y.o x wr a4).mono ?_;rintro e V ⟨rfl,o⟩;have G:Au w.heap.size V v (l.take k):=Ac f.o o (fun _ _ q=>q);have n:=b.o.trans o;have b0:=n.size;have u:=J G;have a0:=J n;clear G n o f b m a6;go_wp2_with(at_builtin;refine iQ _ rfl _ _ 51 rfl w.heap.size 9 N (.string ByteArray.empty) 1 16 underlying51 C K L M rfl T _ _ _ rfl (u.o.alloc _) ⟨V.heap.size,0,none⟩ 1 1 [.string x] rfl rfl (AC jY _ _) (fun x I=>by simp at I;subst I;rfl) jZ Z jX ?_;intro a X F A a3);have O3:D (O kD w X):=O.grown (a0.o.alloc _) A (fun j hj=>.inr (u.o.lt j hj).1);have g:D (Au w.heap.size X a (l.take (k+1))):=by show Au _ _ _ _;rw[HT.o];unfold Au;rw[gM,jP];exact F
   clear A a3 F;go_wp2_with fail;go_roundw
   case rel=>exact⟨k+1,a,rfl,r.o,by go_num,g,O3⟩
   case measure=>have:=r.o;simp[intOf];omega
  .have e:k=l.length:=Z;subst e;have a7:decide ((l.length:Int)<(l.length:Int))=false:=jY;have g:D (Au w.heap.size wr v l):=by have:=f.o;rw[List.take_length]at this;exact this
   go_wp2_with fail;go_ret;exact⟨v,rfl,g.o,b.o⟩
