/- Part of the proof: RdG RdJ RdK RdK2 RdN RdO. -/
import Derived.Test.YtaningfhibkemaaGreatDoorG07
import Derived.Deep.CutBlock
set_option maxRecDepth 100000
set_option maxHeartbeats 40000000
namespace Go.Proofs.YtaningfhibkemaaGreatDoor
open Go.RowKit Go.Proofs.Tryz
theorem Zo(k)(h:k<4):(({data:=#[48,49,50,51]}:ByteArray).extract k (k+1)).toList=[UInt8.ofNat (48+k)]:=by have:k=0\/k=1\/k=2\/k=3:=Z;rcases this with rfl|rfl|rfl|rfl<;>decide+kernel
structure VG(j p G F g n A:Nat)(f:List Tk)(B C:Value)(x:St)(L K:Array Value)(I:Value)(H:List Tk)(E w:World):Prop where
 v:VF j p G F g n A f B C x L K w
 o:O (fun k=>k=j\/k=p) E w
 b:E.heap.size<=G
 d:E.heap.size<=F
 c:x.bZ<n
 z:(tokAt f (n-1)).sort=0
 r:w.ownsRow E.heap.size 49 3 I H.length (Bc H)
section
variable{j p G F g n A:Nat}{f:List Tk}{B C:Value}{x:St}{L K:Array Value}{I:Value}{H:List Tk}{E w M:World}
theorem VG.quiet(h:VG j p G F g n A f B C x L K I H E w)(a:O kD w M):VG j p G F g n A f B C x L K I H E M:=
 ⟨h.v.quiet a,h.o.dA a,h.b,h.d,h.c,h.z,Ac h.r a (fun _ _ q=>q)⟩
theorem VG.cK(h:VG j p G F g n A f B C x L K I H E w)(i u):VG j p G F g n A f B C x (L.setIfInBounds i u) K I H E (w.setCell ⟨G,i,none⟩ u):=
 ⟨h.v.cK i u,h.o.cE i u h.b,h.b,h.d,h.c,h.z,Ai h.r ((O.refl _ _).t9 i u) (CT h.v.sx T)⟩
theorem VG.eL(h:VG j p G F g n A f B C x L K I H E w){u:Int}{m:Nat}(a:u=m):VG j p G F g n A f B C ⟨x.bZ,x.cB,m,x.ca⟩ L K I H E (w.setCell ⟨p,2,none⟩ (.int .i64 u)):=
 ⟨h.v.fC a,h.o.eQ 2 _,h.b,h.d,h.c,h.z,Ai h.r ((O.refl _ _).t9 2 _) (CT h.v.pr.bY T)⟩
theorem VG.eK(h:VG j p G F g n A f B C x L K I H E w){u:Int}{m:Nat}(a:u=m):VG j p G F g n A f B C ⟨x.bZ,x.cB,x.pl,m⟩ L K I H E (w.setCell ⟨p,3,none⟩ (.int .i64 u)):=
 ⟨h.v.fB a,h.o.eQ 3 _,h.b,h.d,h.c,h.z,Ai h.r ((O.refl _ _).t9 3 _) (CT h.v.pr.bY T)⟩
theorem VG.next(h:VG j p G F g n A f B C x L K I H E w)(v l)(a:v.toList=l):
 Calls prog 97 #[.pointer (some ⟨j,0,none⟩),.string v] w fun e M=>e=.returned (.bool (Bs x.cB (tokAt f x.bZ) l))/\D (VG j p G F g n A f B C x L K I H E M):=
 (Rz j p g n A x.bZ x.cB f v l a w h.v.rd h.v.tk h.c).mono (fun _ _ q=>⟨q.1,h.quiet q.2⟩)
theorem VG.dE(h:VG j p G F g n A f B C x L K I H E w)(v l)(b:v.toList=l):
 Calls prog 51 #[.pointer (some ⟨j,0,none⟩),.string v] w fun e M=>∃a,D (Aw f l x=a)/\e=.returned (.tuple #[])/\D (VG j p G F g n A f B C a L K I H E M):=
 (Jc j p g n A x.bZ x.cB f v l b w h.v.rd h.v.tk h.c).mono (fun _ _ q=>⟨_,rfl,q.1,h.v.dE rfl q.2.2 q.2.1,h.o.tr q.2.2,h.b,h.d,Cb rfl h.z h.c,h.z,Ai h.r q.2.2 (CT h.v.rd.bY T)⟩)
theorem VG.get(h:VG j p G F g n A f B C x L K I H E w)(k:Nat)(b:k≠0):
 Calls prog 52 #[.pointer (some ⟨j,0,none⟩),.int .i64 k] w fun e M=>∃q a,D (Bm f k x=(q,a))/\e=.returned (JN q)/\D (VG j p G F g n A f B C a L K I H E M):=
 (K6 j p g n A x.bZ k x.cB f w h.v.rd h.v.tk h.c).mono (fun _ _ q=>⟨_,_,rfl,q.1,h.v.get rfl q.2.2 q.2.1,h.o.tr q.2.2,h.b,h.d,Ev rfl b h.z h.c,h.z,Ai h.r q.2.2 (CT h.v.rd.bY T)⟩)
theorem VG.list(h:VG j p G F g n A f B C x L K I H E w):
 Calls prog 53 #[.pointer (some ⟨j,0,none⟩)] w fun e M=>∃q i a l c,D (BQ f x=(q,i))/\e=.returned (.slice a l c)/\D (VG j p G F g n A f B C i L K (.slice a l c) q E M):=by
 refine(PK j p g n A x.bZ x.cB f w h.v.rd h.v.tk h.c h.z).mono ?_;rintro e M ⟨v,rfl,d,k,b⟩;obtain⟨a,l,c,rfl⟩:=Ad d;exact⟨_,_,a,l,c,rfl,rfl,h.v.list rfl b k,h.o.tr b,h.b,h.d,EO rfl h.z h.c,h.z,Aq d h.o.size⟩
theorem VG.post{y r}(h:VG j p G F g n A f B C x L K I H E w)(e:y.args=H)(l:r=(y,x))(c)(a:O (fun k=>k=F) w c):Ts j p g n A f B C E r (.returned (.agg (Bo y I AW AW))) c:=by subst e l;have b:=h.v.dP;have m:=h.d;refine⟨I,rfl,Ai h.r a (CT h.v.ox T),h.v.rd.d8 a (Ne.symm b.2.2.2.1),h.v.tk.d8 a b.2.2.2.2.2.2.2.2,h.v.pr.bY.d8 a (Ne.symm b.2.2.2.2.2.2.1),a.os.trans h.o.os,a.tape.trans h.o.tape,a.output.trans h.o.output,gW h.o.size a.size,fun k d i=>?_⟩;rw[a.block k (gY d h.o.size) (fun q=>Z)];exact h.o.block k d i
end
theorem Va(j p g n A f B C S s w)(hr:AI j p g n A S.bZ S.cB w)(ht:AO g n A f w)(hp:BZ p B C S.pl S.ca w)(c7:S.bZ<n)(hz:(tokAt f (n-1)).sort=0)(ha:s.args=[])(f0:S.pl<=4001)(e8:S.ca<=4001):
 Calls prog 132 #[.pointer (some ⟨j,0,none⟩),.agg (Bo s AW AW AW)] w fun e M=>Ts j p g n A f B C w (C0 f S s) e M:=by
 have hn:=ht.2.2;have lr:=Ae hr;have lp:=Ae hp;have b1:D (VG j p w.heap.size (w.heap.size+1) g n A f B C S (Bo s AW AW AW) zS AW s.args w ((w.alloc (.cells (Bo s AW AW AW) 92)).alloc (.cells zS 92))):=
  ⟨⟨(hr.bY.alloc _).alloc _,(ht.d8 (((O.refl kD w).alloc _).alloc _) id),(hp.bY.alloc _).alloc _,(W.new _ _ _).alloc _,by have:=W.new (w.alloc (.cells (Bo s AW AW AW) 92)) zS 92;simpa using this,Z⟩,((O.refl _ _).alloc _).alloc _,gI _,Nat.le_succ _,c7,hz,by rw[ha];exact gR _ _ _ _⟩
 obtain⟨y,hy⟩:∃y,C0 f S s=y:=⟨_,rfl⟩;rw[hy];have HY:=J hy;obtain⟨t,HT⟩:∃t,D (tokAt f S.bZ=t):=⟨_,rfl⟩;clear hy hr ht hp hz ha;go_enter func132,ntmps132;go_wp2;generalize (w.alloc (.cells (Bo s AW AW AW) 92)).alloc (.cells zS 92)=W0 at b1⊢;obtain⟨t0,t1,t2⟩:=b1.o.v.tk.cells c7;rw[HT.o]at t0 t1 t2;obtain⟨r0,r1⟩:=b1.o.v.rd.bY.e2 0 1;simp only[gH,gF,gG]at r0 r1;have l0:=Ae b1.o.v.rd;have l1:g<W0.heap.size:=(b1.o.v.tk.1.lt g rfl).2;have ls:w.heap.size<W0.heap.size:=Ae b1.o.v.sx;have lo:w.heap.size+1<W0.heap.size:=Ae b1.o.v.ox;have i:=b1.o.v.sx.frozen;have d:=b1.o.v.sx.cell 0;simp[Bo]at d;go_region;go_upto_region 3 with fail;go_cut[28] (fun v wx=>v=.bool (decide (t.sort=2\/t.sort=4))/\D (W W0.heap.size #[.string t.d9,.int .i64 t.pos,.int .i64 t.sort] 49 wx)/\D (VG j p w.heap.size (w.heap.size+1) g n A f B C S (Bo s AW AW AW) zS AW s.args w wx))
 case first=>
  have hs:(t.sort=2/\((t.sort:Int)==2)=true)\/(t.sort=4/\((t.sort:Int)==2)=false/\((t.sort:Int)==4)=true)\/((¬(t.sort=2\/t.sort=4))/\((t.sort:Int)==2)=false/\((t.sort:Int)==4)=false):=by
   by_cases h:t.sort=2
   .simp[h]
   by_cases k:t.sort=4
   .simp[k]
   .simp;omega
  rcases hs with⟨hs,c9⟩|⟨hs,c9,f1⟩|⟨hs,c9,f1⟩
  all_goals
   have HS:=J hs;clear hs;go_wp2_with fail;go_meet
   case rel=>exact⟨by simp[HS.o],W.d8 (W.new _ _ _) (X:=kD) jV id,b1.o.quiet jV⟩
 case rest=>
 obtain⟨rfl,d5,b2⟩:=hcut;have b0:=d5.o.cell 0;simp at b0;go_upto_if 28 with fail;go_cut[6] (fun v wx=>∃b:ByteArray,v=.string b/\D (b.toList=AF (tokAt f S.bZ))/\D (VG j p w.heap.size (w.heap.size+1) g n A f B C S (Bo s AW AW AW) zS AW s.args w wx))
 case first=>
  by_cases hc:t.sort=2\/t.sort=4;all_goals
   have HS:=J hc;simp only[hc,decide_true,decide_false];clear hc;go_wp2_with fail;go_meet
   case rel=>exact⟨_,rfl,by show _=_;rw[HT.o];simp[AF,HS.o],b2.o.quiet jV⟩
 case rest=>
  obtain⟨b,rfl,HB,b2⟩:=hcut;clear HT;go_upto_block 0 with fail;go_cut[] (fun wx=>∃(y1:FS) (N:St) (a:Option Addr) (l c:Nat),D (VG j p w.heap.size (w.heap.size+1) g n A f B C N (Bo y1 (.slice a l c) AW AW) zS (.slice a l c) y1.args w wx)/\D (y=(y1,N)))
  case first=>
   have V:=HB.o;clear HB b0;by_cases h0:b.toList=[110,101,119]
   .have e0:(b.toList==[110,101,119])=true:=beq_iff_eq.2 h0;have U:=J (V.symm.trans h0);clear h0 V;go_wp2_with fail;refine((b2.o.quiet jV).dE _ [110,101,119] jY).mono ?_;rintro e w1 ⟨N,R,rfl,z⟩;have p0:=z.o.v.rd.bY.cell 3;have p1:=z.o.v.pr.bY.cell 2;have p2:=z.o.v.pr.bY.frozen 2;obtain⟨d,a9⟩:=z.o.v.sx.e2 0 9;have i:=z.o.v.sx.frozen;simp[Bo]at p0 p1 d a9;obtain⟨n1,n2,n3,n4,n5,n6,n7,n8,n9⟩:=z.o.v.dP;have f3:N.pl<=4001:=by rw[<-R.o];exact f0
    go_wp2_with fail;go_meet
    case rel=> refine⟨{s with kind:=2,l7:=N.pl+1},⟨N.bZ,N.cB,N.pl+1,N.ca⟩,none,0,0,?_,by show _=_;rw[<-HY.o];simp[C0,U.o,R.o]⟩;exact((z.o.cK 0 (.int .i64 2)).eL (u:=(N.pl:Int)+1) (m:=N.pl+1) Z).cK 9 (.int .i64 ((N.pl:Int)+1))
   have e0:(b.toList==[110,101,119])=false:=beq_eq_false_iff_ne.2 h0;by_cases h1:b.toList=[38]
   .have e1:(b.toList==[38])=true:=beq_iff_eq.2 h1;have U:=J (V.symm.trans h1);clear h0 h1 V;go_wp2_with fail;refine((b2.o.quiet jV).dE _ [38] jY).mono ?_;rintro e w1 ⟨N,R,rfl,z⟩;obtain⟨o,r,x,d⟩:=z.o.v.sx.e4 4 5 6 0;have i:=z.o.v.sx.frozen;simp[Bo]at d o r x;go_wp2_with fail;clear d o r x i;refine((z.o.cK 0 (.int .i64 3)).get 1 T).mono ?_;rintro e w2 ⟨Q,x2,b4,rfl,P⟩;unfold JN;obtain⟨o,r,x,d⟩:=P.o.v.sx.e4 4 5 6 0;have i:=P.o.v.sx.frozen;simp[Bo]at d o r x;go_wp2_with fail;clear d o r x i;refine((((P.o.cK 4 (.string Q.d9)).cK 5 (.int .i64 Q.pos)).cK 6 (.int .i64 Q.sort)).next _ [46] jY).mono ?_;rcases hd:Bs x2.cB (tokAt f x2.bZ) [46]with _|_
    .rintro e w3 ⟨rfl,Y⟩;go_wp2_with fail;go_meet
     case rel=>exact⟨{s with kind:=3,q:=Q},_,none,0,0,Y.o.quiet jV,by show _=_;rw[<-HY.o];simp[C0,U.o,R.o,b4.o,hd]⟩
    .rintro e w3 ⟨rfl,Y⟩;go_wp2_with fail;refine(Y.o.dE _ [46] jY).mono ?_;rintro e w4 ⟨x3,b8,rfl,b9⟩;have d:=b9.o.v.sx.cell 0;have i:=b9.o.v.sx.frozen;simp[Bo]at d;go_wp2_with fail;clear d i;refine((b9.o.cK 0 (.int .i64 4)).get 3 T).mono ?_;rintro e w5 ⟨q4,x4,c0,rfl,b3⟩;unfold JN;have c1:D (y=({s with kind:=4,q:=Q,field:=Pj q4.d9.toList s.field 4},x4)):=by show _=_;rw[<-HY.o];simp[C0,U.o,R.o,b4.o,hd,b8.o,c0.o]
     clear hd HY;go_wp2;go_loopw[9] (fun kv wr=>∃k:Nat,k<=4/\kv=.int .i64 k/\D (VG j p w.heap.size (w.heap.size+1) g n A f B C x4 (Bo {s with kind:=4,q:=Q,field:=Pj q4.d9.toList s.field k} AW AW AW) zS AW s.args w wr)/\D (W w5.heap.size #[.string q4.d9,.int .i64 q4.pos,.int .i64 q4.sort] 49 wr)) (fun kv _=>4-(intOf kv).toNat)
     case atStart=>exact⟨0,Z,rfl,b3.o.quiet ((O.refl _ _).alloc _),W.new _ _ _⟩
     case round=>
      obtain⟨k,hk,rfl,b5,HB⟩:=hrel;by_cases e9:k=4
      .subst e9;go_wp2_with fail;go_meet
       case rel=>exact⟨_,_,_,_,_,b5.o,c1.o⟩
      .have b0:=HB.o.cell 0;have a7:=b5.o.v.sx.cell 7;have i:=b5.o.v.sx.frozen;simp[Bo]at b0 a7;have c8:=Zo k Z;have d7:=J (HB.o.ne b5.o.v.sx T);have c4:=J (fun(m:Nat)=>HB.o.d8 ((O.refl kD _).drewN m) id);have c5:=J (fun(m:Nat)=>b5.o.quiet ((O.refl _ _).drewN m));by_cases hl:q4.d9.toList=[UInt8.ofNat (48+k)];all_goals
        have hq:(q4.d9.toList==(({data:=#[48,49,50,51]}:ByteArray).extract k (k+1)).toList)=decide (q4.d9.toList=[UInt8.ofNat (48+k)]):=by rw[c8,Bool.eq_iff_iff];simp
        have c2:Pj q4.d9.toList s.field (k+1)=if q4.d9.toList=[UInt8.ofNat (48+k)]then k else Pj q4.d9.toList s.field k:=rfl
        first|rw[jH hl]at c2;rw[decide_eq_true hl]at hq|rw[jG hl]at c2;rw[decide_eq_false hl]at hq
        have d6:=J c2;clear c8 hl c2;go_wp2_with fail;go_quiet(fail);go_wp2_with fail
       all_goals
        go_roundw
        case rel=>
         refine⟨k+1,Z,jY,?_,?_⟩
         .rw[d6.o];first|exact(c5.o _).cK 7 (.int .i64 k)|exact c5.o _
         .first|exact(c4.o _).cQ 7 (.int .i64 k) d7.o|exact c4.o _
        case measure=>simp[intOf];omega
   have e1:(b.toList==[38])=false:=beq_eq_false_iff_ne.2 h1;by_cases h2:b.toList=[42]
   .have e2:(b.toList==[42])=true:=beq_iff_eq.2 h2;have U:=J (V.symm.trans h2);clear h0 h1 h2 V;go_wp2_with fail;refine((b2.o.quiet jV).dE _ [42] jY).mono ?_;rintro e w1 ⟨N,R,rfl,z⟩;obtain⟨o,r,x,d⟩:=z.o.v.sx.e4 4 5 6 0;have i:=z.o.v.sx.frozen;simp[Bo]at d o r x;go_wp2_with fail;clear d o r x i;refine((z.o.cK 0 (.int .i64 5)).get 1 T).mono ?_;rintro e w2 ⟨Q,x2,b4,rfl,P⟩;unfold JN;obtain⟨o,r,x,d⟩:=P.o.v.sx.e4 4 5 6 0;have i:=P.o.v.sx.frozen;simp[Bo]at d o r x;go_wp2_with fail;clear d o r x i;go_meet
    case rel=>exact⟨{s with kind:=5,q:=Q},_,none,0,0,((P.o.cK 4 (.string Q.d9)).cK 5 (.int .i64 Q.pos)).cK 6 (.int .i64 Q.sort),by show _=_;rw[<-HY.o];simp[C0,U.o,R.o,b4.o]⟩
   have e2:(b.toList==[42])=false:=beq_eq_false_iff_ne.2 h2;by_cases h3:b.toList=[64]
   .have e3:(b.toList==[64])=true:=beq_iff_eq.2 h3;have U:=J (V.symm.trans h3);clear h0 h1 h2 h3 V;go_wp2_with fail;refine((b2.o.quiet jV).dE _ [64] jY).mono ?_;rintro e w1 ⟨N,R,rfl,z⟩;obtain⟨o,r,x,d⟩:=z.o.v.sx.e4 4 5 6 0;have i:=z.o.v.sx.frozen;simp[Bo]at d o r x;go_wp2_with fail;clear d o r x i;refine((z.o.cK 0 (.int .i64 6)).get 1 T).mono ?_;rintro e w2 ⟨Q,x2,b4,rfl,P⟩;unfold JN;obtain⟨o,r,x,d⟩:=P.o.v.sx.e4 4 5 6 0;have i:=P.o.v.sx.frozen;simp[Bo]at d o r x;go_wp2_with fail;clear d o r x i;go_meet
    case rel=>exact⟨{s with kind:=6,q:=Q},_,none,0,0,((P.o.cK 4 (.string Q.d9)).cK 5 (.int .i64 Q.pos)).cK 6 (.int .i64 Q.sort),by show _=_;rw[<-HY.o];simp[C0,U.o,R.o,b4.o]⟩
   have e3:(b.toList==[64])=false:=beq_eq_false_iff_ne.2 h3;by_cases h4:b.toList=[40]
   .have e4:(b.toList==[40])=true:=beq_iff_eq.2 h4;have U:=J (V.symm.trans h4);clear h0 h1 h2 h3 h4 V;go_wp2_with fail;refine((b2.o.quiet jV).dE _ [40] jY).mono ?_;rintro e w1 ⟨N,R,rfl,z⟩;obtain⟨o,r,x,d⟩:=z.o.v.sx.e4 4 5 6 0;have i:=z.o.v.sx.frozen;simp[Bo]at d o r x;go_wp2_with fail;clear d o r x i;refine((z.o.cK 0 (.int .i64 9)).dE _ [42] jY).mono ?_;rintro e w2 ⟨x2,b4,rfl,P⟩;go_wp2_with fail;refine(P.o.get 1 T).mono ?_;rintro e w3 ⟨q3,x3,b8,rfl,Y⟩;unfold JN;obtain⟨o,r,x,d⟩:=Y.o.v.sx.e4 4 5 6 0;have i:=Y.o.v.sx.frozen;simp[Bo]at d o r x;go_wp2_with fail;clear d o r x i;refine((((Y.o.cK 4 (.string q3.d9)).cK 5 (.int .i64 q3.pos)).cK 6 (.int .i64 q3.sort)).dE _ [41] jY).mono ?_;rintro e w4 ⟨x4,c0,rfl,b9⟩;go_wp2_with fail;refine(b9.o.dE _ [40] jY).mono ?_;rintro e w5 ⟨x5,c6,rfl,b3⟩;have f2:x5.ca<=4001:=by rw[<-c6.o,<-c0.o,show x3=(Bm f 1 x2).2 from(congrArg Prod.snd b8.o).symm,<-b4.o,<-R.o];exact e8
    obtain⟨n1,n2,n3,n4,n5,n6,n7,n8,n9⟩:=b3.o.v.dP;have p0:=b3.o.v.rd.bY.cell 3;have p1:=b3.o.v.pr.bY.cell 3;have p2:=b3.o.v.pr.bY.frozen 3;have a9:=b3.o.v.sx.cell 9;have i:=b3.o.v.sx.frozen;simp[Bo]at p0 p1 a9;go_wp2_with fail;clear p0 p1 p2 a9 i n1 n2 n3 n4 n5 n6 n7 n8 n9;refine((b3.o.eK (u:=(x5.ca:Int)+1) (m:=x5.ca+1) Z).cK 9 (.int .i64 ((x5.ca:Int)+1))).list.mono ?_;rintro e w7 ⟨q7,x7,v1,v2,v3,c3,rfl,b6⟩;have a8:=b6.o.v.sx.cell 8;have i:=b6.o.v.sx.frozen;simp[Bo]at a8;go_wp2_with fail;go_meet
    case rel=>exact⟨{s with kind:=9,q:=q3,l7:=x5.ca+1,args:=q7},_,v1,v2,v3,b6.o.cK 8 (.slice v1 v2 v3),by show _=_;rw[<-HY.o];simp[C0,U.o,R.o,b4.o,b8.o,c0.o,c6.o,c3.o]⟩
   have e4:(b.toList==[40])=false:=beq_eq_false_iff_ne.2 h4;rw[V]at h0 h1 h2 h3 h4;have U:=J (And.intro h0 (And.intro h1 (And.intro h2 (And.intro h3 h4))));clear h0 h1 h2 h3 h4 V;have d:=b2.o.v.sx.cell 0;have i:=b2.o.v.sx.frozen;simp[Bo]at d;go_wp2_with fail;clear d i;refine(((b2.o.cK 0 (.int .i64 7)).quiet jV).get 1 T).mono ?_;rintro e w1 ⟨q1,N,R,rfl,z⟩;unfold JN;obtain⟨o,r,x,d⟩:=z.o.v.sx.e4 4 5 6 0;have i:=z.o.v.sx.frozen;simp[Bo]at d o r x;go_wp2_with fail;clear d o r x i;refine((((z.o.cK 4 (.string q1.d9)).cK 5 (.int .i64 q1.pos)).cK 6 (.int .i64 q1.sort)).next _ [40] jY).mono ?_;rcases hd:Bs N.cB (tokAt f N.bZ) [40]with _|_
   .rintro e w2 ⟨rfl,P⟩;go_wp2_with fail;go_meet
    case rel=>exact⟨{s with kind:=7,q:=q1},_,none,0,0,P.o.quiet jV,by show _=_;rw[<-HY.o];simp[C0,U.o,R.o,hd]⟩
   .rintro e w2 ⟨rfl,P⟩;go_wp2_with fail;refine(P.o.dE _ [40] jY).mono ?_;rintro e w3 ⟨x3,b8,rfl,Y⟩;have d:=Y.o.v.sx.cell 0;have i:=Y.o.v.sx.frozen;simp[Bo]at d;go_wp2_with fail;clear d i;refine(Y.o.cK 0 (.int .i64 8)).list.mono ?_;rintro e w7 ⟨q7,x7,v1,v2,v3,c3,rfl,b6⟩;have a8:=b6.o.v.sx.cell 8;have i:=b6.o.v.sx.frozen;simp[Bo]at a8;go_wp2_with fail;go_meet
    case rel=>exact⟨{s with kind:=8,q:=q1,args:=q7},_,v1,v2,v3,b6.o.cK 8 (.slice v1 v2 v3),by show _=_;rw[<-HY.o];simp[C0,U.o,R.o,hd,b8.o,c3.o]⟩
  case rest=>
   obtain⟨y1,N,za,zl,zc,b5,c1⟩:=hcut;have HP:=J (b5.o.post rfl c1.o);have b7:=b5.o.v;obtain⟨n1,n2,n3,n4,n5,n6,n7,n8,n9⟩:=b7.dP;obtain⟨d,a1,a2,a3,o,r,x,a7,a8,a9,d8,d9,e5,e6,e7⟩:=b7.sx.e15 0 1 2 3 4 5 6 7 8 9 10 11 12 13 14;obtain⟨o0,o1,o2,o3,o4,o5,o6,o7,o8,o9,d0,d1,d2,d3,d4⟩:=b7.ox.e15 0 1 2 3 4 5 6 7 8 9 10 11 12 13 14;have i:=b7.sx.frozen;have fo:=b7.ox.frozen;simp[Bo]at d a1 a2 a3 o r x a7 a8 a9 d8 d9 e5 e6 e7 o0 o1 o2 o3 o4 o5 o6 o7 o8 o9 d0 d1 d2 d3 d4;clear b7 HY c1;go_wp2;refine gP (v:=.agg (Bo y1 (.slice za zl zc) AW AW)) (by simp[results,results132,go_sem,Bo,o0,o1,o2,o3,o4,o5,o6,o7,o8,o9,d0,d1,d2,d3,d4]) rfl ?_;refine HP.o _ ?_;iterate 15 refine O.t9 ?_ _ _
   exact O.refl _ _
theorem Tryz.infoSt:(Tryz.prog.info? 92).map (fun i=>(i.zero,i.size,i.bytes))=some (some (.agg zS),15,184):=jW
theorem ZR:∀u∈zS.toList,u.oneCell'=true:=by intro u a;simp at a;rcases a with rfl|rfl|rfl|rfl|rfl|rfl|rfl|rfl|rfl<;>rfl
theorem Bx.d8{B}{U:Nat->Prop}{w j sv l}{X:Nat->Prop}(h:Bx B U w sv l)(b:O X w j)(r:∀k,sv.ownBlock=some k->¬X k)(u:∀k a t c,X k->w.heap[k]? =some (.cells a t c)->t≠3/\t≠49):Bx B U j sv l:=by obtain⟨a,q,n,o⟩:=h;exact⟨a,Ac q b r,n,fun i e g=>(o i e g).d8 b u⟩
theorem Bx.eI{B}{U:Nat->Prop}{w j sv l}{X:Nat->Prop}(h:Bx B U w sv l)(a:O X w j)(q:∀k,sv.ownBlock=some k->¬X k)(r:∀k,U k->¬X k):Bx B U j sv l:=by obtain⟨b,o,g,n⟩:=h;exact⟨b,Ac o a q,g,fun i c e=>(n i c e).eI a r⟩
theorem Bx.more{B}{U U':Nat->Prop}{w sv l}(h:Bx B U w sv l)(o:∀k,U k->U' k):Bx B U' w sv l:=by obtain⟨a,n,e,g⟩:=h;exact⟨a,n,e,fun i b c=>(g i b c).more o⟩
structure SF(d f m g n s B:Nat)(U:Nat->Prop)(p:List Tk)(v sv:Value)(x:St)(l:List FS)(y:Array Value)(w:World):Prop where
 rd:AI d f g n s x.bZ x.cB w
 tk:AO g n s p w
 pr:BZ f v sv x.pl x.ca w
 sx:W m y 92 w
 st:Bx B U w sv l
 nb:∀k,sv.ownBlock=some k->k≠m
section
variable{d f m g n s B:Nat}{U:Nat->Prop}{p:List Tk}{v sv:Value}{x:St}{l:List FS}{y:Array Value}{w j:World}
theorem SF.dP(h:SF d f m g n s B U p v sv x l y w):g≠d/\f≠d/\m≠d/\g≠f/\m≠f/\g≠m:=
 ⟨h.tk.ne h.rd T,h.pr.bY.ne h.rd.bY T,h.sx.ne h.rd.bY T,h.tk.ne h.pr T,h.sx.ne h.pr.bY T,h.tk.ne h.sx T⟩
theorem SF.dZ(h:SF d f m g n s B U p v sv x l y w):∀k,sv.ownBlock=some k->k≠d/\k≠f/\k≠m:=by intro k a;obtain⟨c,b,_⟩:=h.st;exact⟨Am b h.rd T k a,Am b h.pr T k a,h.nb k a⟩
theorem SF.call{c b}(h:SF d f m g n s B U p v sv x l y w)(e:O (fun k=>k=d) w j)(r:AI d f g n s c b j):SF d f m g n s B U p v sv ⟨c,b,x.pl,x.ca⟩ l y j:=by have i:=h.dP;refine⟨r,h.tk.d8 e i.1,h.pr.bY.d8 e i.2.1,h.sx.d8 e i.2.2.1,h.st.d8 e (fun k a=>(h.dZ k a).1) ?_,h.nb⟩;intro k u t z a q;have a:k=d:=a;subst a;have o:w.heap[k]? =_:=h.rd;rw[q]at o;simp only[gN,gU]at o;rw[o.2.1];decide
theorem SF.quiet(h:SF d f m g n s B U p v sv x l y w)(a:O kD w j):SF d f m g n s B U p v sv x l y j:=
 ⟨h.rd.d8 a id,h.tk.d8 a id,h.pr.bY.d8 a id,h.sx.d8 a id,h.st.d8 a (fun _ _ q=>q) (fun _ _ _ _ q=>q.elim),h.nb⟩
theorem SF.cK(h:SF d f m g n s B U p v sv x l y w)(i u):SF d f m g n s B U p v sv x l (y.setIfInBounds i u) (w.setCell ⟨m,i,none⟩ u):=by have b:=h.dP;have e:=(O.refl (fun k=>k=m) w).t9 i u;refine⟨h.rd.bY.cQ i u b.2.2.1.symm,h.tk.d8 e b.2.2.2.2.2,h.pr.bY.cQ i u b.2.2.2.2.1.symm,h.sx.set i u,h.st.d8 e (fun k a=>(h.dZ k a).2.2) ?_,h.nb⟩;intro k q t r a o;have a:k=m:=a;subst a;have c:w.heap[k]? =_:=h.sx;rw[o]at c;simp only[gN,gU]at c;rw[c.2.1];decide
theorem SF.dE{L a}(h:SF d f m g n s B U p v sv x l y w)(e:Aw p L x=a)(b:O (fun k=>k=d) w j)(c:AI d f g n s (E8 p x.bZ x.cB L).1 (E8 p x.bZ x.cB L).2 j):SF d f m g n s B U p v sv a l y j:=by subst e;exact h.call b c
theorem SF.get{k q a}(h:SF d f m g n s B U p v sv x l y w)(i:Bm p k x=(q,a))(b:O (fun k=>k=d) w j)(c:AI d f g n s (De p x.bZ x.cB k).2.1 (De p x.bZ x.cB k).2.2 j):SF d f m g n s B U p v sv a l y j:=by have e:a=⟨(De p x.bZ x.cB k).2.1,(De p x.bZ x.cB k).2.2,x.pl,x.ca⟩:=(congrArg Prod.snd i).symm;subst e;exact h.call b c
end
structure Fo(d f:Nat)(sv sv':Value)(w j:World):Prop where
 d8:O (fun k=>k=d\/k=f\/sv.ownBlock=some k) w j
 own:∀k,sv'.ownBlock=some k->sv.ownBlock=some k\/w.heap.size<=k
theorem Fo.refl(d f sv w):Fo d f sv sv w w:=⟨O.refl _ _,fun _ h=>.inl h⟩
theorem Fo.trans{d f:Nat}{a b c:Value}{w o r:World}(h:Fo d f a b w o)(k:Fo d f b c o r):Fo d f a c w r:=by
 refine⟨⟨k.d8.os.trans h.d8.os,k.d8.tape.trans h.d8.tape,k.d8.output.trans h.d8.output,gW h.d8.size k.d8.size,fun i e g=>?_⟩,fun i e=>?_⟩
 .rw[k.d8.block i (gY e h.d8.size) ?_,h.d8.block i e g];rintro(q|q|q)
  .exact g (.inl q)
  .exact g (.inr (.inl q))
  .rcases h.own i q with n|n
   .exact g (.inr (.inr n))
   .omega
 .rcases k.own i e with q|q
  .exact h.own i q
  .exact .inr (gW h.d8.size q)
theorem Fo.cV{d f sv w j}(h:O (fun k=>k=d\/k=f) w j):Fo d f sv sv w j:=
 ⟨h.mono (fun _ _ q=>q.elim .inl (fun r=>.inr (.inl r))),fun _ h=>.inl h⟩
theorem Fo.cE{d f b sv a w j}(h:Fo d f sv a w j)(i u)(c:w.heap.size<=b):Fo d f sv a w (j.setCell ⟨b,i,none⟩ u):=⟨h.d8.cE i u c,h.own⟩
theorem Fo.alloc{d f sv a w j}(h:Fo d f sv a w j)(o):Fo d f sv a w (j.alloc o):=⟨h.d8.alloc o,h.own⟩
theorem Fo.drew{d f sv a w j}(h:Fo d f sv a w j):Fo d f sv a w j.drew:=⟨h.d8.drew,h.own⟩
theorem Fo.drewN{d f sv a w j}(h:Fo d f sv a w j)(n):Fo d f sv a w (j.drewN n):=⟨h.d8.drewN n,h.own⟩
theorem Fo.tr{d f sv a w j b}(h:Fo d f sv a w j)(k:O (fun k=>k=d) j b):Fo d f sv a w b:=h.trans (Fo.cV (k.mono (fun _ _ q=>.inl q)))
abbrev DE(a:Nat):Array Value:=#[.int .i64 0,.string {data:=#[]},.int .i64 0,.int .i64 0,.string {data:=#[]},.int .i64 0,.int .i64 0,.int .i64 0,AW,.int .i64 0,AW,AW,.int .i64 (-1),.int .i64 (-1),.int .i64 a]
def Z0(h b g n f B:Nat)(U:Nat->Prop)(l:List Tk)(j k:Value)(x:St)(i:List FS)(w a:World):Prop:=
 ∃c e d,AI h b g n f x.bZ x.cB a/\AO g n f l a/\BZ b j (.slice c e d) x.pl x.ca a/\Bx B U a (.slice c e d) (i++[Cv 0 0])/\Fo h b k (.slice c e d) w a
theorem US{y b g n p B:Nat}{U:Nat->Prop}{M:List Tk}{E j:Value}{x:St}{f:List FS}{w N d:World}{l:Option Addr}{o m:Nat}{a:List (List Value)}
 (I:AI y b g n p x.bZ x.cB w)(K:AO g n p M w)(A:BZ b E j x.pl x.ca w)
 (C:w.ownsRow B 92 15 j f.length a.flatten)(P:a.length=f.length)(a7:∀i (h:i<a.length) (h':i<f.length),Ft B U w a[i] f[i])
 (Y:O kD w N)(R:d.ownsRow B 92 15 (.slice l o m) (f.length+1) (a.flatten++zS.toList))(hg:N.grownBy d j.ownBlock)(a0:∀k,Value.ownBlock (.slice l o m)=some k->j.ownBlock=some k\/w.heap.size<=k):
 Z0 y b g n p B U M E j x f w (d.setCell ⟨b,1,none⟩ (.slice l o m)):=by
 have a2:=Am C I T;have a1:=Am C A T;have v:O (fun k=>j.ownBlock=some k) w d:=O.grown (Y.mono (fun _ _ q=>q.elim)) hg (fun k c=>.inl c);have a5:b≠y:=A.bY.ne I.bY T;have a6:AI y b g n p x.bZ x.cB d:=I.d8 v (fun q=>a2 y q rfl);have G:BZ b E j x.pl x.ca d:=A.bY.d8 v (fun q=>a1 b q rfl);have a3:g≠b:=K.ne A T;have a8:AO g n p M d:=by
  refine K.d8 v (fun q=>?_);rcases C.2 with⟨s,_⟩|⟨X,S,V,L,_,u,_⟩
  .rw[s]at q;simp[Value.ownBlock]at q
  .rw[L]at q;simp[Value.ownBlock]at q;subst q;exact K.ne u T rfl
 have z:=(O.refl (fun k=>k=b) d).t9 1 (.slice l o m);have a4:∀k,Value.ownBlock (.slice l o m)=some k->k≠b:=Am R G T;refine⟨l,o,m,a6.bY.cQ 1 _ a5.symm,a8.d8 z a3,G.bY.set 1 _,?_,?_⟩
 .refine⟨a++[zS.toList],?_,by simp[P],?_⟩
  .rw[List.flatten_append,gM];have:=Ac R z a4;simpa using this
  .intro i h1 s;have hx:∀(k:Nat) (a:Array Value) (t:TypeId) (r:Nat×Nat),j.ownBlock=some k->w.heap[k]? =some (.cells a t r)->t≠3/\t≠49:=by
    intro k a t r c F;rcases C.2 with⟨s,_⟩|⟨X,S,V,L,_,u,_⟩
    .rw[s]at c;simp[Value.ownBlock]at c
    .rw[L]at c;simp[Value.ownBlock]at c;subst c;rw[F]at u;simp only[gN,gU]at u;rw[u.2.1];decide
   have a9:∀(k:Nat) (a:Array Value) (t:TypeId) (r:Nat×Nat),k=b->d.heap[k]? =some (.cells a t r)->t≠3/\t≠49:=by intro k a t r c F;subst c;have H:d.heap[k]? =_:=G;rw[F]at H;simp only[gN,gU]at H;rw[H.2.1];decide
   by_cases Q:i<f.length
   .rw[iG Z,iG Q];exact((a7 i Z Q).d8 v hx).d8 z a9
   .have e:i=f.length:=by simp at s;omega
    subst e;rw[iE Z,iE Z];simp only[Nat.sub_self,P,iD];exact⟨AW,AW,AW,rfl,gR _ _ _ _,gR _ _ _ _,gR _ _ _ _,fun k c=>by simp[Value.ownBlock]at c⟩
 .refine⟨(v.mono (fun k _ q=>.inr (.inr q))).trans (z.mono (fun k _ q=>.inr (.inl q))),a0⟩
theorem aS(A B:List Value)(c d:List Value)(g:c.length=15)(a:d.length=15):∀k,k<=15->(List.range k).foldl (fun(l:List Value) j=>l.set (A.length+j) (d[j]?.getD (.bool false))) (A++(c++B))=A++((d.take k++c.drop k)++B):=by
 intro k;induction k with
 |zero=>intro _;simp
 |succ k h=>
  intro i;rw[List.range_succ,List.foldl_append,h Z];simp only[iR,jC];rw[List.set_append_right _ _ Z,List.append_cancel_left_eq,Nat.add_sub_cancel_left,List.set_append_left _ _ (by simp[a,g];omega),List.append_cancel_right_eq,List.set_append_right _ _ (by simp[a];omega)];have e:(List.take k d).length=k:=by simp[a];omega
  rw[e,Nat.sub_self];have b:d.take (k+1)=d.take k++[d[k]?.getD (.bool false)]:=by rw[iN Z,gL Z];rfl
  have f:c.drop k=c[k]'Z::c.drop (k+1):=gT Z;rw[b,f,An,jK,List.singleton_append]
theorem Rm(a:List (List Value))(e:∀c∈a,c.length=15)(i:Nat)(f:i<a.length):a.flatten=(a.take i).flatten++(a[i]++(a.drop (i+1)).flatten)/\((a.take i).flatten).length=i*15:=by
 refine⟨?_,?_⟩
 .conv=>lhs;rw[<-List.take_append_drop i a]
  rw[List.flatten_append,gT f,List.flatten_cons]
 .have:∀l:List (List Value),(∀c∈l,c.length=15)->l.flatten.length=l.length*15:=by
   intro l d;induction l with
   |nil=>rfl
   |cons c l g=>rw[List.flatten_cons,gM,g (fun c b=>d c (iA _ b)),d c (jF ..),gK];omega
  rw[this _ (fun c b=>e c (List.mem_of_mem_take b)),List.length_take]
  congr 1;omega
theorem VT(a:List (List Value))(b:∀c∈a,c.length=15)(i:Nat)(e:i<a.length)(d:List Value)(h:d.length=15):(List.range 15).foldl (fun(l:List Value) j=>l.set (i*15+j) (d[j]?.getD (.bool false))) a.flatten=(a.set i d).flatten:=by obtain⟨f,g⟩:=Rm a b i e;have:=aS (a.take i).flatten (a.drop (i+1)).flatten a[i] d (b _ (gQ _)) h 15 (gI _);rw[g,<-f]at this;have k:List.take 15 d=d:=List.take_of_length_le Z;have m:List.drop 15 a[i]=[]:=List.drop_of_length_le (by rw[b _ (gQ _)];omega);rw[this,k,m];rw[List.set_eq_take_append_cons_drop,jH e];simp
def Mg(w:World)(a o:Nat)(d:List Value):World:=(List.range 15).foldl (fun w j=>w.setCell ⟨a,o+j,none⟩ (d[j]?.getD (.bool false))) w
theorem Ut{w B b n e a}(h:w.ownsRow B 92 15 (.slice (some ⟨b,0,none⟩) n e) n a)(o d):
 (Mg w b o d).ownsRow B 92 15 (.slice (some ⟨b,0,none⟩) n e) n ((List.range 15).foldl (fun(l:List Value) j=>l.set (o+j) (d[j]?.getD (.bool false))) a):=by
 unfold Mg;suffices H:∀(c:List Nat) (w:World) (a:List Value),w.ownsRow B 92 15 (.slice (some ⟨b,0,none⟩) n e) n a->(c.foldl (fun w j=>w.setCell ⟨b,o+j,none⟩ (d[j]?.getD (.bool false))) w).ownsRow B 92 15 (.slice (some ⟨b,0,none⟩) n e) n (c.foldl (fun(l:List Value) j=>l.set (o+j) (d[j]?.getD (.bool false))) a) from H _ _ _ h
 intro c;induction c with
 |nil=>intro w a h;exact h
 |cons j c f=>intro w a h;exact f _ _ (h.stored (o+j) _).1
theorem L8(w a o d):O (fun k=>k=a) w (Mg w a o d):=by
 unfold Mg;suffices H:∀(b:List Nat) (c:World),O (fun k=>k=a) w c->O (fun k=>k=a) w (b.foldl (fun w j=>w.setCell ⟨a,o+j,none⟩ (d[j]?.getD (.bool false))) c) from H _ _ (O.refl _ _)
 intro b;induction b with
 |nil=>intro c h;exact h
 |cons j b e=>intro c h;exact e _ (h.t9 _ _)
theorem Ma{w:World}{B:Nat}{a l c n:Nat}{e:List Value}(h:w.ownsRow B 92 15 (.slice (some ⟨a,0,none⟩) l c) n e)(i:Nat)(f:i<n)(j:Nat)(g:j<15):∃u,w.cell? ⟨a,i*15+j,none⟩=some u:=by have d:=Ag h;subst d;have b:i*15+j<l*15:=Z;rw[h.cellAt (i*15+j) b];exact⟨_,gL (by rw[h.1];exact b)⟩
theorem II{w:World}{B:Nat}{a l c n:Nat}{d:List Value}(h:w.ownsRow B 92 15 (.slice (some ⟨a,0,none⟩) l c) n d)(j:Nat):w.frozen? ⟨a,j,none⟩=false:=by have b:=Ag h;subst b;exact h.frozenAt j
theorem Fo.put{i g b j c w l m}(h:Fo i g j c w l)(n:c.ownBlock=some b)(a:O (fun k=>k=b) l m):Fo i g j c w m:=by
 refine⟨⟨a.os.trans h.d8.os,a.tape.trans h.d8.tape,a.output.trans h.d8.output,gW h.d8.size a.size,fun k d f=>?_⟩,h.own⟩;rw[a.block k (gY d h.d8.size) ?_]
 .exact h.d8.block k d f
 .intro e;have e:k=b:=e;subst e;rcases h.own k n with q|q
  .exact f (.inr (.inr q))
  .omega
theorem Bx.put{B}{U:Nat->Prop}{w b l o i f s d}(h:Bx B U w (.slice (some ⟨b,0,none⟩) l o) f)(K:i<f.length)(r:Ft B U w d s):Bx B U (Mg w b (i*15) d) (.slice (some ⟨b,0,none⟩) l o) (f.set i s):=by
 obtain⟨a,n,C,v⟩:=h;have E:=Ag n;subst E;have z:∀c∈a,c.length=15:=by intro c g;obtain⟨j,e,rfl⟩:=iF.1 g;exact(v j e Z).length
 have u:=L8 w b (i*15) d;have y:∀(k:Nat) (a:Array Value) (t:TypeId) (p:Nat×Nat),k=b->w.heap[k]? =some (.cells a t p)->t≠3/\t≠49:=by
  intro k a t p A g;subst A;rcases n.2 with⟨q,_⟩|⟨H,F,G,x,_,m,_⟩
  .simp at q
  .simp only[Value.slice.injEq,gN,Addr.mk.injEq]at x;rw[<-x.1.1,g]at m;simp only[gN,gU]at m;rw[m.2.1];decide
 refine⟨a.set i d,?_,by simp[C],?_⟩
 .have:=Ut n (i*15) d;rw[VT a z i Z d r.length]at this;simpa using this
 .intro j I q;by_cases e:i=j
  .subst e;simp only[List.getElem_set_self];exact r.d8 u y
  .simp only[List.getElem_set_ne e];exact(v j _ _).d8 u y
def Sg(h c g n f B:Nat)(U:Nat->Prop)(l:List Tk)(i j:Value)(w:World)(r:Nat×St×List FS)(e:Ending)(a:World):Prop:=
 ∃d b,(∀k,U k->b k)/\(∀k,b k->U k\/w.heap.size<=k)/\e=.returned (.int .i64 r.1)/\AI h c g n f r.2.1.bZ r.2.1.cB a/\AO g n f l a/\BZ c i d r.2.1.pl r.2.1.ca a/\Bx B b a d r.2.2/\Fo h c j d w a
theorem SF.value{i c u g n f B}{U:Nat->Prop}{m j l x e o v w d}(h:SF i c u g n f B U m j l x o v w)(z:AI i c g n f e.bZ e.cB d)(A:AO g n f m d)(y:BZ c j l e.pl e.ca d)(s:O (fun k=>k=i\/k=c) w d):SF i c u g n f B U m j l e o v d:=by
 have r:=h.dP;refine⟨z,A,y,h.sx.d8 s (fun q=>q.elim r.2.2.1 r.2.2.2.2.1),h.st.d8 s (fun k a q=>q.elim (h.dZ k a).1 (h.dZ k a).2.1) ?_,h.nb⟩;intro k C t E a p;rcases a with a|a
 .subst a;have b:w.heap[k]? =_:=h.rd;rw[p]at b;simp only[gN,gU]at b;rw[b.2.1];decide
 .subst a;have b:w.heap[k]? =_:=h.pr;rw[p]at b;simp only[gN,gU]at b;rw[b.2.1];decide
theorem NJ(a x s):(C0 a x s).1.cJ=s.cJ/\(C0 a x s).1.other=s.other:=by
 unfold C0;split
 .exact⟨rfl,rfl⟩
 .split
  .simp only;split<;>exact⟨rfl,rfl⟩
  .split
   .exact⟨rfl,rfl⟩
   .split
    .exact⟨rfl,rfl⟩
    .split
     .exact⟨rfl,rfl⟩
     .simp only;split<;>exact⟨rfl,rfl⟩
theorem QM{b n}(c:(tokAt b (n-1)).sort=0)(x s)(a:x.bZ<n):(C0 b x s).2.bZ<n:=by
 have E:∀(L:List UInt8) (x:St),x.bZ<n->(Aw b L x).bZ<n:=fun L x h=>Cb rfl c h
 have G:∀(k:Nat) (x:St),k≠0->x.bZ<n->(Bm b k x).2.bZ<n:=fun k x d h=>Ev (q:=(Bm b k x).1) rfl d c h
 have I:∀(x:St),x.bZ<n->(BQ b x).2.bZ<n:=fun x h=>EO (q:=(BQ b x).1) rfl c h
 unfold C0;split
 .exact E _ _ a
 .split
  .simp only;split
   .exact G _ _ T (E _ _ (G _ _ T (E _ _ a)))
   .exact G _ _ T (E _ _ a)
  .split
   .exact G _ _ T (E _ _ a)
   .split
    .exact G _ _ T (E _ _ a)
    .split
     .exact I _ (E _ _ (E _ _ (G _ _ T (E _ _ (E _ _ a)))))
     .simp only;split
      .exact I _ (E _ _ (G _ _ T a))
      .exact G _ _ T a
def Iq(n:Nat)(x:St)(m:Nat):Prop:=x.bZ<n/\x.pl<=n/\x.ca<=n/\m<=n/\(x.cB=none->x.pl<=x.bZ/\x.ca<=x.bZ/\m<=x.bZ)
theorem Iq.cY{n m k:Nat}{x y:St}(h:Iq n x m)(q:FU k x y)(f:y.bZ<n):Iq n y m:=by obtain⟨i,j,l,c,d⟩:=h;obtain⟨o,p,r,g⟩:=q;refine⟨f,Z,Z,c,fun e=>?_⟩;have a:=g e;have b:=d a.1;omega
theorem RD{a n}(c:(tokAt a (n-1)).sort=0)(e x)(b:x.bZ<n):(Ba a e x).2.bZ<n:=by
 have E:∀(L:List UInt8) (x:St),x.bZ<n->(Aw a L x).bZ<n:=fun L x h=>Cb rfl c h
 have G:∀(k:Nat) (x:St),k≠0->x.bZ<n->(Bm a k x).2.bZ<n:=fun k x d h=>Ev (q:=(Bm a k x).1) rfl d c h
 unfold Ba;split
 .exact G _ _ T (E _ _ b)
 .split
  .exact G _ _ T (E _ _ b)
  .split
   .exact G _ _ T (E _ _ (G _ _ T (E _ _ b)))
   .exact QM c _ _ (E _ _ (G _ _ T b))
theorem DQ{toks n}(N:(tokAt toks (n-1)).sort=0):∀f:Nat,
 (∀(a:Nat) (x:St) (c:List FS) (d:List Nat),Iq n x c.length->Iq n (Az toks f a x c d).2.1 (Az toks f a x c d).2.2.length/\x.bZ<=(Az toks f a x c d).2.1.bZ/\c.length<=(Az toks f a x c d).2.2.length)/\
 (∀(a:Nat) (x:St) (c:List FS),Iq n x c.length->x.cB=none->Iq n (AJ toks f a x c).2.1 (AJ toks f a x c).2.2.length/\x.bZ<=(AJ toks f a x c).2.1.bZ/\c.length<=(AJ toks f a x c).2.2.length/\(f≠0->(AJ toks f a x c).2.1.cB=none->x.bZ<(AJ toks f a x c).2.1.bZ)):=by
 have E:=A8 toks;have C:∀(L:List UInt8) (x:St),x.bZ<n->(Aw toks L x).bZ<n:=fun L x h=>Cb rfl N h
 intro f;induction f with
 |zero=>
  refine⟨fun a x c d h=>?_,fun a x c h _=>?_⟩
  .rw[Az];exact⟨h,gI _,gI _⟩
  .rw[AJ];exact⟨h,gI _,gI _,fun q=>jO rfl q⟩
 |succ f m=>
  refine⟨fun a x c d h=>?_,fun a x c h z=>?_⟩
  .rw[Az];split
   .exact⟨h,gI _,gI _⟩
   .rename_i hc;have z:x.cB=none:=by
     cases hx:x.cB with
     |none=>rfl
     |some b=>exact jO (.inl (by simp[hx])) hc
    obtain⟨j,u,v,_⟩:=m.2 a x c h z;obtain⟨k,F,G⟩:=m.1 a _ _ (d++[(AJ toks f a x c).1]) j;exact⟨k,gW u F,gW v G⟩
  .have hi:=h;obtain⟨M,h2,h3,h4,h5⟩:=h;obtain⟨p1,p2,p3⟩:=h5 z;rw[AJ];split
   .simp only;have i:=((E (AF (tokAt toks x.bZ)) x).trans (E [63] _)).trans (E [123] (Aw toks [63] (Aw toks (AF (tokAt toks x.bZ)) x)));have w:=C [63] _ (C (AF (tokAt toks x.bZ)) x M);have V:=C [123] _ w;generalize Aw toks [63] (Aw toks (AF (tokAt toks x.bZ)) x)=x2 at*;generalize Aw toks [123] x2=o at*;have R:Iq n o (c++[Cv 0 0]).length:=by obtain⟨y,l,g3,I⟩:=i;refine⟨V,Z,Z,jX,fun e=>?_⟩;have:=I e;simp only[gM,gK,gZ];omega
    obtain⟨j,u,v⟩:=m.1 a o (c++[Cv 0 0]) [] R;generalize Az toks f a o (c++[Cv 0 0]) []=r at*;have a0:c.length+1<=r.2.2.length:=by simpa using v
    have p:=E [125] r.2.1;have H:=C [125] r.2.1 j.1;have t:=j.cY p H;generalize Aw toks [125] r.2.1=g at*;have y:o.bZ<=g.bZ:=gW u p.1;have l:g.cB=none->x.bZ<g.bZ:=fun e=>by have q:=p.2.2.2 e;have:=i.1;omega
    split
    .split
     .have B:=(E D8 g).trans (E [123] (Aw toks D8 g));have X:=C [123] _ (C D8 g H);generalize Aw toks D8 g=x4 at*;generalize Aw toks [123] x4=P at*;have S:=t.cY B X;obtain⟨k,F,G⟩:=m.1 a P r.2.2 [] S;generalize Az toks f a P r.2.2 []=A at*;have s:=E [125] A.2.1;have Y:=C [125] A.2.1 k.1;have U:=k.cY s Y;generalize Aw toks [125] A.2.1=x5 at*;have:=i.1;have:=B.1;have:=s.1;refine⟨by simpa using U,kC,by simp only[jL];omega,fun _ e=>?_⟩;have q:=s.2.2.2 e;simp only;omega
     .have:=i.1;exact⟨by simpa using t,kC,by simp only[jL];omega,fun _ e=>l e⟩
    .have:=i.1;exact⟨by simpa using t,kC,by simp only[jL];omega,fun _ e=>l e⟩
   .simp only;have Q:=(Qi toks a x).ahead (E [59] (Ba toks a x).2);have w:=C [59] _ (RD N a x M);generalize Aw toks [59] (Ba toks a x).2=x1 at*;obtain⟨y,l,g3,I,g5,K⟩:=Q;refine⟨⟨w,Z,Z,jX,fun e=>?_⟩,y,jY,fun _ e=>?_⟩
    .have:=K e;simp only[jL,gM,gK,gZ];omega
    .have:=K e;omega
def Iv(f:Nat):Prop:=∀(h d g n b B k:Nat) (U:Nat->Prop) (a:List Tk) (j i:Value) (x:St) (c:List FS) (w:World),AI h d g n b x.bZ x.cB w->AO g n b a w->BZ d j i x.pl x.ca w->Bx B U w i c->B<=w.heap.size->(tokAt a (n-1)).sort=0->Iq n x c.length->x.cB=none->2*(n-x.bZ)<=f->
 Calls prog 99 #[.pointer (some ⟨h,0,none⟩),.int .i64 k] w fun e l=>Sg h d g n b B U a j i w (AJ a f k x c) e l
def XZ(i d g n h B:Nat)(U:Nat->Prop)(m:List Tk)(j l:Value)(w:World)(p:Nat)(r:List Nat×St×List FS)(e:Ending)(a:World):Prop:=
 ∃f c b,(∀k,U k->b k)/\(∀k,b k->U k\/w.heap.size<=k)/\(∀k,c.ownBlock=some k->¬b k)/\e=.returned (.tuple #[.int .i64 p,c])/\Ax w.heap.size a c r.1/\AI i d g n h r.2.1.bZ r.2.1.cB a/\AO g n h m a/\BZ d j f r.2.1.pl r.2.1.ca a/\Bx B b a f r.2.2/\Fo i d l f w a
def Oq(a n:Nat)(w:World):Nat:=2*(n-Nz a w)+(match w.cell? ⟨a,2,none⟩with|some v=>if intOf v<0 then 1 else 0|none=>0)
theorem Hs{f j g n i c a w}(h:AI f j g n i c a w):Oq f n w=2*(n-c)+(if a=none then 1 else 0):=by
 have d:=Ak h 2;simp only[gH,gF,gG]at d;unfold Oq;rw[Mh h,d];cases a with
 |none=>rfl
 |some b=>
  have e:¬(intOf (Value.int .i64 (F7 (some b)))<0):=by show¬((b:Int)<0);omega
  simp only;rw[jG e,jG jY]
theorem Bx.below{B}{U:Nat->Prop}{w f a}(h:Bx B U w f a):Bx B (fun k=>U k/\k<w.heap.size) w f a:=by
 obtain⟨l,s,p,r⟩:=h;refine⟨l,s,p,fun i m n=>?_⟩;obtain⟨g,j,u,o,b,c,e,t⟩:=r i m n;refine⟨g,j,u,o,b,c,e,fun k d=>⟨t k d,?_⟩⟩;rcases d with q|q|q
 .exact(b.lt k q).2
 .exact(c.lt k q).2
 .exact(e.lt k q).2
theorem Bx.rb{e s g n m c B}{U:Nat->Prop}{b j f w l}(h:Bx B U w j f)(i:AI e s g n m c b w)(q:O (fun k=>k=e) w l):Bx B U l j f:=by
 refine h.d8 q (fun k a=>?_) (fun k o t u a p=>?_)
 .obtain⟨o,r,_⟩:=h;exact Am r i T k a
 .have a:k=e:=a;subst a;have d:w.heap[k]? =_:=i;rw[p]at d;simp only[gN,gU]at d;rw[d.2.1];decide
theorem Bx.s9{B}{U:Nat->Prop}{b a w c}(h:Bx B U w b a)(d:O kD w c):Bx B U c b a:=h.d8 d (fun _ _ q=>q) (fun _ _ _ _ q=>q.elim)
theorem Wb{U:Nat->Prop}{m f g n q c b B j A p s i C v l r w o}(h:Ax j w v l)(x:AI m f g n q c b w)(u:BZ f s i A p w)(z:Bx B U w i r)(t:Fo m f i C w o):Ax j o v l:=by
 obtain⟨E,y,_⟩:=z;refine Ai h t.d8 (fun k d e a=>?_);rcases a with a|a|a
 .exact CT x.bY T k d e a
 .exact CT u.bY T k d e a
 .exact Gr y T k d e a
theorem Fo.owned{d c:Nat}{e f v:Value}{w g i:World}(h:Fo d c e f w g)(a:O (fun k=>v.ownBlock=some k) g i)(j:∀k,v.ownBlock=some k->w.heap.size<=k):Fo d c e f w i:=by refine⟨⟨a.os.trans h.d8.os,a.tape.trans h.d8.tape,a.output.trans h.d8.output,gW h.d8.size a.size,fun k b l=>?_⟩,h.own⟩;rw[a.block k (gY b h.d8.size) (fun q=>by have:=j k q;omega)];exact h.d8.block k b l
theorem Qo{c k d x a b}(h:x.cB≠none\/Bs x.cB (tokAt c x.bZ) [125]=true):Az c k d x a b=(b,x,a):=by
 cases k with
 |zero=>rw[Az]
 |succ k=>rw[Az,jH h]
theorem M5(f:Nat)(ih:∀k,k<=f->Iv k)(l d g n p B r:Nat)(U:Nat->Prop)(c:List Tk)(fv Y:Value)(j:St)(E:List FS)(w:World)(Q:AI l d g n p j.bZ j.cB w)(ht:AO g n p c w)(hp:BZ d fv Y j.pl j.ca w)(d8:Bx B U w Y E)(hU:∀k,U k->k<w.heap.size)(hB:B<=w.heap.size)(hz:(tokAt c (n-1)).sort=0)(b5:Iq n j E.length)(hf:j.cB=none->2*(n-j.bZ)<=f):
 Calls prog 54 #[.pointer (some ⟨l,0,none⟩),.int .i64 r] w fun e w'=>XZ l d g n p B U c fv Y w (tokAt c j.bZ).pos ((Az c f r (Aw c [123] j) E []).1,Aw c [125] (Az c f r (Aw c [123] j) E []).2.1,(Az c f r (Aw c [123] j) E []).2.2) e w':=by
 obtain⟨i0,hi,g0,g4,g5⟩:=info_parts Tryz.infoInt;have b4:=b5.1;have hn:=ht.2.2;obtain⟨t0,t1,t2⟩:=ht.cells b4;obtain⟨r0,r1⟩:=Q.bY.e2 0 1;simp at r0 r1;have lr:=Ae Q;have lp:=Ae hp;obtain⟨V,hV⟩:∃V,Az c f r (Aw c [123] j) E []=V:=⟨_,rfl⟩;rw[hV];have HV:=J hV;have s:=J Q;have K:=J ht;have HP:=J hp;have c9:=J d8;have HZ:=J hz;have c2:=J b5;have c0:=J hf;have IH:=J ih;have d3:=J hU;clear hV Q ht hp d8 hz b5 hf ih hU;generalize f8:(tokAt c j.bZ).pos=h4 at*;clear f8;go_enter func54,ntmps54;go_wp2;go_quiet(fail);go_wp2_with fail;refine(Jc l d g n p j.bZ j.cB c _ [123] jY (w.drewN nq) s.o K.o b4).mono ?_;rintro e w1 ⟨rfl,Q,ho⟩;obtain⟨y,a3⟩:∃z,Aw c [123] j=z:=⟨_,rfl⟩;have f1:=J a3;have hg:=A8 c [123] j;have f2:y.bZ<n:=Cb a3 HZ.o b4;rw[a3]at hg;have c1:D (Iq n y E.length):=c2.o.cY hg f2;have d2:D (y.cB=none->2*(n-y.bZ)+1<=f):=fun e=>by have q:=hg.2.2.2 e;have:=c0.o q.1;omega
 have R:AI l d g n p y.bZ y.cB w1:=by subst a3;exact Q
 have c5:=J R;have b6:=(K.o.ne s.o T);have b7:d≠l:=HP.o.bY.ne s.o.bY T;have d0:=J (AO.d8 (w:=w.drewN nq) K.o ho b6);have c4:D (BZ d fv Y y.pl y.ca w1):=by have:=BZ.bY (w:=w.drewN nq) HP.o;have q:=this.d8 ho b7;rw[hg.2.1,hg.2.2.1];exact q
 have c7:=J (Bx.rb (w:=w.drewN nq) c9.o s.o ho);have b2:=J ((Fo.refl l d Y w).drewN nq|>.tr ho);have d4:D (Az c f r y E []=V):=by rw[<-a3];exact HV.o
 clear Q ho a3 R hg HV s K HP c9 c2 c0 t0 t1 t2 r0 r1;go_wp2_with fail;go_loopw[7] (fun v wr=>∃(k:Nat) (a:St) (L:List FS) (H:List Nat) (N:Value) (C:Nat->Prop),D ((∀k,U k->C k)/\(∀k,C k->U k\/w.heap.size<=k)/\(∀k,C k->k<wr.heap.size)/\∀k,v.ownBlock=some k->¬C k)/\D (AI l d g n p a.bZ a.cB wr)/\D (AO g n p c wr)/\D (BZ d fv N a.pl a.ca wr)/\D (Bx B C wr N L)/\D (Fo l d Y N w wr)/\D (Ax w.heap.size wr v H)/\D (Iq n a L.length)/\D (a.cB=none->2*(n-a.bZ)+1<=k/\H.length<=a.bZ)/\k<=f/\H.length<=n/\D (Az c k r a L H=V)) (fun _ wr=>Oq l n wr)
 case atStart=>exact⟨f,y,E,[],Y,U,⟨fun _ h=>h,fun _ h=>.inl h,fun k h=>by have:=d3.o k h;have:=b2.o.d8.size;omega,fun k h=>by simp[Value.ownBlock]at h⟩,c5,d0,c4,c7,b2,gR _ _ _ _,c1,fun e=>⟨d2.o e,jY⟩,gI _,jY,d4⟩
 case round=>
  obtain⟨k,a,L,H,N,C,A,s,K,HP,HS,HF,HN,HI,HU,g9,h1,HC⟩:=hrel;clear c5 d0 c4 c7 b2 c1 d2 d4 f1;have b3:=HI.o.1;go_wp2_with fail;refine(Rz l d g n p a.bZ a.cB c _ [125] jY wr s.o K.o b3).mono ?_;rintro e w2 ⟨rfl,P⟩;have t:=J (s.o.d8 P id);have a1:=J (K.o.d8 P id);have a6:D (BZ d fv N a.pl a.ca w2):=HP.o.bY.d8 P id;have a8:=J (HS.o.s9 P);have a4:=J (HF.o.trans (Fo.cV (P.mono (fun _ _ q=>q.elim))));have a5:D (Ax w.heap.size w2 u7 H):=Ac HN.o P (fun _ _ q=>q);have HM:=J (Hs s.o);clear s K HP HS HF HN P;have r2:=t.o.bY.cell 2;simp at r2;by_cases S:a.cB≠none\/Bs a.cB (tokAt c a.bZ) [125]=true
  .have hv:V=(H,a,L):=by rw[<-HC.o,Qo S]
   subst hv;have f3:(∃b:Nat,a.cB=some b/\Bs a.cB (tokAt c a.bZ) [125]=false)\/Bs a.cB (tokAt c a.bZ) [125]=true:=by
    cases X:a.cB with
    |none=>right;rcases S with q|q;exact jO X q;rw[X]at q;exact q
    |some b=>left;exact⟨b,rfl,rfl⟩
   clear S HC HU HM;rcases f3 with⟨b,F,u⟩|u
   .rw[u];rw[F]at r2;simp only[F7]at r2;have g8:decide ((0:Int)<=(b:Int))=true:=jY;have e5:=J u;have g7:=J F;clear u F;go_wp2_with fail;refine(Jc l d g n p a.bZ a.cB c _ [125] jY w2 t.o a1.o b3).mono ?_;rintro e I ⟨rfl,G,a9⟩;have a7:=J G;have o:=J a9;clear G a9;go_wp2_with fail;go_ret2;refine⟨N,u7,C,A.o.1,A.o.2.1,A.o.2.2.2,rfl,?_,a7.o,a1.o.d8 o.o b6,a6.o.bY.d8 o.o b7,a8.o.rb t.o o.o,a4.o.tr o.o⟩;exact Ai a5.o o.o (fun k ds fz m=>CT t.o.bY T k ds fz m)
   .rw[u];have e5:=J u;clear u;go_wp2_with fail;refine(Jc l d g n p a.bZ a.cB c _ [125] jY w2 t.o a1.o b3).mono ?_;rintro e I ⟨rfl,G,a9⟩;have a7:=J G;have o:=J a9;clear G a9;go_wp2_with fail;go_ret2;refine⟨N,u7,C,A.o.1,A.o.2.1,A.o.2.2.2,rfl,?_,a7.o,a1.o.d8 o.o b6,a6.o.bY.d8 o.o b7,a8.o.rb t.o o.o,a4.o.tr o.o⟩;exact Ai a5.o o.o (fun k ds fz m=>CT t.o.bY T k ds fz m)
  .have F:a.cB=none:=by
    cases X:a.cB with
    |none=>rfl
    |some b=>exact jO (.inl (by simp[X])) S
   have u:Bs a.cB (tokAt c a.bZ) [125]=false:=by
    cases hq:Bs a.cB (tokAt c a.bZ) [125]with
    |false=>rfl
    |true=>exact jO (.inr hq) S
   have h0:=HU.o F
   obtain⟨M,f5⟩:∃M,k=M+1:=⟨k-1,Z⟩
   subst f5
   obtain⟨ri,rx,rf,R⟩:∃i x f,AJ c M r a L=(i,x,f):=⟨_,_,_,rfl⟩
   have a0:=J ((DQ HZ.o M).2 r a L HI.o F)
   rw[R]at a0
   have e2:D (Az c M r rx rf (H++[ri])=V):=by have:=HC.o;rw[Az,jG S,R]at this;exact this
   rw[u]
   rw[F]at r2
   simp only[F7]at r2
   have HB:=J F
   have e8:=J R
   have h3:w.heap.size<=w2.heap.size:=a4.o.d8.size
   clear u F S HC HU R
   go_wp2_with fail
   refine(IH.o M Z l d g n p B r C c fv N a L w2 t.o a1.o a6.o a8.o Z HZ.o HI.o HB.o Z).mono ?_
   rw[e8.o]
   rintro e I ⟨g6,U2,e1,b9,rfl,G,e0,b8,d9,b1⟩
   have a2:=Wb a5.o t.o a6.o a8.o b1
   have d6:=Am a2 G T
   have d7:=Am a2 b8 T
   have h2:w2.heap.size<=I.heap.size:=b1.d8.size
   have a7:=J G
   have d1:=J e0
   have e6:=J b8
   have c8:=J d9.below
   have e3:=J (a4.o.trans b1)
   have c3:=J (And.intro d6 d7)
   have b0:D ((∀k,U k->U2 k/\k<I.heap.size)/\(∀k,U2 k/\k<I.heap.size->U k\/w.heap.size<=k)/\∀k,u7.ownBlock=some k->¬(U2 k/\k<I.heap.size)):=by
    refine⟨fun k h=>⟨e1 k (A.o.1 k h),?_⟩,fun k h=>?_,fun k h q=>?_⟩
    .have:=d3.o k h;omega
    .rcases b9 k h.1 with q|q
     .exact A.o.2.1 k q
     .exact .inr Z
    .rcases b9 k q.1 with q'|q'
     .exact A.o.2.2.2 k h q'
     .have:=(a5.o.lt k h).2;omega
   clear e1 b9 G e0 b8 d9 b1 d6 d7 a5 t a1 a6 a8 a4 r2
   go_wp2_with(at_builtin;refine JG _ rfl _ _ 50 rfl w.heap.size 3 i0 (.int .i64 0) 1 8 underlying50 hi g0 g4 g5 rfl T _ _ _ rfl (a2.alloc _) ⟨I.heap.size,0,none⟩ 1 1 [.int .i64 (ri:Int)] rfl rfl (cell_one_new _ _ _) (fun x X=>by simp at X;subst X;rfl) T jZ Z jX ?_;intro v' w4 f7 f4 f6)
   have O4:O (fun k=>u7.ownBlock=some k) I w4:=O.grown ((O.refl _ _).alloc _) f4 (fun k m=>.inl m)
   have c6:=J (a7.o.d8 O4 (fun q=>c3.o.1 l q rfl))
   have f0:=J (d1.o.d8 O4 (Gq d1.o.1 a2 T g rfl))
   have e7:=J (e6.o.bY.d8 O4 (fun q=>c3.o.2 d q rfl))
   have e9:=J (c8.o.eI O4 (fun k m=>by obtain⟨cs,f9,_⟩:=c8.o;exact Gq f9 a2 T k m) (fun k m q=>b0.o.2.2 k q m))
   have e4:=J (e3.o.owned O4 (fun k m=>(a2.lt k m).1))
   have d5:M≠0:=Z
   refine⟨⟨M,rx,rf,H++[ri],g6,fun k=>U2 k/\k<I.heap.size,⟨b0.o.1,b0.o.2.1,fun k m=>by have:=O4.size;omega,fun k m q=>?_⟩,c6,f0,e7,e9,e4,?_,a0.o.1,fun e=>?_,Z,jX,e2⟩,?_⟩
   .rcases f6 k m with q'|q'
    .exact b0.o.2.2 k q' q
    .simp at q';omega
   .show World.ownsRow _ _ _ _ _ _ _
    rw[gM,jP];exact f7
   .have:=a0.o.2.2.2 d5 e
    simp only[gM,gK,gZ];omega
   .rw[Hs c6.o,HM.o,jH HB.o]
    have g1:=a0.o.2.1;have g2:=a0.o.2.2.2 d5;have g3:=a0.o.1.1;split
    .rename_i e;have:=g2 e;omega
    .omega
