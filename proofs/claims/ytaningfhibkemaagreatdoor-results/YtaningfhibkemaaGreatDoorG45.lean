/- Part of the proof: LtA. -/
import Derived.Test.YtaningfhibkemaaGreatDoorG44
set_option maxRecDepth 100000
set_option maxHeartbeats 2000000
namespace Go.Proofs.YtaningfhibkemaaGreatDoor
open Go.RowKit Go.Proofs.Tryz
theorem Uh{P:List PFn}{mn B b:Nat}{c:List RF}{fs:List FS}(K:LsK P mn B b c fs)(hv:∀f (h:f<c.length),c[f].t8=(As P f).t8){o Bp:Nat}{U:Nat->Prop}{fv sv:Value}{w:World}(G:XB o Bp w.heap.size U fv sv c fs B b w)(i4:b<=4001):
 Calls prog 11 #[.pointer (some ⟨o,0,none⟩)] w fun e w'=>∃p r cv ev s,e=.returned (.pointer (some ⟨p,0,none⟩))/\KQ P B b w.heap.size p o r cv ev w s w'/\(least P).le (Ow P B s)/\O kD w w':=by
 obtain⟨i0,d8,e8,e9,f2⟩:=info_parts Tryz.infoStr;have hp:=G.rp;have HG:=J G;have p0:=Ak hp.pr 0;have p1:=Ak hp.pr 1;have p2:=Ak hp.pr 2;have p3:=Ak hp.pr 3;have lp:=Ae hp.pr;simp only[gH,gF,gG]at p0 p1 p2 p3;have HP:=J hp;have HK:=J K;have HV:=J hv;have c9:D (∀k,(KN c k).length<=144):=fun k=>by
  have h1:=GM QP 12 (c.take k) (fun f hf=>by obtain⟨i,hi,rfl⟩:=iF.1 (List.mem_of_mem_take hf);unfold QP;rw[iJ,hv i hi];exact K.hy.ok.ok.t8 i)
  have h2:=K.hy.ok.cR;have h3:=K.len;have h4:=List.length_take_le k c;have h5:=List.length_take_le' k c;unfold KN;omega
 clear hp K hv G;obtain⟨w1,g1,r1,o1⟩:=ND w.heap.size b w (gI _) Z;have l1:o<w1.heap.size:=gY lp o1.size;have AL:=J (o1.alloc (.cells #[.pointer (some ⟨o,0,none⟩),.slice none 0 0,.slice none 0 0,.slice (some ⟨w.heap.size,0,none⟩) b b,.bool false] 88));have B1:=J (W.new w1 #[.pointer (some ⟨o,0,none⟩),.slice none 0 0,.slice none 0 0,.slice (some ⟨w.heap.size,0,none⟩) b b,.bool false] 88);have d5:=J r1;have d4:=J o1;clear r1 o1;go_enter func11,ntmps11;go_upto_block 0 with fail;change Code.wp _ _ _ _ (w1.alloc (.cells #[.pointer (some ⟨o,0,none⟩),.slice none 0 0,.slice none 0 0,.slice (some ⟨w.heap.size,0,none⟩) b b,.bool false] 88));have A2:=J ((O.refl kD w1).alloc (.cells #[.pointer (some ⟨o,0,none⟩),.slice none 0 0,.slice none 0 0,.slice (some ⟨w.heap.size,0,none⟩) b b,.bool false] 88));have d6:=J d4.o.size;generalize w1.alloc (.cells #[.pointer (some ⟨o,0,none⟩),.slice none 0 0,.slice none 0 0,.slice (some ⟨w.heap.size,0,none⟩) b b,.bool false] 88)=g at AL B1 A2⊢;generalize w1.heap.size=p at B1 d6⊢;have T0:D (OJ p o b (.slice none 0 0) (.slice (some ⟨w.heap.size,0,none⟩) b b) [] w g):=⟨B1.o,gR _ _ _ _,Ac d5.o A2.o (fun _ _ q=>q),d6.o,AL.o⟩;clear B1 AL A2 d5 d4 g1 l1;go_cut[] (fun wx=>∃r:Value,D (OJ p o b r (.slice (some ⟨w.heap.size,0,none⟩) b b) (KN c c.length) w wx))
 case first=>
  clear p0 p1 p2 p3 lp;go_wp2_with fail;go_loopw[4] (fun i M=>∃(k:Nat) (r:Value),k<=c.length/\i=.int .i64 k/\D (OJ p o b r (.slice (some ⟨w.heap.size,0,none⟩) b b) (KN c k) w M)) (fun i _=>c.length-(intOf i).toNat)
  case atStart=>exact⟨0,_,Z,rfl,T0⟩
  case round=>
   clear T0;obtain⟨k,r,hk,rfl,T0⟩:=hrel;have L:=HG.o.at (T0.o.o.below (fun _ q=>q.elim));have f0:=Ak L.pr 0;have lp:=Ae L.pr;have j1:=HG.o.rn;obtain⟨rs,Q,_⟩:=L.fn;obtain⟨ga,gl,gc,rfl⟩:=Ad Q;have c3:=Ag Q;subst c3;simp only[gH,gF]at f0;by_cases a0:k<c.length
   .have tk:decide ((k:Int)<(c.length:Int))=true:=jX;obtain⟨fg,rfl⟩:=Ap Q Z;have HF:=J (PZ c k a0);have g5:c[k].t8.length<=12:=by rw[HV.o k a0];exact HK.o.hy.ok.ok.t8 k
    have g4:=HG.o.nz _ (gQ a0);have e5:∀v,v∈c[k].t8->v.size<=4000:=by rw[HV.o k a0];intro v hv;obtain⟨j,hj,rfl⟩:=iF.1 hv;have:=HK.o.hy.nm.t8 k j;unfold Hx at this;rw[gL hj]at this;exact this
    have d7:=J e5;have CX:D (∀g,O kD w g->∃v1 v3,g.cell? ⟨o,0,none⟩=some (.slice (some ⟨fg,0,none⟩) c.length gc)/\g.cell? ⟨fg,k*7,none⟩=some (.string c[k].name.d9)/\g.cell? ⟨fg,k*7+6,none⟩=some (.slice v1 c[k].t8.length v3)/\Au Bp g (.slice v1 c[k].t8.length v3) c[k].t8/\o<g.heap.size/\fg<g.heap.size):=fun g V=>by have L:=HG.o.at (V.below (fun _ q=>q.elim));obtain⟨rs,Q,_⟩:=L.fn;obtain⟨tv,bv,vv,C,j2,i3,c6⟩:=L.fn.get a0;obtain⟨v1,v2,v3,rfl⟩:=Ad c6;have:=Ag c6;subst this;exact⟨v1,v3,Ak L.pr 0,C 0 T,C 6 T,c6,Ae L.pr,(Q.lt fg rfl).2⟩
    generalize c[k]=F at HF g5 g4 d7 CX;clear Q L e5;obtain⟨v1,v3,d0,d1,d2,d3,e0,e1⟩:=CX.o w (O.refl _ _);have HC:D (∀g,O kD w g->g.cell? ⟨o,0,none⟩=some (.slice (some ⟨fg,0,none⟩) c.length gc)/\g.cell? ⟨fg,k*7,none⟩=some (.string F.name.d9)/\g.cell? ⟨fg,k*7+6,none⟩=some (.slice v1 F.t8.length v3)/\o<g.heap.size/\fg<g.heap.size):=fun g V=>⟨(gJ (V.block o e0 id)).trans d0,(gJ (V.block fg e1 id)).trans d1,(gJ (V.block fg e1 id)).trans d2,gY e0 V.size,gY e1 V.size⟩
    have D3:=J d3;clear d0 d1 d2 d3 e0 e1 CX;have t:D (OJ p o b r (.slice (some ⟨w.heap.size,0,none⟩) b b) (KN c k++(QP F).take 0) w wr):=by rw[List.take_zero,iP];exact T0
    have f4:=J (show k+1<=c.length from a0);clear T0;go_upto_block 2 with fail;go_wp2_with fail;go_loopw[5] (fun i M=>∃(j:Nat) (r:Value),j<=F.t8.length/\i=.int .i64 j/\D (OJ p o b r (.slice (some ⟨w.heap.size,0,none⟩) b b) (KN c k++(QP F).take j) w M)) (fun i _=>F.t8.length-(intOf i).toNat)
    case atStart=>exact⟨0,_,Z,rfl,t⟩
    case round=>
     clear t;obtain⟨j,r,hj,rfl,t⟩:=hrel;obtain⟨c0,c1,c2,l0,l1⟩:=HC.o wr t.o.o;have j3:(QP F).length=F.t8.length:=by unfold QP;rw[iJ]
     by_cases d9:j<F.t8.length
     .have tj:decide ((j:Int)<(F.t8.length:Int))=true:=jX;obtain⟨vg,rfl⟩:=Ap D3.o Z;have HX:D (∀g,O kD w g->g.cell? ⟨vg,j,none⟩=some (.string F.t8[j])):=fun g V=>(gJ (V.block vg (D3.o.lt vg rfl).2 id)).trans (Hb D3.o j d9)
      have hx:(QP F).take (j+1)=(QP F).take j++[F.name.d9++⟨#[46]⟩++F.t8[j]]:=by rw[iN Z];unfold QP;rw[iU]
      have HT:=J hx;have g6:=d7.o _ (gQ d9);have g3:(KN c k++(QP F).take j).length<=20000:=by have:=c9.o k;rw[gM,List.length_take];omega
      generalize F.t8[j]=X at HX HT g6;clear hx;have i6:(j:Int)<(F.t8.length:Int):=Z;have i8:(k:Int)<(c.length:Int):=Z;have z1:¬(9223372036854775807<F.name.d9.size+1):=Z;have z2:¬(9223372036854775807<F.name.d9.size+1+X.size):=Z;go_upto_block 3 with fail;go_cut[] (fun wx=>∃a9:Value,D (OJ p o b a9 (.slice (some ⟨w.heap.size,0,none⟩) b b) (KN c k++(QP F).take (j+1)) w wx))
      case first=>
       go_upto_region 8 with fail;have u:=fun g (z:O kD w g)=>And.intro (HX.o g z) (HC.o g z)
       refine wp_region_held_drew (S:=fun w'=>O kD w w') jW t.o.o.drew (fun d=>?_);refine Fn 0 39 (v:=?_) rfl u d ?_;simp only[Ab,An,jU];refine Fn 1 40 (v:=?_) rfl u d ?_;simp only[Ab,An,jU];refine Fn 2 41 (v:=?_) rfl u d ?_;simp only[Ab,An,jU];refine Fn 3 42 (v:=?_) rfl u d ?_;simp only[Ab,An,jU];refine Fn 5 44 (v:=?_) rfl u d ?_;simp only[Ab,An,jU];refine Fn 6 45 (v:=?_) rfl u d ?_;simp only[Ab,An,jU];refine Fn 7 46 (v:=?_) rfl u d ?_;simp only[Ab,An,jU];refine Fn 8 47 (v:=?_) rfl u d ?_;simp only[Ab,An,jU];refine Fn 9 48 (v:=?_) rfl u d ?_;simp only[Ab,An,jU];refine Fn 10 49 (v:=?_) rfl u d ?_;simp only[Ab,An,jU];refine Fn 11 50 (v:=?_) rfl u d ?_;simp only[Ab,An,jU];refine Fn 12 51 (v:=?_) rfl u d ?_;simp only[Ab,An,jU];refine Fn 13 52 (v:=?_) rfl u d ?_;simp only[Ab,An,jU];refine Fn 14 53 (v:=?_) rfl u d ?_;simp only[Ab,An,jU];refine Fn 15 54 (v:=?_) rfl u d ?_;simp only[Ab,An,jU];refine Fn 16 55 (v:=?_) rfl u d ?_;simp only[Ab,An,jU];refine Fn 17 56 (v:=?_) rfl u d ?_;simp only[Ab,An,jU];refine Fn 18 57 (v:=?_) rfl u d ?_;simp only[Ab,An,jU];refine Fn 19 58 (v:=?_) rfl u d ?_;simp only[Ab,An,jU];refine Fn 20 59 (v:=?_) rfl u d ?_;simp only[Ab,An,jU];refine Fn 21 60 (v:=?_) rfl u d ?_;simp only[Ab,An,jU];refine Fn 22 61 (v:=?_) rfl u d ?_;simp only[Ab,An,jU];refine Fn 23 62 (v:=?_) rfl u d ?_;simp only[Ab,An,jU];refine Fn 24 63 (v:=?_) rfl u d ?_;simp only[Ab,An,jU];refine Fn 25 64 (v:=?_) rfl u d ?_;simp only[Ab,An,jU];refine Fn 26 65 (v:=?_) rfl u d ?_;simp only[Ab,An,jU];have s1:=t.o.bx.cell 1;have ls:=Ae t.o.bx;simp only[gH,gF,gG]at s1;refine wpAnyH_ready (rs:=[4,27]) jW jY (AllReadyH.cons rfl (fun K I=>?_) (AllReadyH.cons rfl (fun K I=>?_) AllReadyH.nil));focus
        go_simp;refine I.out _ _ d (fun d=>?_);clear I K;refine wpAnyH_ready (rs:=[27]) jW jY (AllReadyH.cons rfl (fun K I=>?_) AllReadyH.nil);go_simp;refine I.out _ _ (d.alloc _) (fun d=>?_);clear I K
       rotate_left;focus
        go_simp;refine I.out _ _ (d.alloc _) (fun d=>?_);clear I K;refine wpAnyH_ready (rs:=[4]) jW jY (AllReadyH.cons rfl (fun K I=>?_) AllReadyH.nil);go_simp;refine I.out _ _ d (fun d=>?_);clear I K
       all_goals
        refine wpAnyH_ready (rs:=[28]) jW jY (AllReadyH.cons rfl (fun K I=>?_) AllReadyH.nil);refine AB rfl _ _ 51 rfl w.heap.size 9 i0 (.string ByteArray.empty) 1 16 underlying51 d8 e8 e9 f2 rfl T _ _ _ rfl (World.ownsRow.alloc t.o.nr _) _ 1 1 [.string (F.name.d9++⟨#[46]⟩++X)] rfl rfl (AC rfl _ _) (fun x hx=>by simp at hx;subst hx;rfl) T jZ Z (by have:=t.o.o.size;simp;omega) ?_;intro v5 w5 b0 b6 _;obtain⟨v6,v7,v8,rfl⟩:=Ad b0;obtain⟨t5,b5,o5⟩:=t.o.push (nm:=KN c k++(QP F).take j) (x:=F.name.d9++⟨#[46]⟩++X) ((O.refl _ _).alloc _).drew b6 b0;have T5:=J t5;have q1:=b5.cell 1;have q2:=b5.frozen 1;have q3:=Ae b5;simp only[gH,gF,gG]at q1;refine I.out _ _ o5 (fun d=>?_);clear I K t5 b5;refine Fn 29 68 (v:=?_) rfl u d ?_;simp only[Ab,An,jU];refine Fn 30 69 (v:=?_) rfl u d ?_;simp only[Ab,An,jU];refine wpAnyH_ready (rs:=[31]) jW jY (AllReadyH.cons rfl (fun K I=>?_) AllReadyH.nil);go_simp;refine I.out _ _ T5.o.o (fun d=>?_);clear I K;refine wpAnyH_done jW ?_ _;go_wp2_with fail;go_meet
        case rel=>exact⟨_,by rw[HT.o,<-jK];exact T5⟩
      case rest=>
      obtain⟨a9,H⟩:=hcut;clear t;go_wp2_with fail;go_roundw
      case rel=>exact⟨j+1,a9,Z,by go_num,H⟩
      case measure=>simp[intOf];omega
     .have tj:decide ((j:Int)<(F.t8.length:Int))=false:=jX;obtain rfl:j=F.t8.length:=Z;have T3:D (OJ p o b r (.slice (some ⟨w.heap.size,0,none⟩) b b) (KN c (k+1)) w wr):=by rw[HF.o,<-List.take_of_length_le (l:=QP F) (i:=F.t8.length) Z];exact t
      clear t;go_wp2_with fail;go_roundw
      case rel=>exact⟨k+1,r,f4.o,by go_num,T3⟩
      case measure=>simp[intOf];omega
   .have tk:decide ((k:Int)<(c.length:Int))=false:=jX;obtain rfl:k=c.length:=Z;clear Q L;go_wp2_with fail;go_meet
    case rel=>exact⟨r,T0⟩
 case rest=>
 obtain⟨r,t⟩:=hcut;clear T0;go_upto_block 4 with fail;go_cut[] (fun wx=>∃r:Value,D (OJ p o b r (.slice (some ⟨w.heap.size,0,none⟩) b b) (KN c c.length++QS B) w wx))
 case first=>
  have g0:D (∀g,O kD w g->g.cell? ⟨o,2,none⟩=some (.int .i64 B)/\o<g.heap.size):=fun g V=>⟨(gJ (V.block o lp id)).trans p2,gY lp V.size⟩
  have T3:D (OJ p o b r (.slice (some ⟨w.heap.size,0,none⟩) b b) (KN c c.length++QS 0) w wc):=by have e:KN c c.length++QS 0=KN c c.length:=iP _;rw[e];exact t
  have j0:=HK.o.hy.pn;have f7:D (∀n,(QS n).length<=4*n):=fun n=>by have h2:=GM (fun i=>Qe (i+1)) 4 (List.range n) (fun i _=>by unfold Qe;rw[iJ,List.length_range];exact gI _);rw[List.length_range]at h2;unfold QS;omega
  clear p0 p1 p2 p3 lp t;go_wp2_with fail;go_loopw[6] (fun i M=>∃(n:Nat) (r:Value),n<=B/\i=.int .i64 ((n:Int)+1)/\D (OJ p o b r (.slice (some ⟨w.heap.size,0,none⟩) b b) (KN c c.length++QS n) w M)) (fun i _=>B+1-(intOf i).toNat)
  case atStart=>exact⟨0,_,Z,rfl,T3⟩
  case round=>
   clear T3;obtain⟨n,r,hn,rfl,T3⟩:=hrel;obtain⟨c2,l2⟩:=g0.o wr T3.o.o;have f6:=J (Wp n);by_cases a0:n<B
   .have tk:decide ((n:Int)+1<=(B:Int))=true:=jX;have t:D (OJ p o b r (.slice (some ⟨w.heap.size,0,none⟩) b b) (KN c c.length++QS n++(Qe (n+1)).take 0) w wr):=by rw[List.take_zero,iP];exact T3
    clear T3;go_upto_block 6 with fail;go_wp2_with fail;go_loopw[7] (fun i M=>∃(k:Nat) (r:Value),k<=4/\i=.int .i64 k/\D (OJ p o b r (.slice (some ⟨w.heap.size,0,none⟩) b b) (KN c c.length++QS n++(Qe (n+1)).take k) w M)) (fun i _=>4-(intOf i).toNat)
    case atStart=>exact⟨0,_,Z,rfl,t⟩
    case round=>
     clear t;obtain⟨k,r,hk,rfl,t⟩:=hrel;have i9:(Qe (n+1)).length=4:=by unfold Qe;rw[iJ,List.length_range]
     by_cases i7:k<4
     .have tj:decide ((k:Int)<4)=true:=jX;have hx:(Qe (n+1)).take (k+1)=(Qe (n+1)).take k++[K5 (n+1)++⟨#[46]⟩++K5 k]:=by rw[iN Z];unfold Qe;rw[iU,List.getElem_range]
      obtain⟨N,b1⟩:∃N:Int->ByteArray,N=fun z=>K5 z.toNat:=⟨_,rfl⟩
      have HD:D (∀(z:Int) (g:World),0<=z->z<=5000->Calls prog 23 #[.int .i64 z] g fun e w'=>e=.returned (.string (N z))/\O kD g w'):=fun z g h1 h2=>by obtain⟨a,rfl⟩:∃a:Nat,z=a:=⟨z.toNat,Z⟩;rw[b1];exact(GW a Z g).mono fun _ _ ⟨q1,m,q2⟩=>⟨q1,by rw[q2];exact(O.refl _ _).drewN m⟩
      have j8:(N ((n:Int)+1)).size<=5:=by rw[b1];exact E0 (n+1) Z
      have j9:(N (k:Int)).size<=5:=by rw[b1];exact E0 k Z
      have HT:D ((Qe (n+1)).take (k+1)=(Qe (n+1)).take k++[N ((n:Int)+1)++⟨#[46]⟩++N (k:Int)]):=by rw[b1];exact hx
      clear b1;have g3:(KN c c.length++QS n++(Qe (n+1)).take k).length<=20000:=by have:=c9.o c.length;have:=f7.o n;rw[gM,gM,List.length_take];omega
      have z1:¬(9223372036854775807<(N ((n:Int)+1)).size+1):=Z;have z2:¬(9223372036854775807<(N ((n:Int)+1)).size+1+(N (k:Int)).size):=Z;have s1:=t.o.bx.cell 1;have ls:=Ae t.o.bx;simp only[gH,gF,gG]at s1;clear hx;go_upto_block 7 with fail;go_cut[] (fun wx=>∃a9:Value,D (OJ p o b a9 (.slice (some ⟨w.heap.size,0,none⟩) b b) (KN c c.length++QS n++(Qe (n+1)).take (k+1)) w wx))
      case first=>
       go_upto_region 15 with fail;go_region_law(first
        |(go_simp;go_at_call 23;refine(HD.o _ _ Z Z).mono ?_;rintro e w3 ⟨rfl,o3⟩;have O3:=J (O.trans (X:=kD) (a:=wr) (by repeat(first|exact O.refl _ _|exact O3.o|refine O.drew ?_|refine O.alloc ?_ _)) o3);have s3:=(gJ (O3.o.block p ls id)).trans s1;have l3:=gY ls O3.o.size;clear o3;dsimp only)
        |(refine AB rfl _ _ 51 rfl w.heap.size 9 i0 (.string ByteArray.empty) 1 16 underlying51 d8 e8 e9 f2 rfl T _ _ _ rfl (World.ownsRow.alloc (Ac t.o.nr O3.o (fun _ _ q=>q)) _) _ 1 1 [.string (N ((n:Int)+1)++⟨#[46]⟩++N (k:Int))] rfl rfl (AC rfl _ _) (fun x hx=>by simp at hx;subst hx;rfl) T jZ Z (by have:=t.o.o.size;have:=O3.o.size;simp;omega) ?_;intro v5 w5 b0 b6 _;obtain⟨v6,v7,v8,rfl⟩:=Ad b0;obtain⟨t5,b5,o5⟩:=t.o.push (x:=N ((n:Int)+1)++⟨#[46]⟩++N (k:Int)) (by repeat(first|exact O.refl _ _|exact O3.o|refine O.drew ?_|refine O.alloc ?_ _)) b6 b0;have T5:=J t5;have q1:=b5.cell 1;have q2:=b5.frozen 1;have q3:=Ae b5;simp only[gH,gF,gG]at q1;clear t5 b5 b0 b6))
       all_goals
        go_wp2_with fail;go_meet
        case rel=>exact⟨_,by rw[HT.o,<-jK];exact T5⟩
      case rest=>
      obtain⟨a9,H⟩:=hcut;clear t s1 ls;go_wp2_with fail;go_roundw
      case rel=>exact⟨k+1,a9,Z,by go_num,H⟩
      case measure=>simp[intOf];omega
     .have tj:decide ((k:Int)<4)=false:=jX;obtain rfl:k=4:=Z;have T3:D (OJ p o b r (.slice (some ⟨w.heap.size,0,none⟩) b b) (KN c c.length++QS (n+1)) w wr):=by rw[f6.o,<-jK,<-List.take_of_length_le (l:=Qe (n+1)) (i:=4) Z];exact t
      clear t;go_wp2_with fail;go_roundw
      case rel=>exact⟨n+1,r,Z,by go_num,T3⟩
      case measure=>simp[intOf];omega
   .have tk:decide ((n:Int)+1<=(B:Int))=false:=jX;obtain rfl:n=B:=Z;go_wp2_with fail;go_meet
    case rel=>exact⟨r,T3⟩
 case rest=>
 obtain⟨r,H⟩:=hcut;clear t;rw[<-aN HK.o HV.o]at H;obtain⟨n1,n2,n3,rfl⟩:=Ad H.o.nr;have b7:=Ag H.o.nr;subst b7;have b4:=Yv (pn:=B) HK.o.hy;obtain⟨E,b3⟩:∃n,(Ik P B).length=n:=⟨_,rfl⟩;rw[b3]at H b4;obtain⟨w2,g2,r2,o2⟩:=ND w.heap.size E wc H.o.o.size b4;have LB:=J (Wm H.o b3 b4 r2 o2);have s1:=H.o.bx.cell 1;have g7:=Ae H.o.bx;have b2:=H.o.bx.d8 o2 id;have s2:=b2.cell 2;have z2:=b2.frozen 2;have g8:=Ae b2;have s4:=LB.o.bx.cell 4;have z4:=LB.o.bx.frozen 4;have l4:=Ae LB.o.bx;simp only[gH,gF,gG]at s1 s2 s4;have O9:=J (((H.o.o.trans o2).cE 2 (.slice (some ⟨wc.heap.size,0,none⟩) E E) H.o.sb).cE 4 (.bool true) H.o.sb);have F9:=J (LB.o.flagB true).1;clear r2 o2 b2 LB H;go_upto_block 8 with fail;change Code.wp _ _ _ _ ((w2.setCell ⟨p,2,none⟩ (.slice (some ⟨wc.heap.size,0,none⟩) E E)).setCell ⟨p,4,none⟩ (.bool true));have A:D (KQ P B b w.heap.size p o (.slice n1 E n3) (.slice (some ⟨wc.heap.size,0,none⟩) E E) (.slice (some ⟨w.heap.size,0,none⟩) b b) w ⟨List.replicate E [],List.replicate b [],true⟩ ((w2.setCell ⟨p,2,none⟩ (.slice (some ⟨wc.heap.size,0,none⟩) E E)).setCell ⟨p,4,none⟩ (.bool true))):=by have li:=Wj P B b true;rw[b3]at li;exact⟨⟨F9.o,li,O9.o.size⟩,O9.o.below (fun _ q=>q.elim)⟩
 clear F9 g2 s1 s2 s4 z2 z4 l4 g7 g8 b3 b4 p0 p1 p2 p3 lp;generalize ((w2.setCell ⟨p,2,none⟩ (.slice (some ⟨wc.heap.size,0,none⟩) E E)).setCell ⟨p,4,none⟩ (.bool true))=W9 at A O9⊢;generalize Value.slice (some ⟨wc.heap.size,0,none⟩) E E=cv at A⊢;generalize Value.slice (some ⟨w.heap.size,0,none⟩) b b=ev at A⊢;obtain⟨mf,e2⟩:=Oh;obtain⟨Y,hJ⟩:∃Y:Nat->World->Prop,Y=fun n M=>∃s:Ls,D (KQ P B b w.heap.size p o (.slice n1 E n3) cv ev w s M)/\D (s.more=false->(least P).le (Ow P B s))/\D (n=XG P s+if s.more then 1 else 0):=⟨_,rfl⟩
 have c7:D (∃n,Y n W9):=⟨_,by rw[hJ];exact⟨_,A,(fun q=>by cases q),rfl⟩⟩;have HJ:=J hJ;have c8:=J e2;clear hJ e2 A O9;go_wp2_with fail;go_loopw[] (fun M=>∃n,Y n M) (fun M=>mf (fun n=>Y n M))
 case atStart=>exact c7.o
 case round=>
  clear c7;obtain⟨n0,e3⟩:=hrel;have e4:=(c8.o (fun n=>Y n wr) n0 e3).1;obtain⟨nn,c5⟩:∃nn,nn=mf (fun n=>Y n wr):=⟨_,rfl⟩;have b7:Y nn wr:=by rw[c5];exact e4
  rw[HJ.o]at b7;obtain⟨s,A,LE,HL⟩:=b7;have f8:=J c5;clear e3 e4 c5 n0;have s4:=A.o.p.m.bx.cell 4;have z4:=A.o.p.m.bx.frozen 4;have l4:=Ae A.o.p.m.bx;simp only[gH,gF,gG]at s4;by_cases hm:s.more=true
  .rw[hm]at s4;have FB:=J (A.o.p.m.flagB false);have R:D (KQ P B b w.heap.size p o (.slice n1 E n3) cv ev w ⟨s.cells,s.ents,false⟩ (wr.setCell ⟨p,4,none⟩ (.bool false))):=⟨⟨FB.o.1,⟨A.o.p.i.cl,A.o.p.i.cs,A.o.p.i.ci,A.o.p.i.el,A.o.p.i.es,A.o.p.i.ei⟩,gW A.o.p.b FB.o.2.size⟩,A.o.low.trans (FB.o.2.cX A.o.p.b (fun k q=>by rw[q];exact A.o.p.m.sb))⟩;have HM:=J hm;clear FB hm;go_upto_block 10 with fail;change Code.wp _ _ _ _ (wr.setCell ⟨p,4,none⟩ (.bool false));clear s4 z4 l4 A;generalize wr.setCell ⟨p,4,none⟩ (.bool false)=W3 at R⊢;go_wp2_with fail;go_loopw[8] (fun i M=>∃(k:Nat) (s':Ls),k<=fs.length/\i=.int .i64 k/\D (KQ P B b w.heap.size p o (.slice n1 E n3) cv ev w s' M)/\D (Fq P B b ⟨s.cells,s.ents,false⟩ s' (XL P fs k))) (fun i _=>fs.length-(intOf i).toNat)
   case atStart=>exact⟨0,_,Z,rfl,R,(Fq.rf R.o.p.i).to fun _ _ j _ _ q=>Z⟩
   case round=>
    clear R;obtain⟨k,s',hk,rfl,R,NX⟩:=hrel;have L:=HG.o.at R.o.low;have f1:=Ak L.pr 1;have lp:=Ae L.pr;obtain⟨rs,Q,_⟩:=L.st;obtain⟨h9,i2,i1,rfl⟩:=Ad Q;have c3:=Ag Q;subst c3;simp only[gH,gF,gG]at f1;have i5:=HG.o.fn;by_cases a0:k<fs.length
    .have tk:decide ((k:Int)<(fs.length:Int))=true:=jX;obtain⟨sg,rfl⟩:=Ap Q Z;have j4:=(Q.lt sg rfl).2;obtain⟨j5,j6,j7,C,b8,e6,e7⟩:=L.st.get a0;obtain⟨y1,y2,y3,rfl⟩:=Ad b8;obtain⟨y4,y5,y6,rfl⟩:=Ad e6;obtain⟨y7,y8,y9,rfl⟩:=Ad e7;obtain⟨y,hy⟩:∃y,fs[k]=y:=⟨_,rfl⟩;rw[hy]at C b8;have HY:D (fs[k]? =some y):=by rw[gL a0,hy];exact J rfl
     have HR:=J (WT HK.o HG.o R.o HY.o (.slice y1 y2 y3) (.slice y4 y5 y6) (.slice y7 y8 y9) b8 ⟨_,_,_,rfl⟩ ⟨_,_,_,rfl⟩);have m0:=C 0 T;have m1:=C 1 T;have m2:=C 2 T;have m3:=C 3 T;have m4:=C 4 T;have m5:=C 5 T;have m6:=C 6 T;have m7:=C 7 T;have m8:=C 8 T;have m9:=C 9 T;have g9:=C 10 T;have h0:=C 11 T;have h6:=C 12 T;have h7:=C 13 T;have h8:=C 14 T;simp only[Bo,gH,gF,gG,gX]at m0 m1 m2 m3 m4 m5 m6 m7 m8 m9 g9 h0 h6 h7 h8;unfold Bo at HR;clear C b8 e6 e7 hy Q L;go_wp2_with fail;refine HR.o.mono ?_;rintro e w5 ⟨rfl,s5,p5,x5,o5⟩;have L5:=J (R.o.next p5 o5);have N5:=J (Yx HY.o NX.o x5);clear p5 x5 o5 HR R NX;go_wp2_with fail;go_roundw
     case rel=>exact⟨k+1,s5,Z,by go_num,L5,N5⟩
     case measure=>simp[intOf];omega
    .have tk:decide ((k:Int)<(fs.length:Int))=false:=jX;obtain rfl:k=fs.length:=Z;have f3:D (∃n,Y n wr):=⟨_,by rw[HJ.o];exact⟨s',R,fun q=>Wt HK.o (NX.o.stop q).2.2,rfl⟩⟩;have f5:D (mf (fun n=>Y n wr)<nn):=by
      have h1:=(c8.o (fun n=>Y n wr) _ (by rw[HJ.o];exact⟨s',R,fun q=>Wt HK.o (NX.o.stop q).2.2,rfl⟩)).2;have h2:=HL.o;rw[HM.o]at h2;have h3:=NX.o.lf;have h4:XG P ⟨s.cells,s.ents,false⟩=XG P s:=rfl;refine Nat.lt_of_le_of_lt h1 ?_;rw[h2];simp only[if_true];split
      .rename_i q;rcases NX.o.go q with z|z
       .cases z
       .omega
      .omega
     have f9:=f8.o;clear R NX Q L;go_wp2_with fail;exact⟨f3.o,by rw[<-f9];exact f5.o⟩
  .have c4:s.more=false:=by simpa using hm
   rw[c4]at s4;have R1:D (∃b9 r cv ev s,Value.pointer (some ⟨p,0,none⟩)=.pointer (some ⟨b9,0,none⟩)/\KQ P B b w.heap.size b9 o r cv ev w s wr/\(least P).le (Ow P B s)/\O kD w wr):=⟨p,_,cv,ev,s,rfl,A.o,LE.o c4,CA A.o.low⟩;clear A LE HL hm c4;go_wp2_with fail;go_ret;obtain⟨b9,a1,a2,a3,a4,a5,a6,a7,a8⟩:=R1.o;exact⟨b9,a1,a2,a3,a4,congrArg Ending.returned a5,a6,a7,a8⟩
