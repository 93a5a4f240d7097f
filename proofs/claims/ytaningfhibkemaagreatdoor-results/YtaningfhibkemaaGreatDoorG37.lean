/- Part of the proof: LtA. -/
import Derived.Test.YtaningfhibkemaaGreatDoorG36
set_option maxRecDepth 100000
set_option maxHeartbeats 2000000
namespace Go.Proofs.YtaningfhibkemaaGreatDoor
open Go.RowKit Go.Proofs.Tryz
open Option renaming none->Z,some->T
open Value renaming int->G,slice->Y
open IntKind renaming i64->A
theorem Uq{P:List PFn}{mn C b:Nat}{c:List RF}{fs:List FS}(K:LsK P mn C b c fs)(hv:∀f (h:f<c.length),c[f].t8=(As P f).t8){o Bp:Nat}{U:Nat->Prop}{fv sv:Value}{w:World}(c4:XN o Bp w.heap.size U fv sv c fs C b w)(i6:b<=4001):
 Calls prog 11 #[.pointer (T ⟨o,0,Z⟩)] w fun e w'=>∃p r cv ev s,e=.returned (.pointer (T ⟨p,0,Z⟩))/\K8 P C b w.heap.size p o r cv ev w s w'/\(least P).le (OF P C s)/\O kJ w w':=by
 obtain⟨i0,e2,f2,f3,f4⟩:=info_parts Tryz.infoStr;have hp:=c4.rp;have HG:=J c4;have p0:=Ak hp.pr 0;have p1:=Ak hp.pr 1;have p2:=Ak hp.pr 2;have p3:=Ak hp.pr 3;have lp:=Ae hp.pr;simp only[gR,gP,gQ]at p0 p1 p2 p3;obtain⟨HP,HK,HV⟩:=Ax hp K hv;have d5:D (∀k,(K5 c k).length<=144):=fun k=>by
  have h1:=GX QZ 12 (c.take k) (fun f hf=>by obtain⟨i,hi,rfl⟩:=iP.1 (List.mem_of_mem_take hf);unfold QZ;rw[iT,hv i hi];exact K.hy.ok.ok.t8 i)
  have h2:=K.hy.ok.dC;have h3:=K.len;have h4:=List.length_take_le k c;have h5:=List.length_take_le' k c;unfold K5;omega
 clear hp K hv c4;obtain⟨w1,g3,r1,o1⟩:=NO w.heap.size b w (gS _) (by omega);have l1:o<w1.heap.size:=iI lp o1.size;obtain⟨AL,B1,d7,d6⟩:=Ba (o1.alloc (.cells #[.pointer (T ⟨o,0,Z⟩),Y Z 0 0,Y Z 0 0,Y (T ⟨w.heap.size,0,Z⟩) b b,.bool false] 88)) (W.new w1 #[.pointer (T ⟨o,0,Z⟩),Y Z 0 0,Y Z 0 0,Y (T ⟨w.heap.size,0,Z⟩) b b,.bool false] 88) r1 o1;clear r1 o1;go_enter func11,ntmps11;go_upto_block 0 with fail;change Code.wp _ _ _ _ (w1.alloc (.cells #[.pointer (T ⟨o,0,Z⟩),Y Z 0 0,Y Z 0 0,Y (T ⟨w.heap.size,0,Z⟩) b b,.bool false] 88));have A2:=J ((O.refl kJ w1).alloc (.cells #[.pointer (T ⟨o,0,Z⟩),Y Z 0 0,Y Z 0 0,Y (T ⟨w.heap.size,0,Z⟩) b b,.bool false] 88));have d8:=J d6.o.size;generalize w1.alloc (.cells #[.pointer (T ⟨o,0,Z⟩),Y Z 0 0,Y Z 0 0,Y (T ⟨w.heap.size,0,Z⟩) b b,.bool false] 88)=g at AL B1 A2⊢;generalize w1.heap.size=p at B1 d8⊢;have T0:D (OY p o b (Y Z 0 0) (Y (T ⟨w.heap.size,0,Z⟩) b b) [] w g):=⟨B1.o,iB _ _ _ _,Ac d7.o A2.o (fun _ _ q=>q),d8.o,AL.o⟩;clear B1 AL A2 d7 d6 g3 l1;go_cut[] (fun wx=>∃r:Value,D (OY p o b r (Y (T ⟨w.heap.size,0,Z⟩) b b) (K5 c c.length) w wx))
 case first=>
  clear p0 p1 p2 p3 lp;go_wp2_with fail;go_loopw[4] (fun i N=>∃(k:Nat) (r:Value),k<=c.length/\i=G A k/\D (OY p o b r (Y (T ⟨w.heap.size,0,Z⟩) b b) (K5 c k) w N)) (fun i _=>c.length-(intOf i).toNat)
  case atStart=>exact⟨0,_,by omega,rfl,T0⟩
  case round=>
   clear T0;obtain⟨k,r,hk,rfl,T0⟩:=hrel;have M:=HG.o.at (T0.o.o.below (fun _ q=>q.elim));have f0:=Ak M.pr 0;have lp:=Ae M.pr;have j3:=HG.o.rn;obtain⟨rs,R,_⟩:=M.fn;obtain⟨ga,gl,gc,rfl⟩:=Ad R;have c5:=Ag R;subst c5;simp only[gR,gP]at f0;by_cases a9:k<c.length
   .have tk:decide ((k:Int)<(c.length:Int))=true:=by simp;omega
    obtain⟨fg,rfl⟩:=Ap R (by omega);have HF:=J (Qi c k a9);have g7:c[k].t8.length<=12:=by rw[HV.o k a9];exact HK.o.hy.ok.ok.t8 k
    have g6:=HG.o.nz _ (iA a9);have e7:∀v,v∈c[k].t8->v.size<=4000:=by rw[HV.o k a9];intro v hv;obtain⟨j,hj,rfl⟩:=iP.1 hv;have:=HK.o.hy.nm.t8 k j;unfold Ii at this;rw[gV hj]at this;exact this
    have d9:=J e7;have CX:D (∀g,O kJ w g->∃v1 v3,g.cell? ⟨o,0,Z⟩=T (Y (T ⟨fg,0,Z⟩) c.length gc)/\g.cell? ⟨fg,k*7,Z⟩=T (.string c[k].name.d9)/\g.cell? ⟨fg,k*7+6,Z⟩=T (Y v1 c[k].t8.length v3)/\Au Bp g (Y v1 c[k].t8.length v3) c[k].t8/\o<g.heap.size/\fg<g.heap.size):=fun g hW=>by have M:=HG.o.at (hW.below (fun _ q=>q.elim));obtain⟨rs,R,_⟩:=M.fn;obtain⟨tv,bv,vv,E,j4,i5,c8⟩:=M.fn.get a9;obtain⟨v1,v2,v3,rfl⟩:=Ad c8;have:=Ag c8;subst this;exact⟨v1,v3,Ak M.pr 0,E 0 (by decide),E 6 (by decide),c8,Ae M.pr,(R.lt fg rfl).2⟩
    generalize c[k]=F at HF g7 g6 d9 CX;clear R M e7;obtain⟨v1,v3,d0,d1,d2,d3,e0,e1⟩:=CX.o w (O.refl _ _);have HC:D (∀g,O kJ w g->g.cell? ⟨o,0,Z⟩=T (Y (T ⟨fg,0,Z⟩) c.length gc)/\g.cell? ⟨fg,k*7,Z⟩=T (.string F.name.d9)/\g.cell? ⟨fg,k*7+6,Z⟩=T (Y v1 F.t8.length v3)/\o<g.heap.size/\fg<g.heap.size):=fun g hW=>⟨(gT (hW.block o e0 id)).trans d0,(gT (hW.block fg e1 id)).trans d1,(gT (hW.block fg e1 id)).trans d2,iI e0 hW.size,iI e1 hW.size⟩
    have D3:=J d3;clear d0 d1 d2 d3 e0 e1 CX;have t:D (OY p o b r (Y (T ⟨w.heap.size,0,Z⟩) b b) (K5 c k++(QZ F).take 0) w wr):=by rw[List.take_zero,iZ];exact T0
    have f6:=J (show k+1<=c.length from a9);clear T0;go_upto_block 2 with fail;go_wp2_with fail;go_loopw[5] (fun i N=>∃(j:Nat) (r:Value),j<=F.t8.length/\i=G A j/\D (OY p o b r (Y (T ⟨w.heap.size,0,Z⟩) b b) (K5 c k++(QZ F).take j) w N)) (fun i _=>F.t8.length-(intOf i).toNat)
    case atStart=>exact⟨0,_,by omega,rfl,t⟩
    case round=>
     clear t;obtain⟨j,r,hj,rfl,t⟩:=hrel;obtain⟨c0,c1,c2,l0,l1⟩:=HC.o wr t.o.o;have j5:(QZ F).length=F.t8.length:=by unfold QZ;rw[iT]
     by_cases e3:j<F.t8.length
     .have tj:decide ((j:Int)<(F.t8.length:Int))=true:=by simp;omega
      obtain⟨vg,rfl⟩:=Ap D3.o (by omega);have HX:D (∀g,O kJ w g->g.cell? ⟨vg,j,Z⟩=T (.string F.t8[j])):=fun g hW=>(gT (hW.block vg (D3.o.lt vg rfl).2 id)).trans (Hk D3.o j e3)
      have hx:(QZ F).take (j+1)=(QZ F).take j++[F.name.d9++⟨#[46]⟩++F.t8[j]]:=by rw[iX (by omega)];unfold QZ;rw[jE]
      have HT:=J hx;have g8:=d9.o _ (iA e3);have g5:(K5 c k++(QZ F).take j).length<=20000:=by have:=d5.o k;rw[gW,List.length_take];omega
      generalize F.t8[j]=X at HX HT g8;clear hx;have i8:(j:Int)<(F.t8.length:Int):=by omega
      have j0:(k:Int)<(c.length:Int):=by omega
      have z1:¬(9223372036854775807<F.name.d9.size+1):=by omega
      have z2:¬(9223372036854775807<F.name.d9.size+1+X.size):=by omega
      go_upto_block 3 with fail;go_cut[] (fun wx=>∃b0:Value,D (OY p o b b0 (Y (T ⟨w.heap.size,0,Z⟩) b b) (K5 c k++(QZ F).take (j+1)) w wx))
      case first=>
       go_upto_region 8 with fail;have u:=fun g (z:O kJ w g)=>And.intro (HX.o g z) (HC.o g z)
       refine wp_region_held_drew (S:=fun w'=>O kJ w w') (by kernel_rfl) t.o.o.drew (fun d=>?_);refine Fx 0 39 (v:=?_) rfl u d ?_ (by intro w z;go_split_ands;go_simp;try with_reducible rfl) rfl rfl (by kernel_rfl) (fun _ _ _ h=>h);simp only[kF,kG,kH];refine Fx 1 40 (v:=?_) rfl u d ?_ (by intro w z;go_split_ands;go_simp;try with_reducible rfl) rfl rfl (by kernel_rfl) (fun _ _ _ h=>h);simp only[kF,kG,kH];refine Fx 2 41 (v:=?_) rfl u d ?_ (by intro w z;go_split_ands;go_simp;try with_reducible rfl) rfl rfl (by kernel_rfl) (fun _ _ _ h=>h);simp only[kF,kG,kH];refine Fx 3 42 (v:=?_) rfl u d ?_ (by intro w z;go_split_ands;go_simp;try with_reducible rfl) rfl rfl (by kernel_rfl) (fun _ _ _ h=>h);simp only[kF,kG,kH];refine Fx 5 44 (v:=?_) rfl u d ?_ (by intro w z;go_split_ands;go_simp;try with_reducible rfl) rfl rfl (by kernel_rfl) (fun _ _ _ h=>h);simp only[kF,kG,kH];refine Fx 6 45 (v:=?_) rfl u d ?_ (by intro w z;go_split_ands;go_simp;try with_reducible rfl) rfl rfl (by kernel_rfl) (fun _ _ _ h=>h);simp only[kF,kG,kH];refine Fx 7 46 (v:=?_) rfl u d ?_ (by intro w z;go_split_ands;go_simp;try with_reducible rfl) rfl rfl (by kernel_rfl) (fun _ _ _ h=>h);simp only[kF,kG,kH];refine Fx 8 47 (v:=?_) rfl u d ?_ (by intro w z;go_split_ands;go_simp;try with_reducible rfl) rfl rfl (by kernel_rfl) (fun _ _ _ h=>h);simp only[kF,kG,kH];refine Fx 9 48 (v:=?_) rfl u d ?_ (by intro w z;go_split_ands;go_simp;try with_reducible rfl) rfl rfl (by kernel_rfl) (fun _ _ _ h=>h);simp only[kF,kG,kH];refine Fx 10 49 (v:=?_) rfl u d ?_ (by intro w z;go_split_ands;go_simp;try with_reducible rfl) rfl rfl (by kernel_rfl) (fun _ _ _ h=>h);simp only[kF,kG,kH];refine Fx 11 50 (v:=?_) rfl u d ?_ (by intro w z;go_split_ands;go_simp;try with_reducible rfl) rfl rfl (by kernel_rfl) (fun _ _ _ h=>h);simp only[kF,kG,kH];refine Fx 12 51 (v:=?_) rfl u d ?_ (by intro w z;go_split_ands;go_simp;try with_reducible rfl) rfl rfl (by kernel_rfl) (fun _ _ _ h=>h);simp only[kF,kG,kH];refine Fx 13 52 (v:=?_) rfl u d ?_ (by intro w z;go_split_ands;go_simp;try with_reducible rfl) rfl rfl (by kernel_rfl) (fun _ _ _ h=>h);simp only[kF,kG,kH];refine Fx 14 53 (v:=?_) rfl u d ?_ (by intro w z;go_split_ands;go_simp;try with_reducible rfl) rfl rfl (by kernel_rfl) (fun _ _ _ h=>h);simp only[kF,kG,kH];refine Fx 15 54 (v:=?_) rfl u d ?_ (by intro w z;go_split_ands;go_simp;try with_reducible rfl) rfl rfl (by kernel_rfl) (fun _ _ _ h=>h);simp only[kF,kG,kH];refine Fx 16 55 (v:=?_) rfl u d ?_ (by intro w z;go_split_ands;go_simp;try with_reducible rfl) rfl rfl (by kernel_rfl) (fun _ _ _ h=>h);simp only[kF,kG,kH];refine Fx 17 56 (v:=?_) rfl u d ?_ (by intro w z;go_split_ands;go_simp;try with_reducible rfl) rfl rfl (by kernel_rfl) (fun _ _ _ h=>h);simp only[kF,kG,kH];refine Fx 18 57 (v:=?_) rfl u d ?_ (by intro w z;go_split_ands;go_simp;try with_reducible rfl) rfl rfl (by kernel_rfl) (fun _ _ _ h=>h);simp only[kF,kG,kH];refine Fx 19 58 (v:=?_) rfl u d ?_ (by intro w z;go_split_ands;go_simp;try with_reducible rfl) rfl rfl (by kernel_rfl) (fun _ _ _ h=>h);simp only[kF,kG,kH];refine Fx 20 59 (v:=?_) rfl u d ?_ (by intro w z;go_split_ands;go_simp;try with_reducible rfl) rfl rfl (by kernel_rfl) (fun _ _ _ h=>h);simp only[kF,kG,kH];refine Fx 21 60 (v:=?_) rfl u d ?_ (by intro w z;go_split_ands;go_simp;try with_reducible rfl) rfl rfl (by kernel_rfl) (fun _ _ _ h=>h);simp only[kF,kG,kH];refine Fx 22 61 (v:=?_) rfl u d ?_ (by intro w z;go_split_ands;go_simp;try with_reducible rfl) rfl rfl (by kernel_rfl) (fun _ _ _ h=>h);simp only[kF,kG,kH];refine Fx 23 62 (v:=?_) rfl u d ?_ (by intro w z;go_split_ands;go_simp;try with_reducible rfl) rfl rfl (by kernel_rfl) (fun _ _ _ h=>h);simp only[kF,kG,kH];refine Fx 24 63 (v:=?_) rfl u d ?_ (by intro w z;go_split_ands;go_simp;try with_reducible rfl) rfl rfl (by kernel_rfl) (fun _ _ _ h=>h);simp only[kF,kG,kH];refine Fx 25 64 (v:=?_) rfl u d ?_ (by intro w z;go_split_ands;go_simp;try with_reducible rfl) rfl rfl (by kernel_rfl) (fun _ _ _ h=>h);simp only[kF,kG,kH];refine Fx 26 65 (v:=?_) rfl u d ?_ (by intro w z;go_split_ands;go_simp;try with_reducible rfl) rfl rfl (by kernel_rfl) (fun _ _ _ h=>h);simp only[kF,kG,kH];have s1:=t.o.bx.cell 1;have ls:=Ae t.o.bx;simp only[gR,gP,gQ]at s1;refine wpAnyH_ready (rs:=[4,27]) (by kernel_rfl) (by simp) (AllReadyH.cons rfl (fun K L=>?_) (AllReadyH.cons rfl (fun K L=>?_) AllReadyH.nil));focus
        go_simp;refine L.out _ _ d (fun d=>?_);clear L K;refine wpAnyH_ready (rs:=[27]) (by kernel_rfl) (by simp) (AllReadyH.cons rfl (fun K L=>?_) AllReadyH.nil);go_simp;refine L.out _ _ (d.alloc _) (fun d=>?_);clear L K
       rotate_left;focus
        go_simp;refine L.out _ _ (d.alloc _) (fun d=>?_);clear L K;refine wpAnyH_ready (rs:=[4]) (by kernel_rfl) (by simp) (AllReadyH.cons rfl (fun K L=>?_) AllReadyH.nil);go_simp;refine L.out _ _ d (fun d=>?_);clear L K
       all_goals
        refine wpAnyH_ready (rs:=[28]) (by kernel_rfl) (by simp) (AllReadyH.cons rfl (fun K L=>?_) AllReadyH.nil);refine AC rfl _ _ 51 rfl w.heap.size 9 i0 (.string ByteArray.empty) 1 16 underlying51 e2 f2 f3 f4 rfl (by decide) _ _ _ rfl (World.ownsRow.alloc t.o.nr _) _ 1 1 [.string (F.name.d9++⟨#[46]⟩++X)] rfl rfl (AD rfl _ _) (fun x hx=>by simp at hx;subst hx;rfl) (by decide) (by unfold maxLen;omega) (by omega) (by have:=t.o.o.size;simp;omega) ?_;intro v5 w5 b1 b7 _;obtain⟨v6,v7,v8,rfl⟩:=Ad b1;obtain⟨t5,b5,o5⟩:=t.o.push (nm:=K5 c k++(QZ F).take j) (x:=F.name.d9++⟨#[46]⟩++X) ((O.refl _ _).alloc _).drew b7 b1;have T5:=J t5;have q1:=b5.cell 1;have q2:=b5.frozen 1;have q3:=Ae b5;simp only[gR,gP,gQ]at q1;refine L.out _ _ o5 (fun d=>?_);clear L K t5 b5;refine Fx 29 68 (v:=?_) rfl u d ?_ (by intro w z;go_split_ands;go_simp;try with_reducible rfl) rfl rfl (by kernel_rfl) (fun _ _ _ h=>h);simp only[kF,kG,kH];refine Fx 30 69 (v:=?_) rfl u d ?_ (by intro w z;go_split_ands;go_simp;try with_reducible rfl) rfl rfl (by kernel_rfl) (fun _ _ _ h=>h);simp only[kF,kG,kH];refine wpAnyH_ready (rs:=[31]) (by kernel_rfl) (by simp) (AllReadyH.cons rfl (fun K L=>?_) AllReadyH.nil);go_simp;refine L.out _ _ T5.o.o (fun d=>?_);clear L K;refine wpAnyH_done (by kernel_rfl) ?_ _;go_wp2_with fail;go_meet
        case rel=>exact⟨_,by rw[HT.o,<-jU];exact T5⟩
      case rest=>
      obtain⟨b0,I⟩:=hcut;clear t;go_wp2_with fail;go_roundw
      case rel=>exact⟨j+1,b0,by omega,by go_num,I⟩
      case measure=>simp[intOf];omega
     .have tj:decide ((j:Int)<(F.t8.length:Int))=false:=by simp;omega
      obtain rfl:j=F.t8.length:=by omega
      have T3:D (OY p o b r (Y (T ⟨w.heap.size,0,Z⟩) b b) (K5 c (k+1)) w wr):=by rw[HF.o,<-List.take_of_length_le (l:=QZ F) (i:=F.t8.length) (by omega)];exact t
      clear t;go_wp2_with fail;go_roundw
      case rel=>exact⟨k+1,r,f6.o,by go_num,T3⟩
      case measure=>simp[intOf];omega
   .have tk:decide ((k:Int)<(c.length:Int))=false:=by simp;omega
    obtain rfl:k=c.length:=by omega
    clear R M;go_wp2_with fail;go_meet
    case rel=>exact⟨r,T0⟩
 case rest=>
 obtain⟨r,t⟩:=hcut;clear T0;go_upto_block 4 with fail;go_cut[] (fun wx=>∃r:Value,D (OY p o b r (Y (T ⟨w.heap.size,0,Z⟩) b b) (K5 c c.length++Q4 C) w wx))
 case first=>
  have g2:D (∀g,O kJ w g->g.cell? ⟨o,2,Z⟩=T (G A C)/\o<g.heap.size):=fun g hW=>⟨(gT (hW.block o lp id)).trans p2,iI lp hW.size⟩
  have T3:D (OY p o b r (Y (T ⟨w.heap.size,0,Z⟩) b b) (K5 c c.length++Q4 0) w wc):=by have e:K5 c c.length++Q4 0=K5 c c.length:=iZ _;rw[e];exact t
  have j2:=HK.o.hy.pn;have f9:D (∀n,(Q4 n).length<=4*n):=fun n=>by have h2:=GX (fun i=>Qn (i+1)) 4 (List.range n) (fun i _=>by unfold Qn;rw[iT,List.length_range];exact gS _);rw[List.length_range]at h2;unfold Q4;omega
  clear p0 p1 p2 p3 lp t;go_wp2_with fail;go_loopw[6] (fun i N=>∃(n:Nat) (r:Value),n<=C/\i=G A ((n:Int)+1)/\D (OY p o b r (Y (T ⟨w.heap.size,0,Z⟩) b b) (K5 c c.length++Q4 n) w N)) (fun i _=>C+1-(intOf i).toNat)
  case atStart=>exact⟨0,_,by omega,rfl,T3⟩
  case round=>
   clear T3;obtain⟨n,r,hn,rfl,T3⟩:=hrel;obtain⟨c2,l2⟩:=g2.o wr T3.o.o;have f8:=J (WA n);by_cases a9:n<C
   .have tk:decide ((n:Int)+1<=(C:Int))=true:=by simp;omega
    have t:D (OY p o b r (Y (T ⟨w.heap.size,0,Z⟩) b b) (K5 c c.length++Q4 n++(Qn (n+1)).take 0) w wr):=by rw[List.take_zero,iZ];exact T3
    clear T3;go_upto_block 6 with fail;go_wp2_with fail;go_loopw[7] (fun i N=>∃(k:Nat) (r:Value),k<=4/\i=G A k/\D (OY p o b r (Y (T ⟨w.heap.size,0,Z⟩) b b) (K5 c c.length++Q4 n++(Qn (n+1)).take k) w N)) (fun i _=>4-(intOf i).toNat)
    case atStart=>exact⟨0,_,by omega,rfl,t⟩
    case round=>
     clear t;obtain⟨k,r,hk,rfl,t⟩:=hrel;have j1:(Qn (n+1)).length=4:=by unfold Qn;rw[iT,List.length_range]
     by_cases i9:k<4
     .have tj:decide ((k:Int)<4)=true:=by simp;omega
      have hx:(Qn (n+1)).take (k+1)=(Qn (n+1)).take k++[Le (n+1)++⟨#[46]⟩++Le k]:=by rw[iX (by omega)];unfold Qn;rw[jE,List.getElem_range]
      obtain⟨Q,b3⟩:∃Q:Int->ByteArray,Q=fun z=>Le z.toNat:=⟨_,rfl⟩
      have HD:D (∀(z:Int) (g:World),0<=z->z<=5000->Calls prog 23 #[G A z] g fun e w'=>e=.returned (.string (Q z))/\O kJ g w'):=fun z g h1 h2=>by obtain⟨a,rfl⟩:∃a:Nat,z=a:=⟨z.toNat,by omega⟩;rw[b3];exact(Hb a (by omega) g).mono fun _ _ ⟨q1,m,q2⟩=>⟨q1,by rw[q2];exact(O.refl _ _).drewN m⟩
      have k0:(Q ((n:Int)+1)).size<=5:=by rw[b3];exact Fh (n+1) (by omega)
      have k1:(Q (k:Int)).size<=5:=by rw[b3];exact Fh k (by omega)
      have HT:D ((Qn (n+1)).take (k+1)=(Qn (n+1)).take k++[Q ((n:Int)+1)++⟨#[46]⟩++Q (k:Int)]):=by rw[b3];exact hx
      clear b3;have g5:(K5 c c.length++Q4 n++(Qn (n+1)).take k).length<=20000:=by have:=d5.o c.length;have:=f9.o n;rw[gW,gW,List.length_take];omega
      have z1:¬(9223372036854775807<(Q ((n:Int)+1)).size+1):=by omega
      have z2:¬(9223372036854775807<(Q ((n:Int)+1)).size+1+(Q (k:Int)).size):=by omega
      have s1:=t.o.bx.cell 1;have ls:=Ae t.o.bx;simp only[gR,gP,gQ]at s1;clear hx;go_upto_block 7 with fail;go_cut[] (fun wx=>∃b0:Value,D (OY p o b b0 (Y (T ⟨w.heap.size,0,Z⟩) b b) (K5 c c.length++Q4 n++(Qn (n+1)).take (k+1)) w wx))
      case first=>
       go_upto_region 15 with fail;go_region_law(first
        |(go_simp;go_at_call 23;refine(HD.o _ _ (by omega) (by omega)).mono ?_;rintro e w3 ⟨rfl,o3⟩;have O3:=J (O.trans (X:=kJ) (a:=wr) (by repeat(first|exact O.refl _ _|exact O3.o|refine O.drew ?_|refine O.alloc ?_ _)) o3);have s3:=(gT (O3.o.block p ls id)).trans s1;have l3:=iI ls O3.o.size;clear o3;dsimp only)
        |(refine AC rfl _ _ 51 rfl w.heap.size 9 i0 (.string ByteArray.empty) 1 16 underlying51 e2 f2 f3 f4 rfl (by decide) _ _ _ rfl (World.ownsRow.alloc (Ac t.o.nr O3.o (fun _ _ q=>q)) _) _ 1 1 [.string (Q ((n:Int)+1)++⟨#[46]⟩++Q (k:Int))] rfl rfl (AD rfl _ _) (fun x hx=>by simp at hx;subst hx;rfl) (by decide) (by unfold maxLen;omega) (by omega) (by have:=t.o.o.size;have:=O3.o.size;simp;omega) ?_;intro v5 w5 b1 b7 _;obtain⟨v6,v7,v8,rfl⟩:=Ad b1;obtain⟨t5,b5,o5⟩:=t.o.push (x:=Q ((n:Int)+1)++⟨#[46]⟩++Q (k:Int)) (by repeat(first|exact O.refl _ _|exact O3.o|refine O.drew ?_|refine O.alloc ?_ _)) b7 b1;have T5:=J t5;have q1:=b5.cell 1;have q2:=b5.frozen 1;have q3:=Ae b5;simp only[gR,gP,gQ]at q1;clear t5 b5 b1 b7))
       all_goals
        go_wp2_with fail;go_meet
        case rel=>exact⟨_,by rw[HT.o,<-jU];exact T5⟩
      case rest=>
      obtain⟨b0,I⟩:=hcut;clear t s1 ls;go_wp2_with fail;go_roundw
      case rel=>exact⟨k+1,b0,by omega,by go_num,I⟩
      case measure=>simp[intOf];omega
     .have tj:decide ((k:Int)<4)=false:=by simp;omega
      obtain rfl:k=4:=by omega
      have T3:D (OY p o b r (Y (T ⟨w.heap.size,0,Z⟩) b b) (K5 c c.length++Q4 (n+1)) w wr):=by rw[f8.o,<-jU,<-List.take_of_length_le (l:=Qn (n+1)) (i:=4) (by omega)];exact t
      clear t;go_wp2_with fail;go_roundw
      case rel=>exact⟨n+1,r,by omega,by go_num,T3⟩
      case measure=>simp[intOf];omega
   .have tk:decide ((n:Int)+1<=(C:Int))=false:=by simp;omega
    obtain rfl:n=C:=by omega
    go_wp2_with fail;go_meet
    case rel=>exact⟨r,T3⟩
 case rest=>
 obtain⟨r,I⟩:=hcut;clear t;rw[<-aY HK.o HV.o]at I;obtain⟨n1,n2,n3,rfl⟩:=Ad I.o.nr;have b8:=Ag I.o.nr;subst b8;have b6:=YG (pn:=C) HK.o.hy;obtain⟨H,b4⟩:∃n,(Iv P C).length=n:=⟨_,rfl⟩;rw[b4]at I b6;obtain⟨w2,g4,r2,o2⟩:=NO w.heap.size H wc I.o.o.size b6;have LB:=J (Ww I.o b4 b6 r2 o2);have s1:=I.o.bx.cell 1;have g9:=Ae I.o.bx;have b2:=I.o.bx.d8 o2 id;have s2:=b2.cell 2;have z2:=b2.frozen 2;have h0:=Ae b2;have s4:=LB.o.bx.cell 4;have z4:=LB.o.bx.frozen 4;have l4:=Ae LB.o.bx;simp only[gR,gP,gQ]at s1 s2 s4;have O9:=J (((I.o.o.trans o2).cO 2 (Y (T ⟨wc.heap.size,0,Z⟩) H H) I.o.sb).cO 4 (.bool true) I.o.sb);have F9:=J (LB.o.flagB true).1;clear r2 o2 b2 LB I;go_upto_block 8 with fail;change Code.wp _ _ _ _ ((w2.setCell ⟨p,2,Z⟩ (Y (T ⟨wc.heap.size,0,Z⟩) H H)).setCell ⟨p,4,Z⟩ (.bool true));have B:D (K8 P C b w.heap.size p o (Y n1 H n3) (Y (T ⟨wc.heap.size,0,Z⟩) H H) (Y (T ⟨w.heap.size,0,Z⟩) b b) w ⟨List.replicate H [],List.replicate b [],true⟩ ((w2.setCell ⟨p,2,Z⟩ (Y (T ⟨wc.heap.size,0,Z⟩) H H)).setCell ⟨p,4,Z⟩ (.bool true))):=by have li:=Wt P C b true;rw[b4]at li;exact⟨⟨F9.o,li,O9.o.size⟩,O9.o.below (fun _ q=>q.elim)⟩
 clear F9 g4 s1 s2 s4 z2 z4 l4 g9 h0 b4 b6 p0 p1 p2 p3 lp;generalize ((w2.setCell ⟨p,2,Z⟩ (Y (T ⟨wc.heap.size,0,Z⟩) H H)).setCell ⟨p,4,Z⟩ (.bool true))=W9 at B O9⊢;generalize Value.slice (T ⟨wc.heap.size,0,Z⟩) H H=cv at B⊢;generalize Value.slice (T ⟨w.heap.size,0,Z⟩) b b=ev at B⊢;obtain⟨mf,e4⟩:=Ou;obtain⟨a0,hJ⟩:∃a0:Nat->World->Prop,a0=fun n N=>∃s:Ls,D (K8 P C b w.heap.size p o (Y n1 H n3) cv ev w s N)/\D (s.more=false->(least P).le (OF P C s))/\D (n=XS P s+if s.more then 1 else 0):=⟨_,rfl⟩
 have c9:D (∃n,a0 n W9):=⟨_,by rw[hJ];exact⟨_,B,(fun q=>by cases q),rfl⟩⟩;have HJ:=J hJ;have d4:=J e4;clear hJ e4 B O9;go_wp2_with fail;go_loopw[] (fun N=>∃n,a0 n N) (fun N=>mf (fun n=>a0 n N))
 case atStart=>exact c9.o
 case round=>
  clear c9;obtain⟨n0,e5⟩:=hrel;have e6:=(d4.o (fun n=>a0 n wr) n0 e5).1;obtain⟨nn,c7⟩:∃nn,nn=mf (fun n=>a0 n wr):=⟨_,rfl⟩;have b8:a0 nn wr:=by rw[c7];exact e6
  rw[HJ.o]at b8;obtain⟨s,B,LE,HL⟩:=b8;have g0:=J c7;clear e5 e6 c7 n0;have s4:=B.o.p.m.bx.cell 4;have z4:=B.o.p.m.bx.frozen 4;have l4:=Ae B.o.p.m.bx;simp only[gR,gP,gQ]at s4;by_cases hm:s.more=true
  .rw[hm]at s4;have FB:=J (B.o.p.m.flagB false);have V:D (K8 P C b w.heap.size p o (Y n1 H n3) cv ev w ⟨s.cells,s.ents,false⟩ (wr.setCell ⟨p,4,Z⟩ (.bool false))):=⟨⟨FB.o.1,⟨B.o.p.i.cl,B.o.p.i.cs,B.o.p.i.ci,B.o.p.i.el,B.o.p.i.es,B.o.p.i.ei⟩,iG B.o.p.b FB.o.2.size⟩,B.o.low.trans (FB.o.2.dI B.o.p.b (fun k q=>by rw[q];exact B.o.p.m.sb))⟩;have HM:=J hm;clear FB hm;go_upto_block 10 with fail;change Code.wp _ _ _ _ (wr.setCell ⟨p,4,Z⟩ (.bool false));clear s4 z4 l4 B;generalize wr.setCell ⟨p,4,Z⟩ (.bool false)=W3 at V⊢;go_wp2_with fail;go_loopw[8] (fun i N=>∃(k:Nat) (s':Ls),k<=fs.length/\i=G A k/\D (K8 P C b w.heap.size p o (Y n1 H n3) cv ev w s' N)/\D (FC P C b ⟨s.cells,s.ents,false⟩ s' (XX P fs k))) (fun i _=>fs.length-(intOf i).toNat)
   case atStart=>exact⟨0,_,by omega,rfl,V,(FC.rf V.o.p.i).to fun _ _ j _ _ q=>by omega⟩
   case round=>
    clear V;obtain⟨k,s',hk,rfl,V,NX⟩:=hrel;have M:=HG.o.at V.o.low;have f1:=Ak M.pr 1;have lp:=Ae M.pr;obtain⟨rs,R,_⟩:=M.st;obtain⟨i2,i4,i3,rfl⟩:=Ad R;have c5:=Ag R;subst c5;simp only[gR,gP,gQ]at f1;have i7:=HG.o.fn;by_cases a9:k<fs.length
    .have tk:decide ((k:Int)<(fs.length:Int))=true:=by simp;omega
     obtain⟨sg,rfl⟩:=Ap R (by omega);have j6:=(R.lt sg rfl).2;obtain⟨j7,j8,j9,E,b9,e8,e9⟩:=M.st.get a9;obtain⟨y1,y2,y3,rfl⟩:=Ad b9;obtain⟨y4,y5,y6,rfl⟩:=Ad e8;obtain⟨y7,y8,y9,rfl⟩:=Ad e9;obtain⟨y,hy⟩:∃y,fs[k]=y:=⟨_,rfl⟩;rw[hy]at E b9;have HY:D (fs[k]? =T y):=by rw[gV a9,hy];exact J rfl
     have HR:=J (Xc HK.o HG.o V.o HY.o (Y y1 y2 y3) (Y y4 y5 y6) (Y y7 y8 y9) b9 ⟨_,_,_,rfl⟩ ⟨_,_,_,rfl⟩);have m0:=E 0 (by decide);have m1:=E 1 (by decide);have m2:=E 2 (by decide);have m3:=E 3 (by decide);have m4:=E 4 (by decide);have m5:=E 5 (by decide);have m6:=E 6 (by decide);have m7:=E 7 (by decide);have m8:=E 8 (by decide);have m9:=E 9 (by decide);have h6:=E 10 (by decide);have h7:=E 11 (by decide);have h8:=E 12 (by decide);have h9:=E 13 (by decide);have i1:=E 14 (by decide);simp only[Br,gR,gP,gQ,iH]at m0 m1 m2 m3 m4 m5 m6 m7 m8 m9 h6 h7 h8 h9 i1;unfold Br at HR;clear E b9 e8 e9 hy R M;go_wp2_with fail;refine HR.o.mono ?_;rintro e w5 ⟨rfl,s5,p5,x5,o5⟩;have L5:=J (V.o.next p5 o5);have N5:=J (YI HY.o NX.o x5);clear p5 x5 o5 HR V NX;go_wp2_with fail;go_roundw
     case rel=>exact⟨k+1,s5,by omega,by go_num,L5,N5⟩
     case measure=>simp[intOf];omega
    .have tk:decide ((k:Int)<(fs.length:Int))=false:=by simp;omega
     obtain rfl:k=fs.length:=by omega
     have f5:D (∃n,a0 n wr):=⟨_,by rw[HJ.o];exact⟨s',V,fun q=>WE HK.o (NX.o.stop q).2.2,rfl⟩⟩;have f7:D (mf (fun n=>a0 n wr)<nn):=by
      have h1:=(d4.o (fun n=>a0 n wr) _ (by rw[HJ.o];exact⟨s',V,fun q=>WE HK.o (NX.o.stop q).2.2,rfl⟩)).2;have h2:=HL.o;rw[HM.o]at h2;have h3:=NX.o.lf;have h4:XS P ⟨s.cells,s.ents,false⟩=XS P s:=rfl;refine Nat.lt_of_le_of_lt h1 ?_;rw[h2];simp only[if_true];split
      .rename_i q;rcases NX.o.go q with z|z
       .cases z
       .omega
      .omega
     have g1:=g0.o;clear V NX R M;go_wp2_with fail;exact⟨f5.o,by rw[<-g1];exact f7.o⟩
  .have c6:s.more=false:=by simpa using hm
   rw[c6]at s4;have R1:D (∃c3 r cv ev s,Value.pointer (T ⟨p,0,Z⟩)=.pointer (T ⟨c3,0,Z⟩)/\K8 P C b w.heap.size c3 o r cv ev w s wr/\(least P).le (OF P C s)/\O kJ w wr):=⟨p,_,cv,ev,s,rfl,B.o,LE.o c6,CI B.o.low⟩;clear B LE HL hm c6;go_wp2_with fail;go_ret;obtain⟨c3,a1,a2,a3,a4,a5,a6,a7,a8⟩:=R1.o;exact⟨c3,a1,a2,a3,a4,congrArg Ending.returned a5,a6,a7,a8⟩
