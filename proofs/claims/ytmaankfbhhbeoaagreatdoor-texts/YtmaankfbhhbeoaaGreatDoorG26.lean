/- One of the texts of the proof of texts_card_holds: ChH PrK PaF JoA ChI. -/
import Derived.Test.YtmaankfbhhbeoaaGreatDoorG25
import Derived.Test.YtmaankfbhhbeoaaGreatDoorShelf
import Derived.OwnWalk
set_option maxRecDepth 100000
set_option maxHeartbeats 8000000
namespace Go.Proofs.YtmaankfbhhbeoaaGreatDoor
open Go.RowKit
def Dc(s:ByteArray)(l:List Tk):List Tk:=l++[⟨ByteArray.empty,s.size,0⟩]
def Fv(s:ByteArray)(l:List Tk):List RF×St×List FS:=BU (Dc s l) (2*(l.length+1)) (l.length+1) ⟨0,none,0,0⟩ [] []
def Kf(s:ByteArray)(l:List Tk)(d:Nat)(a:List TF):List RF×CS:=DD (Fv s l).1 d a 0 ((Fv s l).1,⟨0,0⟩)
def K8(s:ByteArray)(l:List Tk)(d:Nat)(a:List TF):CS:=Jf (Fv s l).1 s.size (Kf s l d a).2
def Fn(w:World)(s:ByteArray)(l:List Tk)(h:List RF)(i:List FS)(x:St)(C:CS)(e:Ending)(a:World):Prop:=
 if C.p9=0 then
  ∃(b B g c:Nat) (U:Nat→Prop) (d f:Value),e=.returned (.tuple #[.pointer (some ⟨b,0,none⟩),.slice (some ⟨g,0,none⟩) (l.length+1) c,.int .i64 0,.int .i64 0])∧AA g (l.length+1) c (Dc s l) a∧w.heap.size≤g∧Bj b d f x.pl x.ca a∧w.heap.size≤b∧Bt B a d h∧w.heap.size≤B∧A2 B U a f i∧Below w.heap.size w a
 else e=.returned (.tuple #[.pointer none,.slice none 0 0,.int .i64 C.p9,.int .i64 C.f8])∧Below w.heap.size w a
def Gq(w:World)(s:ByteArray)(d:Nat)(c:List TF)(e:Ending)(a:World):Prop:=
 match AZ s s.size 0 [] with
 | .inl p=>e=.returned (.tuple #[.pointer none,.slice none 0 0,.int .i64 2,.int .i64 p])∧Below w.heap.size w a
 | .inr l=>match (Fv s l).2.1.l6 with
   | some b=>e=.returned (.tuple #[.pointer none,.slice none 0 0,.int .i64 3,.int .i64 b])∧Below w.heap.size w a
   | none=>Fn w s l (Kf s l d c).1 (Fv s l).2.2 (Fv s l).2.1 (K8 s l d c) e a
structure Mg(pb wb B pl ca g n cap:Nat)(U:Nat→Prop)(toks:List Tk)(fv sv:Value)(fns:List RF)(fs:List FS)(fb:Nat)(fc:Array Value)(tv:Value)(takes:List Tk)(bv:Value)(body:List Nat)(c:CS)(w w':World):Prop where
 r:Lw pb wb B pl ca g n cap U toks fv sv fns fs c w w'
 i6:Aq fb fc 56 w'
 MN:CP B w' tv takes
 u9:Bs B w' bv body
theorem Mg.call{j a B k f g n r}{U:Nat→Prop}{v b l z t i d s x u p o c q w y m}(h:Mg j a B k f g n r U v b l z i d s x u p o c w y)(D:w.heap.size≤B)(F:w.heap.size≤a)(A:d≠a)(C:b.ownBlock≠some d)(E:RK j a B k f U b l t i q m)(e:Ci a B b y m):Mg j a B k f g n r U v b l t i d s x u p o q w m:=
 ⟨h.r.call D F E e,e.i6 h.i6 A C (by decide),e.row h.MN h.r.k.wr h.r.k.fn (by decide) (by decide) (by decide),e.row h.u9 h.r.k.wr h.r.k.fn (by decide) (by decide) (by decide)⟩
theorem H4(l:List PT)(i:Nat)(h:i<l.length):Ai (l.map Ak) i=Ak l[i]:=by unfold Ai;rw [List.getElem?_map,List.getElem?_eq_getElem h];rfl
theorem DU(s)(hs:s.size≤4000)(w d Z)(a3:∀l,AZ s s.size 0 []=.inr l→(Fv s l).2.1.l6=none→Mf d (Fv s l).1 (Fv s l).2.2 Z):
 Calls Tryz.prog 6 #[.string s] w fun e w'=>Gq w s d Z e w':=by
 have h4:decide ((4000:Int)<(s.size:Int))=false:=by simp;omega
 unfold Gq;have h5:=Aa a3;clear a3;cases hV:AZ s s.size 0 [] with
 | inl p=> simp only;have HV:=Aa hV;clear hV;go_enter Tryz.func6,Tryz.ntmps6;go_wp2_with fail;refine (Dp s hs _).mono ?_;rw [HV.o];rintro e o ⟨rfl,hb⟩;go_wp2;exact bodyPost_ret (v:=.tuple #[.pointer none,.slice none 0 0,.int .i64 2,.int .i64 p]) (by simp [results,Tryz.results6,go_sem]) rfl ⟨rfl,hb⟩
 | inr l=>
   simp only;have a3:=h5.o l hV;have k2:=Es s s.size 0 [] l (by omega) hV;simp only [List.length_nil] at k2;have HV:=Aa hV;clear hV h5;obtain ⟨P,hP⟩:∃P,Fv s l=P:=⟨_,rfl⟩;have e8:BU (Dc s l) (2*(l.length+1)) (l.length+1) ⟨0,none,0,0⟩ [] []=P:=hP;obtain ⟨r,y,fs⟩:=P;obtain ⟨n,hn⟩:∃n,l.length+1=n:=⟨_,rfl⟩;obtain ⟨AL,e7⟩:∃a,DD r d Z 0 (r,⟨0,0⟩)=a:=⟨_,rfl⟩;have hA:Kf s l d Z=AL:=by unfold Kf;rw [hP];exact e7
   have hC:K8 s l d Z=Jf r s.size AL.2:=by unfold K8;rw [hA,hP]
   rw [hP] at a3;rw [hP,hA,hC];rw [hn] at e8;simp only at a3⊢;have h0:=Aa e8;have g3:Nj (DD r d (Z.drop 0) 0 (r,⟨0,0⟩)=AL):=e7;clear hP e8 hA hC e7;cases b9:y.l6 with
   | some b=>
     have l2:decide ((0:Int)≤(b:Int))=true:=by simp
     have d7:=Aa b9;clear a3 b9;simp only;go_enter Tryz.func6,Tryz.ntmps6;go_wp2_with fail;refine (Dp s hs _).mono ?_;rw [HV.o];rintro e o ⟨v,rfl,K,hb⟩;rw [hn] at K;obtain ⟨va,B,E,rfl⟩:=Af K;have b6:=Ap K;subst b6;obtain ⟨g,rfl⟩:=Ay K (by omega);have c8:=(K.lt g rfl).1;have HT:Nj (AA g B E (Dc s l) o):=⟨Ar K (Nat.zero_le _),by simp [Dc];omega,by omega⟩;have hz:(Ai (Dc s l) (B-1)).sort=0:=by unfold Ai Dc;rw [show B-1=l.length by omega,List.getElem?_append_right (Nat.le_refl _)];simp
     have a9:=Aa hb;have T:=hb.size;clear K hb;go_wp2_with fail;refine (ET g B E (Dc s l) o HT.o (by omega) hz).mono ?_;rw [h0.o];rintro e w2 ⟨fv,G,U,rfl,hp,a0,a5,ho⟩;simp only at hp a0 a5⊢;have g4:Nj (Below w.heap.size w w2):=a9.o.trans (ho.s7 T (fun _ q=>q.elim));simp only [d7.o,Dv];go_wp2;exact bodyPost_ret (v:=.tuple #[.pointer none,.slice none 0 0,.int .i64 3,.int .i64 b]) (by simp [results,Tryz.results6,go_sem]) rfl ⟨rfl,g4.o⟩
   | none=>
     have hy:=a3 b9;have k1:=hy.len;have f3:=hy.Mz;have HY:=Aa hy;have d7:=Aa b9;clear a3 b9 hy;simp only;obtain ⟨C,F⟩:∃c,Jf r s.size AL.2=c:=⟨_,rfl⟩;rw [F];have c7:=Aa F;clear F;go_enter Tryz.func6,Tryz.ntmps6;go_wp2_with fail;refine (Dp s hs _).mono ?_;rw [HV.o];rintro e o ⟨v,rfl,K,hb⟩;rw [hn] at K;obtain ⟨va,B,E,rfl⟩:=Af K;have b6:=Ap K;subst b6;obtain ⟨g,rfl⟩:=Ay K (by omega);have c8:=(K.lt g rfl).1;have HT:Nj (AA g B E (Dc s l) o):=⟨Ar K (Nat.zero_le _),by simp [Dc];omega,by omega⟩;have hz:(Ai (Dc s l) (B-1)).sort=0:=by unfold Ai Dc;rw [show B-1=l.length by omega,List.getElem?_append_right (Nat.le_refl _)];simp
     have a9:=Aa hb;have T:=hb.size;clear K hb;go_wp2_with fail;refine (ET g B E (Dc s l) o HT.o (by omega) hz).mono ?_;rw [h0.o];rintro e w2 ⟨fv,G,U,rfl,hp,a0,a5,ho⟩;simp only at hp a0 a5⊢;have g4:Nj (Below w.heap.size w w2):=a9.o.trans (ho.s7 T (fun _ q=>q.elim));simp only [d7.o,Dv];have R0:Nj (Lw o.heap.size w2.heap.size o.heap.size y.pl y.ca g B E U (Dc s l) fv G r fs ⟨0,0⟩ o (w2.alloc (.cells #[.int .i64 0,.int .i64 0] 46))):=by have Y:=(Ab.refl (fun _=>False) w2).alloc (.cells #[.int .i64 0,.int .i64 0] 46);exact ⟨⟨hp.i6.d7 Y (fun q=>q),a5.m8 Y,a0.m8 Y,Aq.new _ _ _⟩,(HT.o.d7 ho (fun q=>q)).d7 Y (fun q=>q),ho.t8 Y⟩
     have b8:o.heap.size≤w2.heap.size:=ho.size;obtain ⟨fa,fl,fc,rfl⟩:∃a l c,fv=.slice a l c:=by obtain ⟨_,h,_⟩:=a5;exact Af h
     have k0:fl=r.length:=by obtain ⟨_,h,_⟩:=a5;exact Ap h
     subst k0;have S0:Nj (DO r r 0):=⟨rfl,fun j _ _=>⟨rfl,rfl,rfl,rfl,fun _=>rfl⟩⟩;clear hp a0 a5 ho HT;go_wp2;generalize w2.heap.size=Q at*;go_loopw [12] (fun i wr=>∃(k:Nat) (u:List RF) (c:CS),k≤r.length∧i=.int .i64 k∧Nj (Lw o.heap.size Q o.heap.size y.pl y.ca g B E U (Dc s l) (.slice fa r.length fc) G u fs c o wr)∧Nj (DO r u k)∧Nj (DD r d (Z.drop k) k (u,c)=AL)) (fun i _=>r.length-(intOf i).toNat)
     case atStart=>exact ⟨0,r,_,by omega,rfl,R0,S0,g3⟩
     case round=>
      clear R0 S0 g3;obtain ⟨k,u,c,hk,rfl,x,L,HC⟩:=hrel;have p0:=x.o.k.pr.i6.cell 0;simp at p0;have lp:=Ad x.o.k.pr;have lw:=Ad x.o.k.wr;by_cases f6:k<r.length
      ·have i5:k<Z.length:=by omega
       have a6:=HY.o.fr k f6 i5;have c4:k<u.length:=by rw [L.o.len];exact f6
       have b5:=L.o.eq k c4 f6;have f9:=Js r d Z k i5 (u,c);rw [HC.o] at f9;generalize Z[k]=t at*;obtain ⟨M,rfl⟩:∃M,fa=some ⟨M,0,none⟩:=by obtain ⟨_,h,_⟩:=x.o.k.fn;exact Ay h (by rw [L.o.len];omega)
       have l0:M<wr.heap.size:=by obtain ⟨_,h,_⟩:=x.o.k.fn;exact (h.lt M rfl).2
       obtain ⟨tv,bv,vv,hc,a1,c0,b7⟩:=x.o.k.fn.get c4;have e9:u[k].name=Ak t.name:=b5.1.trans a6.name;have f0:u[k].p7=t.l8.map Ak:=b5.2.1.trans a6.p7;have f1:BS (Cq k d fs) u[k].p8 t.t7:=by rw [b5.2.2.1];exact a6.p8
       have f2:u[k].r6=[]:=(b5.2.2.2.2 (Nat.le_refl _)).trans a6.r6;have h8:u[k].p8.length≤4001:=by rw [b5.2.2.1];exact a6.Nc
       have j7:=Aa (LQ c4 f2);have l3:=a6.M3;generalize u[k]=f at hc a1 c0 b7 e9 f0 f1 f2 h8;obtain ⟨ta,tl,tc,rfl⟩:=Af a1;have d3:=Ap a1;subst d3;obtain ⟨ba,bl,bc,rfl⟩:=Af c0;have j9:=Ap c0;subst j9;obtain ⟨xa,xl,xc,rfl⟩:=Af b7;have e0:=hc 0 (by omega);have e1:=hc 1 (by omega);have e2:=hc 2 (by omega);have e3:=hc 3 (by omega);have e4:=hc 4 (by omega);have e5:=hc 5 (by omega);have e6:=hc 6 (by omega);simp only [GL,Ni,Ng,Nh,Nat.add_zero] at e0 e1 e2 e3 e4 e5 e6;have l6:(k:Int)<(r.length:Int):=by omega
       have d2:wr.heap.size≠Q:=by omega
       have d1:Value.ownBlock (.slice (some ⟨M,0,none⟩) r.length fc)≠some wr.heap.size:=fun q=>by simp [Value.ownBlock] at q;omega
       have D:Nj (Mg o.heap.size Q o.heap.size y.pl y.ca g B E U (Dc s l) (.slice (some ⟨M,0,none⟩) r.length fc) G u fs wr.heap.size #[.string f.name.d9,.int .i64 f.name.pos,.int .i64 f.name.sort,.slice ta f.p7.length tc,.slice ba f.p8.length bc,.int .i64 f.br,.slice xa xl xc] (.slice ta f.p7.length tc) f.p7 (.slice ba f.p8.length bc) f.p8 c o (wr.alloc (.cells #[.string f.name.d9,.int .i64 f.name.pos,.int .i64 f.name.sort,.slice ta f.p7.length tc,.slice ba f.p8.length bc,.int .i64 f.br,.slice xa xl xc] 56))):=by have Y:=(Ab.refl (fun _=>False) wr).alloc (.cells #[.string f.name.d9,.int .i64 f.name.pos,.int .i64 f.name.sort,.slice ta f.p7.length tc,.slice ba f.p8.length bc,.int .i64 f.br,.slice xa xl xc] 56);exact ⟨⟨x.o.k.m8 Y,x.o.tk.d7 Y (fun q=>q),x.o.d7.t8 Y⟩,Aq.new _ _ _,Ac a1 Y (fun _ _ q=>q),Ac c0 Y (fun _ _ q=>q)⟩
       have h2:=Aa f9;have g6:=Aa e9;have g7:=Aa f0;have j3:=Aa f1;have f5:∀c6,k<(wv u k c6).length:=fun c6=>by rw [CX];exact c4
       have k5:∀c6,(wv u k c6).length≤4001:=fun c6=>by rw [CX,L.o.len];exact f3
       have b2:u.length≤4001:=by rw [L.o.len];exact f3
       clear hc a1 c0 b7 f9 HC x a6 b5 e9 f0 f1 f2;have g9:Nj (((f.name.pos:Nat):Int)=((t.name.f8:Nat):Int)):=by rw [g6.o];rfl
       obtain ⟨c1,a4⟩:∃c1,(if 12≤k then AU 4 t.name.f8 c else c)=c1:=⟨_,rfl⟩;obtain ⟨c9,H⟩:∃c9,(if Ch (r.map fun f=>f.name.d9) f.name.d9 0=(k:Int) then c1 else AU 5 t.name.f8 c1)=c9:=⟨_,rfl⟩;have H9:Nj (Gw r k t c=c9):=by show _=_;unfold Gw;rw [show t.name.d9=f.name.d9 by rw [g6.o];rfl,a4,H]
       have g5:=Aa H;clear H;by_cases h6:12≤k;focus
        rw [if_pos h6] at a4;have k9:decide ((12:Int)≤(k:Int))=true:=by simp;omega
        have d8:=Aa a4;clear a4;go_wp2_with fail;obtain ⟨W0,d9⟩:∃W0,wr.alloc (.cells #[.string f.name.d9,.int .i64 f.name.pos,.int .i64 f.name.sort,.slice ta f.p7.length tc,.slice ba f.p8.length bc,.int .i64 f.br,.slice xa xl xc] 56)=W0:=⟨_,rfl⟩;rw [d9] at D⊢;have b0:=D.o.i6.cell 0;have b1:=D.o.i6.cell 1;have R:=D.o.i6.cell 3;have S:=D.o.i6.cell 4;have a8:=Ad D.o.i6;simp only [Ni,Ng,Nh] at b0 b1 R S;have g2:=Ad D.o.r.k.pr;rw [g9.o];refine (Bg Q 4 t.name.f8 c _ D.o.r.k.wr).mono ?_;rintro e w3 ⟨rfl,i7,f7⟩;have I:=Aa (D.o.call (Nat.le_refl _) b8 d2 d1 (D.o.r.k.add i7 f7) (Ci.q9 f7));rw [d8.o] at I;clear i7 f7 b0 b1 R S a8;have b0:=I.o.i6.cell 0;have b1:=I.o.i6.cell 1;have R:=I.o.i6.cell 3;have S:=I.o.i6.cell 4;have a8:=Ad I.o.i6;simp only [Ni,Ng,Nh] at b0 b1 R S;have g2:=Ad I.o.r.k.pr;go_wp2_with fail
       rotate_left;focus
        rw [if_neg h6] at a4;have k9:decide ((12:Int)≤(k:Int))=false:=by simp;omega
        have d8:=Aa a4;clear a4;go_wp2_with fail;obtain ⟨W0,d9⟩:∃W0,wr.alloc (.cells #[.string f.name.d9,.int .i64 f.name.pos,.int .i64 f.name.sort,.slice ta f.p7.length tc,.slice ba f.p8.length bc,.int .i64 f.br,.slice xa xl xc] 56)=W0:=⟨_,rfl⟩;rw [d9] at D⊢;have b0:=D.o.i6.cell 0;have b1:=D.o.i6.cell 1;have R:=D.o.i6.cell 3;have S:=D.o.i6.cell 4;have a8:=Ad D.o.i6;simp only [Ni,Ng,Nh] at b0 b1 R S;have g2:=Ad D.o.r.k.pr;have I:=D;rw [d8.o] at I
       all_goals
        refine (CJ o.heap.size o.heap.size y.pl y.ca _ G u f.name.d9 _ I.o.r.k.pr I.o.r.k.fn b2).mono ?_;rw [L.o.z9];rintro e w4 ⟨rfl,O⟩;have O:=O.symm;subst O;have H:=g5.o;clear g5;by_cases d5:Ch (r.map fun f=>f.name.d9) f.name.d9 0=(k:Int);focus
         rw [if_pos d5] at H;have k8:((Ch (r.map fun f=>f.name.d9) f.name.d9 0:Int) !=(k:Int))=false:=by simp [d5]
         have V:=I;rw [H] at V;clear H
        rotate_left;focus
         rw [if_neg d5] at H;have k8:((Ch (r.map fun f=>f.name.d9) f.name.d9 0:Int) !=(k:Int))=true:=by simp [d5]
         have c7:=Aa H;clear H;go_wp2_with fail;rw [g9.o];refine (Bg Q 5 t.name.f8 c1 _ I.o.r.k.wr).mono ?_;rintro e w5 ⟨rfl,i8,f8⟩;have V:=Aa (I.o.call (Nat.le_refl _) b8 d2 d1 (I.o.r.k.add i8 f8) (Ci.q9 f8));rw [c7.o] at V;clear i8 f8 b0 b1 R S a8;have b0:=V.o.i6.cell 0;have b1:=V.o.i6.cell 1;have R:=V.o.i6.cell 3;have S:=V.o.i6.cell 4;have a8:=Ad V.o.i6;simp only [Ni,Ng,Nh] at b0 b1 R S;have g2:=Ad V.o.r.k.pr
       all_goals
        clear b0 b1 R S a8;obtain ⟨vp,cp,d4⟩:∃a b,CD t.l8 ([],c9)=(a,b):=⟨_,_,rfl⟩;have b6:=Gy t.l8 ([],c9);rw [d4] at b6;simp only [List.length_nil,Nat.zero_add] at b6;have l8:f.p7.length=t.l8.length:=by rw [g7.o];simp
        have g8:Nj (CD (t.l8.drop 0) ([],c9)=(vp,cp)):=d4;have d6:=V;rw [←j7.o] at d6;have j2:Nj (DD r d (Z.drop (k+1)) (k+1) (wv u k (DM r d 1 t.t7 (vp,cp)).1,(DM r d 1 t.t7 (vp,cp)).2)=AL):=by have:=h2.o;unfold Gv at this;simp only [H9.o,d4] at this;exact this.symm
        clear d4 h2;go_wp2;go_loopw [14] (fun j l1=>∃(m:Nat) (N:List ByteArray) (c2:CS),m≤f.p7.length∧j=.int .i64 m∧Nj (Mg o.heap.size Q o.heap.size y.pl y.ca g B E U (Dc s l) (.slice (some ⟨M,0,none⟩) r.length fc) G (wv u k N) fs wr.heap.size #[.string f.name.d9,.int .i64 f.name.pos,.int .i64 f.name.sort,.slice ta f.p7.length tc,.slice ba f.p8.length bc,.int .i64 f.br,.slice xa xl xc] (.slice ta f.p7.length tc) f.p7 (.slice ba f.p8.length bc) f.p8 c2 o l1)∧N.length=m∧Nj (CD (t.l8.drop m) (N,c2)=(vp,cp))) (fun j _=>f.p7.length-(intOf j).toNat)
        case atStart=>exact ⟨0,[],c9,by omega,rfl,d6,rfl,g8⟩
        case round=>
         clear V d6 g8;obtain ⟨m,N,c2,hm,rfl,J,k7,HQ⟩:=hrel;have R:=J.o.i6.cell 3;have S:=J.o.i6.cell 4;simp only [Ni,Ng,Nh] at R S;have a8:=Ad J.o.i6;have m0:=Ad J.o.r.k.pr;have m1:=Ad J.o.r.k.wr;by_cases k4:m<f.p7.length
         ·obtain ⟨gt,rfl⟩:=Ay J.o.MN (by omega);obtain ⟨t0,t1,t2⟩:=CH J.o.MN k4;have l9:=(J.o.MN.lt gt rfl).2;have i6:m<t.l8.length:=by omega
          have a0:=Ju t.l8 m i6 (N,c2);rw [HQ.o] at a0;have g0:Ai f.p7 m=Ak t.l8[m]:=by rw [g7.o];exact H4 _ _ i6
          generalize Ai f.p7 m=q at t0 t1 t2 g0;have j6:Nj (CD (t.l8.drop (m+1)) (N++[q.d9],Cm N q c2)=(vp,cp)):=by rw [g0];exact a0.symm
          have k3:(m:Int)<(f.p7.length:Int):=by omega
          have b7:((wv u k N)[k]'(f5 N)).r6=N:=JQ (f5 N);have h3:=Aa b7;clear a0 g0 HQ b7;go_wp2_with fail;refine (ES o.heap.size Q o.heap.size y.pl y.ca k U _ G (wv u k N) fs c2 q _ J.o.r.k (f5 _) (k5 _) (by rw [h3.o];omega)).mono ?_;rw [JP,h3.o];rintro e w6 ⟨rfl,i3,h9⟩;have j4:=Aa (J.o.call (Nat.le_refl _) b8 d2 d1 i3 h9);clear i3 h9 J;go_wp2_with fail;exact ⟨⟨m+1,_,_,by omega,by go_num,j4,by simp [k7],j6⟩,by simp [intOf];omega⟩
         ·have e:m=t.l8.length:=by omega
          have hq:N=vp∧c2=cp:=by have:=HQ.o;rw [e,List.drop_length] at this;simpa [CD] using this
          obtain ⟨rfl,rfl⟩:=hq;have k3:decide ((m:Int)<(f.p7.length:Int))=false:=by simp;omega
          clear HQ;go_wp2_with fail;refine (KW d o.heap.size Q o.heap.size y.pl y.ca k 1 U _ G _ u fs f.p8 t.t7 N c2 _ J.o.r.k J.o.u9 j3.o c4 b2 HY.o.Nd (by omega) h8 HY.o.Nf (by have:=HY.o.dd;omega)).mono ?_;rw [L.o.M7];rintro e w7 ⟨rfl,i4,i0⟩;have j5:=Aa (J.o.call (Nat.le_refl _) b8 d2 d1 i4 i0);clear i4 i0 J;go_wp2_with fail;exact ⟨⟨k+1,_,_,by omega,by go_num,j5.o.r,L.o.d8 _,j2⟩,by simp [intOf];omega⟩
      ·have e:k=r.length:=by omega
       have j8:AL=(u,c):=by have:=HC.o;rw [e,k1,List.drop_length] at this;exact this.symm
       subst j8;have l7:decide ((k:Int)<(r.length:Int))=false:=by simp;omega
       have b2:u.length≤4001:=by rw [L.o.len];exact f3
       have F:=c7.o;unfold Jf at F;have d0:=EI (r.map fun f=>f.name.d9) ⟨#[109,97,105,110]⟩ 0;clear HC c7;simp only at F;by_cases g1:0≤Ch (r.map fun f=>f.name.d9) ⟨#[109,97,105,110]⟩ 0
       ·obtain ⟨i,hi⟩:∃i:Nat,Ch (r.map fun f=>f.name.d9) ⟨#[109,97,105,110]⟩ 0=i:=⟨(Ch (r.map fun f=>f.name.d9) ⟨#[109,97,105,110]⟩ 0).toNat,by omega⟩;have f4:i<r.length:=by have:=d0.2.2;simp only [List.length_map] at this;omega
        have i2:i<u.length:=by rw [L.o.len];exact f4
        have i9:=L.o.eq i i2 f4;obtain ⟨M,rfl⟩:∃M,fa=some ⟨M,0,none⟩:=by obtain ⟨_,h,_⟩:=x.o.k.fn;exact Ay h (by omega)
        have l0:M<wr.heap.size:=by obtain ⟨_,h,_⟩:=x.o.k.fn;exact (h.lt M rfl).2
        obtain ⟨tv,bv,vv,h7,a1,_,_⟩:=x.o.k.fn.get i2;have e3:=h7 3 (by omega);simp only [GL,Ni,Ng,Nh] at e3;obtain ⟨ta,tl,tc,rfl⟩:=Af a1;have d3:=Ap a1;have i1:(((r.map fun f=>f.p7.length)[i]?).getD 0:Nat)=tl:=by rw [List.getElem?_map,List.getElem?_eq_getElem f4,d3,i9.2.1];rfl
        rw [hi] at F;simp only [Int.toNat_natCast,i1] at F;have l5:(i:Int)<(r.length:Int):=by omega
        have l4:decide ((i:Int)<0)=false:=by simp
        clear h7 a1 i9 i1 g1 d0 d3;by_cases j0:tl=0
        ·rw [if_pos ⟨by omega,j0⟩] at F;have k6:decide ((0:Int)<(tl:Int))=false:=by simp;omega
         go_wp2_with fail;refine (CJ o.heap.size o.heap.size y.pl y.ca _ G u ⟨#[109,97,105,110]⟩ _ x.o.k.pr x.o.k.fn b2).mono ?_;rw [L.o.z9,hi];rintro e w9 ⟨rfl,O⟩;subst O;have z:Nj (Lw o.heap.size Q o.heap.size y.pl y.ca g B E U (Dc s l) (.slice (some ⟨M,0,none⟩) r.length fc) G u fs C o w9):=by rw [←F];exact x.o
         clear F;have r0:=Aq.cell z.o.k.wr 0;have r1:=Aq.cell z.o.k.wr 1;have j1:=Ad z.o.k.wr;simp only [Ni,Ng,Nh] at r0 r1;have a2:Nj (∀X,Ab (fun _=>False) w9 X→Below w.heap.size w X):=fun X hW=>a9.o.trans ((z.o.d7.t8 hW).s7 T (fun _ q=>q.elim))
         by_cases A:C.p9=0
         ·have c3:((C.p9:Int) !=0)=false:=by simp [A]
          have W:=Aa A;clear A;go_wp2_with fail;refine bodyPost_ret (v:=.tuple #[.pointer (some ⟨o.heap.size,0,none⟩),.slice (some ⟨g,0,none⟩) B E,.int .i64 0,.int .i64 0]) (by simp [results,Tryz.results6,go_sem]) rfl ?_;unfold Fn;rw [if_pos W.o,hn];exact ⟨o.heap.size,o.heap.size,g,E,U,_,G,rfl,z.o.tk,c8,z.o.k.pr,T,z.o.k.fn,T,z.o.k.st,a2.o _ (Ab.refl _ _)⟩
         ·have c3:((C.p9:Int) !=0)=true:=by simp [A]
          have W:=Aa A;clear A;go_wp2_with fail;go_region;go_wp2;refine bodyPost_ret (v:=.tuple #[.pointer none,.slice none 0 0,.int .i64 C.p9,.int .i64 C.f8]) (by simp [results,Tryz.results6,go_sem]) rfl ?_;unfold Fn;rw [if_neg W.o];exact ⟨rfl,a2.o _ (by repeat (first | exact Ab.refl _ _ | refine Ab.drew ?_ | refine Ab.drewN ?_ _ | refine Ab.alloc ?_ _))⟩
        ·rw [if_neg (fun q=>j0 q.2)] at F;have H:=F.symm;have k6:decide ((0:Int)<(tl:Int))=true:=by simp;omega
         clear F;go_wp2_with fail;refine (CJ o.heap.size o.heap.size y.pl y.ca _ G u ⟨#[109,97,105,110]⟩ _ x.o.k.pr x.o.k.fn b2).mono ?_;rw [L.o.z9,hi];rintro e w8 ⟨rfl,O⟩;have O:=O.symm;subst O;go_wp2_with fail;refine (Bg Q 6 s.size c _ x.o.k.wr).mono ?_;rintro e w9 ⟨rfl,c5,a7⟩;have z:Nj (Lw o.heap.size Q o.heap.size y.pl y.ca g B E U (Dc s l) (.slice (some ⟨M,0,none⟩) r.length fc) G u fs C o w9):=by rw [H];exact x.o.call (Nat.le_refl _) b8 (x.o.k.add c5 a7) (Ci.q9 a7)
         clear c5 a7 p0 lp lw x H;have r0:=Aq.cell z.o.k.wr 0;have r1:=Aq.cell z.o.k.wr 1;have j1:=Ad z.o.k.wr;simp only [Ni,Ng,Nh] at r0 r1;have a2:Nj (∀X,Ab (fun _=>False) w9 X→Below w.heap.size w X):=fun X hW=>a9.o.trans ((z.o.d7.t8 hW).s7 T (fun _ q=>q.elim))
         by_cases A:C.p9=0
         ·have c3:((C.p9:Int) !=0)=false:=by simp [A]
          have W:=Aa A;clear A;go_wp2_with fail;refine bodyPost_ret (v:=.tuple #[.pointer (some ⟨o.heap.size,0,none⟩),.slice (some ⟨g,0,none⟩) B E,.int .i64 0,.int .i64 0]) (by simp [results,Tryz.results6,go_sem]) rfl ?_;unfold Fn;rw [if_pos W.o,hn];exact ⟨o.heap.size,o.heap.size,g,E,U,_,G,rfl,z.o.tk,c8,z.o.k.pr,T,z.o.k.fn,T,z.o.k.st,a2.o _ (Ab.refl _ _)⟩
         ·have c3:((C.p9:Int) !=0)=true:=by simp [A]
          have W:=Aa A;clear A;go_wp2_with fail;go_region;go_wp2;refine bodyPost_ret (v:=.tuple #[.pointer none,.slice none 0 0,.int .i64 C.p9,.int .i64 C.f8]) (by simp [results,Tryz.results6,go_sem]) rfl ?_;unfold Fn;rw [if_neg W.o];exact ⟨rfl,a2.o _ (by repeat (first | exact Ab.refl _ _ | refine Ab.drew ?_ | refine Ab.drewN ?_ _ | refine Ab.alloc ?_ _))⟩
       ·have hi:Ch (r.map fun f=>f.name.d9) ⟨#[109,97,105,110]⟩ 0= -1:=by have:=d0.2.1;omega
        rw [if_neg (fun q=>g1 q.1)] at F;have H:=F.symm;clear F g1 d0;go_wp2_with fail;refine (CJ o.heap.size o.heap.size y.pl y.ca _ G u ⟨#[109,97,105,110]⟩ _ x.o.k.pr x.o.k.fn b2).mono ?_;rw [L.o.z9,hi];rintro e w8 ⟨rfl,O⟩;have O:=O.symm;subst O;go_wp2_with fail;refine (Bg Q 6 s.size c _ x.o.k.wr).mono ?_;rintro e w9 ⟨rfl,c5,a7⟩;have z:Nj (Lw o.heap.size Q o.heap.size y.pl y.ca g B E U (Dc s l) (.slice fa r.length fc) G u fs C o w9):=by rw [H];exact x.o.call (Nat.le_refl _) b8 (x.o.k.add c5 a7) (Ci.q9 a7)
        clear c5 a7 p0 lp lw x H;have r0:=Aq.cell z.o.k.wr 0;have r1:=Aq.cell z.o.k.wr 1;have j1:=Ad z.o.k.wr;simp only [Ni,Ng,Nh] at r0 r1;have a2:Nj (∀X,Ab (fun _=>False) w9 X→Below w.heap.size w X):=fun X hW=>a9.o.trans ((z.o.d7.t8 hW).s7 T (fun _ q=>q.elim))
        by_cases A:C.p9=0
        ·have c3:((C.p9:Int) !=0)=false:=by simp [A]
         have W:=Aa A;clear A;go_wp2_with fail;refine bodyPost_ret (v:=.tuple #[.pointer (some ⟨o.heap.size,0,none⟩),.slice (some ⟨g,0,none⟩) B E,.int .i64 0,.int .i64 0]) (by simp [results,Tryz.results6,go_sem]) rfl ?_;unfold Fn;rw [if_pos W.o,hn];exact ⟨o.heap.size,o.heap.size,g,E,U,_,G,rfl,z.o.tk,c8,z.o.k.pr,T,z.o.k.fn,T,z.o.k.st,a2.o _ (Ab.refl _ _)⟩
        ·have c3:((C.p9:Int) !=0)=true:=by simp [A]
         have W:=Aa A;clear A;go_wp2_with fail;go_region;go_wp2;refine bodyPost_ret (v:=.tuple #[.pointer none,.slice none 0 0,.int .i64 C.p9,.int .i64 C.f8]) (by simp [results,Tryz.results6,go_sem]) rfl ?_;unfold Fn;rw [if_neg W.o];exact ⟨rfl,a2.o _ (by repeat (first | exact Ab.refl _ _ | refine Ab.drew ?_ | refine Ab.drewN ?_ _ | refine Ab.alloc ?_ _))⟩
theorem Hc(s y):Dc s ((Cb s s.size y).p6.map Ak)=(An s y).map Ak:=by unfold Dc An;rw [List.map_append,List.map_singleton,EH];rfl
structure Me(s:ByteArray)(y:Sc):Prop where
 ok:TksOk s.size (An s y)
 M9:DigOk (An s y)
 len:(An s y).length≤4001
 lex:AZ s s.size 0 []=.inr ((Cb s s.size y).p6.map Ak)
 M4:((Cb s s.size y).p6.map Ak).length+1=(An s y).length
theorem It{s y}(d:s.size≤4000)(h:Aw s s.size 0 x0=.inr y):Me s y:=by
 have a:AZ s s.size 0 []=.inr ((Cb s s.size y).p6.map Ak):=by rw [Fh];have b:Aw s s.size 0 ⟨[],false,0,0⟩=.inr y:=h;rw [b];rfl
 have c:((Cb s s.size y).p6.map Ak).length+1=(An s y).length:=by simp [An]
 have:=Es s s.size 0 [] _ (Nat.zero_le _) a;simp only [List.length_nil] at this;exact ⟨Jv h,Dk h,by omega,a,c⟩
theorem J4(s)(d:4000<s.size)(c:s.size≤maxLen)(w):Calls Tryz.prog 9 #[.string s] w fun e j=>e=.returned (.tuple #[.slice none 0 0,LR,.int .i64 1,.int .i64 0])∧Below w.heap.size w j:=by have g:=Aa d;have f:=Aa c;clear d c;go_enter Tryz.func9,Tryz.ntmps9;go_wp2_with fail;refine (IU s g.o f.o _).mono ?_;rintro e l ⟨rfl,b⟩;have b:=b.symm;subst b;have a:=Aq.new w #[.slice none 0 0,.int .i64 0] 36;have h:=a.cell 0;have i:=a.cell 1;have k:=a.frozen;simp only [Ni,Ng,Nh] at h i;clear a;go_wp2;refine bodyPost_ret (v:=.tuple #[.slice none 0 0,LR,.int .i64 1,.int .i64 0]) (by simp [results,Tryz.results9,go_sem]) rfl ⟨rfl,?_⟩;exact (Below.refl w.heap.size w).alloc (Nat.le_refl _) _
theorem LJ(s)(d:4000<s.size)(a:s.size≤maxLen)(w):
 Calls Tryz.prog 6 #[.string s] w fun e b=>e=.returned (.tuple #[.pointer none,.slice none 0 0,.int .i64 1,.int .i64 0])∧b=w:=by
 unfold maxLen at a;have c:decide ((4000:Int)<(s.size:Int))=true:=by simp;omega
 go_enter Tryz.func6,Tryz.ntmps6;go_wp2;exact bodyPost_ret (v:=.tuple #[.pointer none,.slice none 0 0,.int .i64 1,.int .i64 0]) (by simp [results,Tryz.results6,go_sem]) rfl ⟨rfl,rfl⟩
def Dd(l:List PT):List ByteArray:=(l.filter (fun t=>t.kind≠0)).map (fun t=>t.d9)
theorem He(l:List PT)(t:PT):Dd (l++[t])=if t.kind=0 then Dd l else Dd l++[t.d9]:=by
 unfold Dd;rw [List.filter_append,List.map_append];by_cases h:t.kind=0
 ·simp [h]
 ·simp [h]
theorem Lp(l:List PT):(Dd l).length≤l.length:=by unfold Dd;rw [List.length_map];exact List.length_filter_le _ _
theorem H2{l:List PT}{k:Nat}(h:k<l.length):l.take (k+1)=l.take k++[Ah l k]:=by rw [List.take_succ_eq_append_getElem h];unfold Ah;rw [List.getElem?_eq_getElem h];rfl
theorem JI:∀(a:List ByteArray),(∀x,x∈a→x.size≤4000)→Lib.lens (a.map (fun x=>x.data.toList))≤4000*a.length
 | [],_=>by simp [Lib.lens]
 | x::a,h=>by
   have b:=JI a (fun y c=>h y (List.mem_cons_of_mem _ c));have d:=h x (List.mem_cons_self ..);have e:x.data.toList.length=x.size:=by simp
   simp only [Lib.lens,List.map_cons,List.sum_cons,List.length_cons] at b⊢;omega
theorem LE(a:List ByteArray)(h:∀x,x∈a→x.size≤4000)(b:a.length≤4001):(Lib.join (a.map (fun x=>x.data.toList)) [32]).length≤140737488355328:=by
 cases a with
 | nil=>simp [Lib.join_nil]
 | cons x a=> have:=JI (x::a) h;rw [List.map_cons,Lib.join_length];simp only [List.map_cons,List.length_cons,List.length_map,List.length_nil] at this b⊢;omega
theorem KU(g n B:Nat)(a:List PT)(w:World)(h:AI g n B a w)(U:∀t,t∈a→t.d9.size≤4000):
 Calls Tryz.prog 10 #[.slice (some ⟨g,0,none⟩) n B] w fun e w'=>(∃s:ByteArray,e=.returned (.string s)∧s.data.toList=Lib.join ((Dd a).map (fun x=>x.data.toList)) [32])∧Below w.heap.size w w':=by
 obtain ⟨Z,N,W,X,Y⟩:=info_parts Tryz.infoStr;have R:=h.2.1;have hn:=h.2.2.1;obtain ⟨m,D⟩:∃m,a.length=m:=⟨_,rfl⟩;rw [D] at R;subst R;have r:=Aa D;clear D;have lg:=h.lt;have HT:=Aa h;have I:=Aa U;clear h U;go_enter Tryz.func10,Tryz.ntmps10;go_wp2_with (at_make;refine wpList_make_own _ rfl _ _ 54 rfl w.heap.size 9 Z (.string ByteArray.empty) 1 Tryz.underlying54 N W X .i64 .i64 (n:Int) n rfl rfl rfl (by rw [Y];omega) (by unfold maxLen;omega) (Nat.le_refl _) ?_;intro w1 T L);have H:=Aa T;have G:Nj (Ab (fun _=>False) w w1):=Ab.grown (Ab.refl _ w) L (fun k P=>by cases P);clear T L;go_loopw [3,11] (fun v i wr=>∃(k:Nat),k≤n∧i=.int .i64 k∧Nj (Cz w.heap.size wr v (Dd (a.take k)))∧Nj (Ab (fun _=>False) w wr)) (fun _ i _=>n-(intOf i).toNat)
 case atStart=>exact ⟨0,by omega,rfl,H,G⟩
 case round=>
  clear H G;obtain ⟨k,P,rfl,d,c⟩:=hrel;have Q:=Lp (a.take k);rw [List.length_take,r.o] at Q;by_cases a6:k<n
  ·have y:AI g n B a wr:=HT.o.d7 c.o (fun q=>q);obtain ⟨t0,t1,t2⟩:=y.cells a6;have b3:=y.lt;have E:=H2 (l:=a) (k:=k) (by rw [r.o];omega);have b2:(Ah a k).d9.size≤4000:=by unfold Ah;rw [List.getElem?_eq_getElem (by rw [r.o];omega)];exact I.o _ (List.getElem_mem _)
   have f:=He (a.take k) (Ah a k);rw [←E] at f;generalize Ah a k=t at*;have a5:(k:Int)<(n:Int):=by omega
   obtain ⟨va,vl,z,rfl⟩:=Af d.o;have F:=Ap d.o;subst F;have V:=c.o.size;by_cases o:t.kind=0
   ·have a4:((t.kind:Int) !=0)=false:=by simp [o]
    rw [if_pos o] at f;have A:=Aa f;clear y E f o;go_wp2;go_roundw
    case rel=>exact ⟨k+1,by omega,by go_num,Aa (by rw [A.o];exact Ac d.o ((Ab.refl (fun _=>False) wr).alloc _) (fun _ _ q=>q)),c.o.alloc _⟩
    case measure=>simp [intOf];omega
   ·have a4:((t.kind:Int) !=0)=true:=by simp [o]
    rw [if_neg o] at f;have A:=Aa f;have a0:=Aa (Ac d.o ((Ab.refl (fun _=>False) wr).alloc (.cells #[.int .i64 t.kind,.string t.d9,.int .i64 t.f8] 69)) (fun _ _ q=>q));clear y E f o;go_wp2_with (at_builtin;refine wpList_append_own _ rfl _ _ 54 rfl w.heap.size 9 Z (.string ByteArray.empty) 1 16 Tryz.underlying54 N W X Y rfl (by decide) _ _ _ rfl (a0.o.alloc _) ⟨wr.heap.size+1,0,none⟩ 1 1 [.string t.d9] rfl rfl (Bn (by simp) _ _) (fun x b=>by simp at b;subst b;rfl) (by unfold maxLen;omega) (by omega) (by simp;omega) ?_;intro v' w3 S M a7);have O3:Ab (fun _=>False) w w3:=Ab.grown ((c.o.alloc _).alloc _) M (fun j O=>.inr (d.o.lt j O).1);have HX:Nj (Cz w.heap.size w3 v' (Dd (a.take (k+1)))):=by rw [A.o];unfold Cz;rw [List.length_append,List.map_append];exact S
    clear M a7 S;go_wp2;go_roundw
    case rel=>exact ⟨k+1,by omega,by go_num,HX,O3⟩
    case measure=>simp [intOf];omega
  ·have e:k=n:=by omega
   have K:a.take k=a:=List.take_of_length_le (by rw [r.o];omega);rw [K] at Q;have a5:decide ((k:Int)<(n:Int))=false:=by simp;omega
   have p:=d.o;rw [K] at p;obtain ⟨va,vl,z,rfl⟩:=Af p;have F:=Ap p;subst F;have a9:∀x,x∈Dd a→x.size≤4000:=by intro x b;unfold Dd at b;obtain ⟨t,h,rfl⟩:=List.mem_map.1 b;exact I.o t (List.mem_filter.1 h).1
   have a3:=LE (Dd a) a9 (by omega);have V:=c.o.size;have u:=Aa p;clear d p;by_cases C:Dd a=[]
   ·rw [C];go_wp2_with fail;refine (Tryz.strings_Join_none va z ⟨#[32]⟩ wr).mono ?_;rintro e w2 ⟨rfl,rfl⟩;go_wp2;go_ret;exact ⟨⟨_,rfl,by rw [C];simp [Lib.join_nil]⟩,(c.o.below (fun _ q=>q.elim))⟩
   ·have a8:0<(Dd a).length:=List.length_pos_iff.2 C;obtain ⟨J,rfl⟩:=Ay u.o a8;have lv:=(u.o.lt J rfl).2;have a2:(Dd a).length≤z:=by
     rcases u.o.2 with ⟨q,_⟩ | ⟨g',b0,b1,q,_,_,hc,_⟩
     ·simp at q
     ·simp only [Value.slice.injEq] at q;omega
    go_wp2_with fail;refine (Tryz.strings_Join J 0 z (Dd a) ⟨#[32]⟩ wr (fun j x b=>?_) lv (by omega) a2 a3).mono ?_
    ·have O:j<(Dd a).length:=by
      rcases Nat.lt_or_ge j (Dd a).length with q | q
      ·exact q
      ·rw [List.getElem?_eq_none q] at b;cases b
     have:=u.o.cellAt j (by omega)
     rw [List.getElem?_map,b] at this
     simpa using this
    rintro e w2 ⟨rfl,a1⟩;go_wp2;go_ret;exact ⟨⟨_,rfl,by simp⟩,(c.o.below (fun _ q=>q.elim)).trans (a1.mono V)⟩
def LI(a:List Tk):Nat→List UInt8
 | 0=>[]
 | i+1=>LI a i++(if 0<i then [32] else [])++(Ai a i).d9.data.toList
theorem Hz(g n h:Nat)(a:List Tk)(w:World)(b:AA g n h a w)(y:0<n)(p:∀t,t∈a→t.d9.size≤4000):
 Calls Tryz.prog 8 #[.slice (some ⟨g,0,none⟩) n h] w fun e q=>(∃s:ByteArray,e=.returned (.string s)∧s.data.toList=LI a (n-1))∧q=w:=by
 have x:=b.2.2;have z:=b.2.1;have C:g<w.heap.size:=(b.1.lt g rfl).2;have r:ByteArray.size {data:=#[32]}=1:=rfl;have l:=Aa b;clear b;go_enter Tryz.func8,Tryz.ntmps8;go_wp2;go_loopw [3,4] (fun t i wr=>∃(k:Nat) (s:ByteArray),k≤n-1∧i=.int .i64 k∧t=.string s∧wr=w∧Nj (s.data.toList=LI a k)∧s.size≤4001*k) (fun _ i _=>n-1-(intOf i).toNat)
 case atStart=>exact ⟨0,{data:=#[]},by omega,rfl,rfl,rfl,rfl,by decide⟩
 case round=>
  obtain ⟨k,s,u,rfl,rfl,rfl,d,A⟩:=hrel;by_cases v:k<n-1
  ·obtain ⟨D,_,_⟩:=l.o.cells (i:=k) (by omega);have B:(Ai a k).d9.size≤4000:=by unfold Ai;rw [List.getElem?_eq_getElem (by omega)];exact p _ (List.getElem_mem _)
   have j:LI a (k+1)=LI a k++(if 0<k then [32] else [])++(Ai a k).d9.data.toList:=rfl;have f:=Aa j;have o:(k:Int)<(n:Int)-1:=by omega
   clear j;generalize Ai a k=t at*;by_cases c:0<k
   ·have m:decide ((0:Int)<(k:Int))=true:=by simp [c]
    go_wp2;go_roundw
    case rel=>exact ⟨k+1,_,by omega,by go_num,rfl,by trivial,Aa (by rw [f.o];simp [d.o,c]),by simp;omega⟩
    case measure=>simp [intOf];omega
   ·have m:decide ((0:Int)<(k:Int))=false:=by simp;omega
    go_wp2;go_roundw
    case rel=>exact ⟨k+1,_,by omega,by go_num,rfl,by trivial,Aa (by rw [f.o];simp [d.o,c]),by simp;omega⟩
    case measure=>simp [intOf];omega
  ·have e:k=n-1:=by omega
   have o:decide ((k:Int)<(n:Int)-1)=false:=by simp;omega
   go_wp2;go_ret;exact ⟨⟨s,rfl,by rw [d.o,e]⟩,rfl⟩
end Go.Proofs.YtmaankfbhhbeoaaGreatDoor
