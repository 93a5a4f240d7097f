/- One of the texts of the proof of runs_card_holds: ChH PrK RwE. -/
import Derived.Test.YthppbgndiplgnaaGreatDoorG47
import Derived.Test.YthppbgndiplgnaaGreatDoorG46
set_option maxRecDepth 100000
set_option maxHeartbeats 8000000
namespace Go.Proofs.YthppbgndiplgnaaGreatDoor
open Go.RowKit
def EZ(s:ByteArray)(l:List Tk):List Tk:=l++[⟨ByteArray.empty,s.size,0⟩]
def JK(s:ByteArray)(l:List Tk):List RF×St×List FS:=CE (EZ s l) (2*(l.length+1)) (l.length+1) ⟨0,none,0,0⟩ [] []
def Sn(s:ByteArray)(l:List Tk)(d:Nat)(a:List TF):List RF×CS:=BJ (JK s l).1 d a 0 ((JK s l).1,⟨0,0⟩)
def Uv(s:ByteArray)(l:List Tk)(d:Nat)(a:List TF):CS:=MJ (JK s l).1 s.size (Sn s l d a).2
def Hd(w:World)(s:ByteArray)(l:List Tk)(h:List RF)(i:List FS)(x:St)(C:CS)(e:Ending)(a:World):Prop:=
 if C.Ym=0 then
  ∃(b B g c:Nat) (U:Nat→Prop) (d f:Value),e=.returned (.tuple #[.pointer (some ⟨b,0,none⟩),.slice (some ⟨g,0,none⟩) (l.length+1) c,.int .i64 0,.int .i64 0])∧AP g (l.length+1) c (EZ s l) a∧w.heap.size≤g∧Cr b d f x.pl x.ca a∧w.heap.size≤b∧Cp B a d h∧w.heap.size≤B∧BA B U a f i∧Below w.heap.size w a
 else e=.returned (.tuple #[.pointer none,.slice none 0 0,.int .i64 C.Ym,.int .i64 C.i9])∧Below w.heap.size w a
def KV(w:World)(s:ByteArray)(d:Nat)(c:List TF)(e:Ending)(a:World):Prop:=
 match Bz s s.size 0 [] with
 | .inl p=>e=.returned (.tuple #[.pointer none,.slice none 0 0,.int .i64 2,.int .i64 p])∧Below w.heap.size w a
 | .inr l=>match (JK s l).2.1.Ya with
   | some b=>e=.returned (.tuple #[.pointer none,.slice none 0 0,.int .i64 3,.int .i64 b])∧Below w.heap.size w a
   | none=>Hd w s l (Sn s l d c).1 (JK s l).2.2 (JK s l).2.1 (Uv s l d c) e a
structure Xm(pb wb B pl ca g n cap:Nat)(U:Nat→Prop)(toks:List Tk)(fv sv:Value)(fns:List RF)(fs:List FS)(fb:Nat)(fc:Array Value)(tv:Value)(takes:List Tk)(bv:Value)(body:List Nat)(c:CS)(w w':World):Prop where
 r:VA pb wb B pl ca g n cap U toks fv sv fns fs c w w'
 l9:Ar fb fc 67 w'
 ZB:DO B w' tv takes
 YU:AD B w' bv body
theorem Xm.call{j a B k f g n r}{U:Nat→Prop}{v b l z t i d s x u p o c q w y m}(h:Xm j a B k f g n r U v b l z i d s x u p o c w y)(D:w.heap.size≤B)(F:w.heap.size≤a)(A:d≠a)(C:b.ownBlock≠some d)(E:RK j a B k f U b l t i q m)(e:DE a B b y m):Xm j a B k f g n r U v b l t i d s x u p o q w m:=
 ⟨h.r.call D F E e,e.l9 h.l9 A C (by decide),e.row h.ZB h.r.k.wr h.r.k.fn (by decide) (by decide) (by decide),e.row h.YU h.r.k.wr h.r.k.fn (by decide) (by decide) (by decide)⟩
theorem M3(l:List PT)(i:Nat)(h:i<l.length):Ai (l.map An) i=An l[i]:=by unfold Ai;rw [bY,aY h];rfl
theorem GC(s)(hs:s.size≤4000)(w d Z)(a3:∀l,Bz s s.size 0 []=.inr l→(JK s l).2.1.Ya=none→Pe d (JK s l).1 (JK s l).2.2 Z):
 Calls Tryz.prog 5 #[.string s] w fun e w'=>KV w s d Z e w':=by
 have h4:decide ((4000:Int)<(s.size:Int))=false:=by simp;omega
 unfold KV;have h5:=Aa a3;clear a3;cases hV:Bz s s.size 0 [] with
 | inl p=> simp only;have HV:=Aa hV;clear hV;go_enter Tryz.func5,Tryz.ntmps5;go_wp2_with fail;refine (Fl s hs _).mono ?_;rw [HV.o];rintro e o ⟨rfl,hb⟩;go_wp2;exact bC (v:=.tuple #[.pointer none,.slice none 0 0,.int .i64 2,.int .i64 p]) (by simp [results,Tryz.results5,go_sem]) rfl ⟨rfl,hb⟩
 | inr l=>
   simp only;have a3:=h5.o l hV;have k2:=Ht s s.size 0 [] l (by omega) hV;simp only [bM] at k2;have HV:=Aa hV;clear hV h5;obtain ⟨P,hP⟩:∃P,JK s l=P:=⟨_,rfl⟩;have e8:CE (EZ s l) (2*(l.length+1)) (l.length+1) ⟨0,none,0,0⟩ [] []=P:=hP;obtain ⟨r,y,fs⟩:=P;obtain ⟨n,hn⟩:∃n,l.length+1=n:=⟨_,rfl⟩;obtain ⟨AL,e7⟩:∃a,BJ r d Z 0 (r,⟨0,0⟩)=a:=⟨_,rfl⟩;have hA:Sn s l d Z=AL:=by unfold Sn;rw [hP];exact e7
   have hC:Uv s l d Z=MJ r s.size AL.2:=by unfold Uv;rw [hA,hP]
   rw [hP] at a3;rw [hP,hA,hC];rw [hn] at e8;simp only at a3⊢;have h0:=Aa e8;have g3:dJ (BJ r d (Z.drop 0) 0 (r,⟨0,0⟩)=AL):=e7;clear hP e8 hA hC e7;cases b9:y.Ya with
   | some b=>
     have l2:decide ((0:Int)≤(b:Int))=true:=by simp
     have d7:=Aa b9;clear a3 b9;simp only;go_enter Tryz.func5,Tryz.ntmps5;go_wp2_with fail;refine (Fl s hs _).mono ?_;rw [HV.o];rintro e o ⟨v,rfl,K,hb⟩;rw [hn] at K;obtain ⟨va,B,E,rfl⟩:=Ad K;have b6:=Ah K;subst b6;obtain ⟨g,rfl⟩:=As K (by omega);have c8:=(K.lt g rfl).1;have HT:dJ (AP g B E (EZ s l) o):=⟨Ax K (bI _),by simp [EZ];omega,by omega⟩;have hz:(Ai (EZ s l) (B-1)).sort=0:=by unfold Ai EZ;rw [show B-1=l.length by omega,cV (aV _)];simp
     have a9:=Aa hb;have T:=hb.size;clear K hb;go_wp2_with fail;refine (IF g B E (EZ s l) o HT.o (by omega) hz).mono ?_;rw [h0.o];rintro e w2 ⟨fv,G,U,rfl,hp,a0,a5,ho⟩;simp only at hp a0 a5⊢;have g4:dJ (Below w.heap.size w w2):=a9.o.trans (ho.Yv T (fun _ q=>q.elim));simp only [d7.o,Fv];go_wp2;exact bC (v:=.tuple #[.pointer none,.slice none 0 0,.int .i64 3,.int .i64 b]) (by simp [results,Tryz.results5,go_sem]) rfl ⟨rfl,g4.o⟩
   | none=>
     have hy:=a3 b9;have k1:=hy.len;have f3:=hy.Yx;have HY:=Aa hy;have d7:=Aa b9;clear a3 b9 hy;simp only;obtain ⟨C,F⟩:∃c,MJ r s.size AL.2=c:=⟨_,rfl⟩;rw [F];have c7:=Aa F;clear F;go_enter Tryz.func5,Tryz.ntmps5;go_wp2_with fail;refine (Fl s hs _).mono ?_;rw [HV.o];rintro e o ⟨v,rfl,K,hb⟩;rw [hn] at K;obtain ⟨va,B,E,rfl⟩:=Ad K;have b6:=Ah K;subst b6;obtain ⟨g,rfl⟩:=As K (by omega);have c8:=(K.lt g rfl).1;have HT:dJ (AP g B E (EZ s l) o):=⟨Ax K (bI _),by simp [EZ];omega,by omega⟩;have hz:(Ai (EZ s l) (B-1)).sort=0:=by unfold Ai EZ;rw [show B-1=l.length by omega,cV (aV _)];simp
     have a9:=Aa hb;have T:=hb.size;clear K hb;go_wp2_with fail;refine (IF g B E (EZ s l) o HT.o (by omega) hz).mono ?_;rw [h0.o];rintro e w2 ⟨fv,G,U,rfl,hp,a0,a5,ho⟩;simp only at hp a0 a5⊢;have g4:dJ (Below w.heap.size w w2):=a9.o.trans (ho.Yv T (fun _ q=>q.elim));simp only [d7.o,Fv];have R0:dJ (VA o.heap.size w2.heap.size o.heap.size y.pl y.ca g B E U (EZ s l) fv G r fs ⟨0,0⟩ o (w2.alloc (.cells #[.int .i64 0,.int .i64 0] 58))):=by have Y:=(Ab.refl (fun _=>False) w2).alloc (.cells #[.int .i64 0,.int .i64 0] 58);exact ⟨⟨hp.l9.f8 Y (fun q=>q),a5.p6 Y,a0.p6 Y,Ar.new _ _ _⟩,(HT.o.f8 ho (fun q=>q)).f8 Y (fun q=>q),ho.YF Y⟩
     have b8:o.heap.size≤w2.heap.size:=ho.size;obtain ⟨fa,fl,fc,rfl⟩:∃a l c,fv=.slice a l c:=by obtain ⟨_,h,_⟩:=a5;exact Ad h
     have k0:fl=r.length:=by obtain ⟨_,h,_⟩:=a5;exact Ah h
     subst k0;have S0:dJ (Gp r r 0):=⟨rfl,fun j _ _=>⟨rfl,rfl,rfl,rfl,fun _=>rfl⟩⟩;clear hp a0 a5 ho HT;go_wp2;generalize w2.heap.size=Q at*;go_loopw [12] (fun i wr=>∃(k:Nat) (u:List RF) (c:CS),k≤r.length∧i=.int .i64 k∧dJ (VA o.heap.size Q o.heap.size y.pl y.ca g B E U (EZ s l) (.slice fa r.length fc) G u fs c o wr)∧dJ (Gp r u k)∧dJ (BJ r d (Z.drop k) k (u,c)=AL)) (fun i _=>r.length-(intOf i).toNat)
     case atStart=>exact ⟨0,r,_,by omega,rfl,R0,S0,g3⟩
     case round=>
      clear R0 S0 g3;obtain ⟨k,u,c,hk,rfl,x,L,HC⟩:=hrel;have p0:=x.o.k.pr.l9.cell 0;simp at p0;have lp:=Ae x.o.k.pr;have lw:=Ae x.o.k.wr;by_cases f6:k<r.length
      ·have i5:k<Z.length:=by omega
       have a6:=HY.o.fr k f6 i5;have c4:k<u.length:=by rw [L.o.len];exact f6
       have b5:=L.o.eq k c4 f6;have f9:=PU r d Z k i5 (u,c);rw [HC.o] at f9;generalize Z[k]=t at*;obtain ⟨M,rfl⟩:∃M,fa=some ⟨M,0,none⟩:=by obtain ⟨_,h,_⟩:=x.o.k.fn;exact As h (by rw [L.o.len];omega)
       have l0:M<wr.heap.size:=by obtain ⟨_,h,_⟩:=x.o.k.fn;exact (h.lt M rfl).2
       obtain ⟨tv,bv,vv,hc,a1,c0,b7⟩:=x.o.k.fn.get c4;have e9:u[k].name=An t.name:=b5.1.trans a6.name;have f0:u[k].Yn=t.p8.map An:=b5.2.1.trans a6.Yn;have f1:Cz (CL k d fs) u[k].Yd t.Yg:=by rw [b5.2.2.1];exact a6.Yd
       have f2:u[k].m9=[]:=(b5.2.2.2.2 (aV _)).trans a6.m9;have h8:u[k].Yd.length≤4001:=by rw [b5.2.2.1];exact a6.Z6
       have j7:=Aa (Wr c4 f2);have l3:=a6.ZX;generalize u[k]=f at hc a1 c0 b7 e9 f0 f1 f2 h8;obtain ⟨ta,tl,tc,rfl⟩:=Ad a1;have d3:=Ah a1;subst d3;obtain ⟨ba,bl,bc,rfl⟩:=Ad c0;have j9:=Ah c0;subst j9;obtain ⟨xa,xl,xc,rfl⟩:=Ad b7;have e0:=hc 0 (by omega);have e1:=hc 1 (by omega);have e2:=hc 2 (by omega);have e3:=hc 3 (by omega);have e4:=hc 4 (by omega);have e5:=hc 5 (by omega);have e6:=hc 6 (by omega);simp only [JB,aU,aS,aT,bK] at e0 e1 e2 e3 e4 e5 e6;have l6:(k:Int)<(r.length:Int):=by omega
       have d2:wr.heap.size≠Q:=by omega
       have d1:Value.ownBlock (.slice (some ⟨M,0,none⟩) r.length fc)≠some wr.heap.size:=fun q=>by simp [Value.ownBlock] at q;omega
       have D:dJ (Xm o.heap.size Q o.heap.size y.pl y.ca g B E U (EZ s l) (.slice (some ⟨M,0,none⟩) r.length fc) G u fs wr.heap.size #[.string f.name.i6,.int .i64 f.name.pos,.int .i64 f.name.sort,.slice ta f.Yn.length tc,.slice ba f.Yd.length bc,.int .i64 f.br,.slice xa xl xc] (.slice ta f.Yn.length tc) f.Yn (.slice ba f.Yd.length bc) f.Yd c o (wr.alloc (.cells #[.string f.name.i6,.int .i64 f.name.pos,.int .i64 f.name.sort,.slice ta f.Yn.length tc,.slice ba f.Yd.length bc,.int .i64 f.br,.slice xa xl xc] 67))):=by have Y:=(Ab.refl (fun _=>False) wr).alloc (.cells #[.string f.name.i6,.int .i64 f.name.pos,.int .i64 f.name.sort,.slice ta f.Yn.length tc,.slice ba f.Yd.length bc,.int .i64 f.br,.slice xa xl xc] 67);exact ⟨⟨x.o.k.p6 Y,x.o.tk.f8 Y (fun q=>q),x.o.f8.YF Y⟩,Ar.new _ _ _,Ac a1 Y (fun _ _ q=>q),Ac c0 Y (fun _ _ q=>q)⟩
       have h2:=Aa f9;have g6:=Aa e9;have g7:=Aa f0;have j3:=Aa f1;have f5:∀c6,k<(wv u k c6).length:=fun c6=>by rw [DJ];exact c4
       have k5:∀c6,(wv u k c6).length≤4001:=fun c6=>by rw [DJ,L.o.len];exact f3
       have b2:u.length≤4001:=by rw [L.o.len];exact f3
       clear hc a1 c0 b7 f9 HC x a6 b5 e9 f0 f1 f2;have g9:dJ (((f.name.pos:Nat):Int)=((t.name.i9:Nat):Int)):=by rw [g6.o];rfl
       obtain ⟨c1,a4⟩:∃c1,(if 12≤k then Bg 4 t.name.i9 c else c)=c1:=⟨_,rfl⟩;obtain ⟨c9,H⟩:∃c9,(if CB (r.map fun f=>f.name.i6) f.name.i6 0=(k:Int) then c1 else Bg 5 t.name.i9 c1)=c9:=⟨_,rfl⟩;have H9:dJ (Fm r k t c=c9):=by show _=_;unfold Fm;rw [show t.name.i6=f.name.i6 by rw [g6.o];rfl,a4,H]
       have g5:=Aa H;clear H;by_cases h6:12≤k;focus
        rw [cU h6] at a4;have k9:decide ((12:Int)≤(k:Int))=true:=by simp;omega
        have d8:=Aa a4;clear a4;go_wp2_with fail;obtain ⟨W0,d9⟩:∃W0,wr.alloc (.cells #[.string f.name.i6,.int .i64 f.name.pos,.int .i64 f.name.sort,.slice ta f.Yn.length tc,.slice ba f.Yd.length bc,.int .i64 f.br,.slice xa xl xc] 67)=W0:=⟨_,rfl⟩;rw [d9] at D⊢;have b0:=D.o.l9.cell 0;have b1:=D.o.l9.cell 1;have R:=D.o.l9.cell 3;have S:=D.o.l9.cell 4;have a8:=Ae D.o.l9;simp only [aU,aS,aT] at b0 b1 R S;have g2:=Ae D.o.r.k.pr;rw [g9.o];refine (Cf Q 4 t.name.i9 c _ D.o.r.k.wr).mono ?_;rintro e w3 ⟨rfl,i7,f7⟩;have I:=Aa (D.o.call (aV _) b8 d2 d1 (D.o.r.k.add i7 f7) (DE.Yu f7));rw [d8.o] at I;clear i7 f7 b0 b1 R S a8;have b0:=I.o.l9.cell 0;have b1:=I.o.l9.cell 1;have R:=I.o.l9.cell 3;have S:=I.o.l9.cell 4;have a8:=Ae I.o.l9;simp only [aU,aS,aT] at b0 b1 R S;have g2:=Ae I.o.r.k.pr;go_wp2_with fail
       rotate_left;focus
        rw [cT h6] at a4;have k9:decide ((12:Int)≤(k:Int))=false:=by simp;omega
        have d8:=Aa a4;clear a4;go_wp2_with fail;obtain ⟨W0,d9⟩:∃W0,wr.alloc (.cells #[.string f.name.i6,.int .i64 f.name.pos,.int .i64 f.name.sort,.slice ta f.Yn.length tc,.slice ba f.Yd.length bc,.int .i64 f.br,.slice xa xl xc] 67)=W0:=⟨_,rfl⟩;rw [d9] at D⊢;have b0:=D.o.l9.cell 0;have b1:=D.o.l9.cell 1;have R:=D.o.l9.cell 3;have S:=D.o.l9.cell 4;have a8:=Ae D.o.l9;simp only [aU,aS,aT] at b0 b1 R S;have g2:=Ae D.o.r.k.pr;have I:=D;rw [d8.o] at I
       all_goals
        refine (Dl o.heap.size o.heap.size y.pl y.ca _ G u f.name.i6 _ I.o.r.k.pr I.o.r.k.fn b2).mono ?_;rw [L.o.p9];rintro e w4 ⟨rfl,O⟩;have O:=O.symm;subst O;have H:=g5.o;clear g5;by_cases d5:CB (r.map fun f=>f.name.i6) f.name.i6 0=(k:Int);focus
         rw [cU d5] at H;have k8:((CB (r.map fun f=>f.name.i6) f.name.i6 0:Int) !=(k:Int))=false:=by simp [d5]
         have V:=I;rw [H] at V;clear H
        rotate_left;focus
         rw [cT d5] at H;have k8:((CB (r.map fun f=>f.name.i6) f.name.i6 0:Int) !=(k:Int))=true:=by simp [d5]
         have c7:=Aa H;clear H;go_wp2_with fail;rw [g9.o];refine (Cf Q 5 t.name.i9 c1 _ I.o.r.k.wr).mono ?_;rintro e w5 ⟨rfl,i8,f8⟩;have V:=Aa (I.o.call (aV _) b8 d2 d1 (I.o.r.k.add i8 f8) (DE.Yu f8));rw [c7.o] at V;clear i8 f8 b0 b1 R S a8;have b0:=V.o.l9.cell 0;have b1:=V.o.l9.cell 1;have R:=V.o.l9.cell 3;have S:=V.o.l9.cell 4;have a8:=Ae V.o.l9;simp only [aU,aS,aT] at b0 b1 R S;have g2:=Ae V.o.r.k.pr
       all_goals
        clear b0 b1 R S a8;obtain ⟨vp,cp,d4⟩:∃a b,CJ t.p8 ([],c9)=(a,b):=⟨_,_,rfl⟩;have b6:=K7 t.p8 ([],c9);rw [d4] at b6;simp only [bM,cB] at b6;have l8:f.Yn.length=t.p8.length:=by rw [g7.o];simp
        have g8:dJ (CJ (t.p8.drop 0) ([],c9)=(vp,cp)):=d4;have d6:=V;rw [←j7.o] at d6;have j2:dJ (BJ r d (Z.drop (k+1)) (k+1) (wv u k (FH r d 1 t.Yg (vp,cp)).1,(FH r d 1 t.Yg (vp,cp)).2)=AL):=by have:=h2.o;unfold Ei at this;simp only [H9.o,d4] at this;exact this.symm
        clear d4 h2;go_wp2;go_loopw [14] (fun j l1=>∃(m:Nat) (N:List ByteArray) (c2:CS),m≤f.Yn.length∧j=.int .i64 m∧dJ (Xm o.heap.size Q o.heap.size y.pl y.ca g B E U (EZ s l) (.slice (some ⟨M,0,none⟩) r.length fc) G (wv u k N) fs wr.heap.size #[.string f.name.i6,.int .i64 f.name.pos,.int .i64 f.name.sort,.slice ta f.Yn.length tc,.slice ba f.Yd.length bc,.int .i64 f.br,.slice xa xl xc] (.slice ta f.Yn.length tc) f.Yn (.slice ba f.Yd.length bc) f.Yd c2 o l1)∧N.length=m∧dJ (CJ (t.p8.drop m) (N,c2)=(vp,cp))) (fun j _=>f.Yn.length-(intOf j).toNat)
        case atStart=>exact ⟨0,[],c9,by omega,rfl,d6,rfl,g8⟩
        case round=>
         clear V d6 g8;obtain ⟨m,N,c2,hm,rfl,J,k7,HQ⟩:=hrel;have R:=J.o.l9.cell 3;have S:=J.o.l9.cell 4;simp only [aU,aS,aT] at R S;have a8:=Ae J.o.l9;have m0:=Ae J.o.r.k.pr;have m1:=Ae J.o.r.k.wr;by_cases k4:m<f.Yn.length
         ·obtain ⟨gt,rfl⟩:=As J.o.ZB (by omega);obtain ⟨t0,t1,t2⟩:=DA J.o.ZB k4;have l9:=(J.o.ZB.lt gt rfl).2;have i6:m<t.p8.length:=by omega
          have a0:=PZ t.p8 m i6 (N,c2);rw [HQ.o] at a0;have g0:Ai f.Yn m=An t.p8[m]:=by rw [g7.o];exact M3 _ _ i6
          generalize Ai f.Yn m=q at t0 t1 t2 g0;have j6:dJ (CJ (t.p8.drop (m+1)) (N++[q.i6],De N q c2)=(vp,cp)):=by rw [g0];exact a0.symm
          have k3:(m:Int)<(f.Yn.length:Int):=by omega
          have b7:((wv u k N)[k]'(f5 N)).m9=N:=Rc (f5 N);have h3:=Aa b7;clear a0 g0 HQ b7;go_wp2_with fail;refine (IE o.heap.size Q o.heap.size y.pl y.ca k U _ G (wv u k N) fs c2 q _ J.o.r.k (f5 _) (k5 _) (by rw [h3.o];omega)).mono ?_;rw [Rb,h3.o];rintro e w6 ⟨rfl,i3,h9⟩;have j4:=Aa (J.o.call (aV _) b8 d2 d1 i3 h9);clear i3 h9 J;go_wp2_with fail;exact ⟨⟨m+1,_,_,by omega,by go_num,j4,by simp [k7],j6⟩,by simp [intOf];omega⟩
         ·have e:m=t.p8.length:=by omega
          have hq:N=vp∧c2=cp:=by have:=HQ.o;rw [e,cZ] at this;simpa [CJ] using this
          obtain ⟨rfl,rfl⟩:=hq;have k3:decide ((m:Int)<(f.Yn.length:Int))=false:=by simp;omega
          clear HQ;go_wp2_with fail;refine (Ua d o.heap.size Q o.heap.size y.pl y.ca k 1 U _ G _ u fs f.Yd t.Yg N c2 _ J.o.r.k J.o.YU j3.o c4 b2 HY.o.Z9 (by omega) h8 HY.o.aQ (by have:=HY.o.dd;omega)).mono ?_;rw [L.o.aH];rintro e w7 ⟨rfl,i4,i0⟩;have j5:=Aa (J.o.call (aV _) b8 d2 d1 i4 i0);clear i4 i0 J;go_wp2_with fail;exact ⟨⟨k+1,_,_,by omega,by go_num,j5.o.r,L.o.i8 _,j2⟩,by simp [intOf];omega⟩
      ·have e:k=r.length:=by omega
       have j8:AL=(u,c):=by have:=HC.o;rw [e,k1,cZ] at this;exact this.symm
       subst j8;have l7:decide ((k:Int)<(r.length:Int))=false:=by simp;omega
       have b2:u.length≤4001:=by rw [L.o.len];exact f3
       have F:=c7.o;unfold MJ at F;have d0:=Dt (r.map fun f=>f.name.i6) ⟨#[109,97,105,110]⟩ 0;clear HC c7;simp only at F;by_cases g1:0≤CB (r.map fun f=>f.name.i6) ⟨#[109,97,105,110]⟩ 0
       ·obtain ⟨i,hi⟩:∃i:Nat,CB (r.map fun f=>f.name.i6) ⟨#[109,97,105,110]⟩ 0=i:=⟨(CB (r.map fun f=>f.name.i6) ⟨#[109,97,105,110]⟩ 0).toNat,by omega⟩;have f4:i<r.length:=by have:=d0.2.2;simp only [bW] at this;omega
        have i2:i<u.length:=by rw [L.o.len];exact f4
        have i9:=L.o.eq i i2 f4;obtain ⟨M,rfl⟩:∃M,fa=some ⟨M,0,none⟩:=by obtain ⟨_,h,_⟩:=x.o.k.fn;exact As h (by omega)
        have l0:M<wr.heap.size:=by obtain ⟨_,h,_⟩:=x.o.k.fn;exact (h.lt M rfl).2
        obtain ⟨tv,bv,vv,h7,a1,_,_⟩:=x.o.k.fn.get i2;have e3:=h7 3 (by omega);simp only [JB,aU,aS,aT] at e3;obtain ⟨ta,tl,tc,rfl⟩:=Ad a1;have d3:=Ah a1;have i1:(((r.map fun f=>f.Yn.length)[i]?).getD 0:Nat)=tl:=by rw [bY,aY f4,d3,i9.2.1];rfl
        rw [hi] at F;simp only [Int.toNat_natCast,i1] at F;have l5:(i:Int)<(r.length:Int):=by omega
        have l4:decide ((i:Int)<0)=false:=by simp
        clear h7 a1 i9 i1 g1 d0 d3;by_cases j0:tl=0
        ·rw [cU ⟨by omega,j0⟩] at F;have k6:decide ((0:Int)<(tl:Int))=false:=by simp;omega
         go_wp2_with fail;refine (Dl o.heap.size o.heap.size y.pl y.ca _ G u ⟨#[109,97,105,110]⟩ _ x.o.k.pr x.o.k.fn b2).mono ?_;rw [L.o.p9,hi];rintro e w9 ⟨rfl,O⟩;subst O;have z:dJ (VA o.heap.size Q o.heap.size y.pl y.ca g B E U (EZ s l) (.slice (some ⟨M,0,none⟩) r.length fc) G u fs C o w9):=by rw [←F];exact x.o
         clear F;have r0:=Ar.cell z.o.k.wr 0;have r1:=Ar.cell z.o.k.wr 1;have j1:=Ae z.o.k.wr;simp only [aU,aS,aT] at r0 r1;have a2:dJ (∀X,Ab (fun _=>False) w9 X→Below w.heap.size w X):=fun X hW=>a9.o.trans ((z.o.f8.YF hW).Yv T (fun _ q=>q.elim))
         by_cases A:C.Ym=0
         ·have c3:((C.Ym:Int) !=0)=false:=by simp [A]
          have W:=Aa A;clear A;go_wp2_with fail;refine bC (v:=.tuple #[.pointer (some ⟨o.heap.size,0,none⟩),.slice (some ⟨g,0,none⟩) B E,.int .i64 0,.int .i64 0]) (by simp [results,Tryz.results5,go_sem]) rfl ?_;unfold Hd;rw [cU W.o,hn];exact ⟨o.heap.size,o.heap.size,g,E,U,_,G,rfl,z.o.tk,c8,z.o.k.pr,T,z.o.k.fn,T,z.o.k.st,a2.o _ (Ab.refl _ _)⟩
         ·have c3:((C.Ym:Int) !=0)=true:=by simp [A]
          have W:=Aa A;clear A;go_wp2_with fail;go_region;go_wp2;refine bC (v:=.tuple #[.pointer none,.slice none 0 0,.int .i64 C.Ym,.int .i64 C.i9]) (by simp [results,Tryz.results5,go_sem]) rfl ?_;unfold Hd;rw [cT W.o];exact ⟨rfl,a2.o _ (by repeat (first | exact Ab.refl _ _ | refine Ab.drew ?_ | refine Ab.drewN ?_ _ | refine Ab.alloc ?_ _))⟩
        ·rw [cT (fun q=>j0 q.2)] at F;have H:=F.symm;have k6:decide ((0:Int)<(tl:Int))=true:=by simp;omega
         clear F;go_wp2_with fail;refine (Dl o.heap.size o.heap.size y.pl y.ca _ G u ⟨#[109,97,105,110]⟩ _ x.o.k.pr x.o.k.fn b2).mono ?_;rw [L.o.p9,hi];rintro e w8 ⟨rfl,O⟩;have O:=O.symm;subst O;go_wp2_with fail;refine (Cf Q 6 s.size c _ x.o.k.wr).mono ?_;rintro e w9 ⟨rfl,c5,a7⟩;have z:dJ (VA o.heap.size Q o.heap.size y.pl y.ca g B E U (EZ s l) (.slice (some ⟨M,0,none⟩) r.length fc) G u fs C o w9):=by rw [H];exact x.o.call (aV _) b8 (x.o.k.add c5 a7) (DE.Yu a7)
         clear c5 a7 p0 lp lw x H;have r0:=Ar.cell z.o.k.wr 0;have r1:=Ar.cell z.o.k.wr 1;have j1:=Ae z.o.k.wr;simp only [aU,aS,aT] at r0 r1;have a2:dJ (∀X,Ab (fun _=>False) w9 X→Below w.heap.size w X):=fun X hW=>a9.o.trans ((z.o.f8.YF hW).Yv T (fun _ q=>q.elim))
         by_cases A:C.Ym=0
         ·have c3:((C.Ym:Int) !=0)=false:=by simp [A]
          have W:=Aa A;clear A;go_wp2_with fail;refine bC (v:=.tuple #[.pointer (some ⟨o.heap.size,0,none⟩),.slice (some ⟨g,0,none⟩) B E,.int .i64 0,.int .i64 0]) (by simp [results,Tryz.results5,go_sem]) rfl ?_;unfold Hd;rw [cU W.o,hn];exact ⟨o.heap.size,o.heap.size,g,E,U,_,G,rfl,z.o.tk,c8,z.o.k.pr,T,z.o.k.fn,T,z.o.k.st,a2.o _ (Ab.refl _ _)⟩
         ·have c3:((C.Ym:Int) !=0)=true:=by simp [A]
          have W:=Aa A;clear A;go_wp2_with fail;go_region;go_wp2;refine bC (v:=.tuple #[.pointer none,.slice none 0 0,.int .i64 C.Ym,.int .i64 C.i9]) (by simp [results,Tryz.results5,go_sem]) rfl ?_;unfold Hd;rw [cT W.o];exact ⟨rfl,a2.o _ (by repeat (first | exact Ab.refl _ _ | refine Ab.drew ?_ | refine Ab.drewN ?_ _ | refine Ab.alloc ?_ _))⟩
       ·have hi:CB (r.map fun f=>f.name.i6) ⟨#[109,97,105,110]⟩ 0= -1:=by have:=d0.2.1;omega
        rw [cT (fun q=>g1 q.1)] at F;have H:=F.symm;clear F g1 d0;go_wp2_with fail;refine (Dl o.heap.size o.heap.size y.pl y.ca _ G u ⟨#[109,97,105,110]⟩ _ x.o.k.pr x.o.k.fn b2).mono ?_;rw [L.o.p9,hi];rintro e w8 ⟨rfl,O⟩;have O:=O.symm;subst O;go_wp2_with fail;refine (Cf Q 6 s.size c _ x.o.k.wr).mono ?_;rintro e w9 ⟨rfl,c5,a7⟩;have z:dJ (VA o.heap.size Q o.heap.size y.pl y.ca g B E U (EZ s l) (.slice fa r.length fc) G u fs C o w9):=by rw [H];exact x.o.call (aV _) b8 (x.o.k.add c5 a7) (DE.Yu a7)
        clear c5 a7 p0 lp lw x H;have r0:=Ar.cell z.o.k.wr 0;have r1:=Ar.cell z.o.k.wr 1;have j1:=Ae z.o.k.wr;simp only [aU,aS,aT] at r0 r1;have a2:dJ (∀X,Ab (fun _=>False) w9 X→Below w.heap.size w X):=fun X hW=>a9.o.trans ((z.o.f8.YF hW).Yv T (fun _ q=>q.elim))
        by_cases A:C.Ym=0
        ·have c3:((C.Ym:Int) !=0)=false:=by simp [A]
         have W:=Aa A;clear A;go_wp2_with fail;refine bC (v:=.tuple #[.pointer (some ⟨o.heap.size,0,none⟩),.slice (some ⟨g,0,none⟩) B E,.int .i64 0,.int .i64 0]) (by simp [results,Tryz.results5,go_sem]) rfl ?_;unfold Hd;rw [cU W.o,hn];exact ⟨o.heap.size,o.heap.size,g,E,U,_,G,rfl,z.o.tk,c8,z.o.k.pr,T,z.o.k.fn,T,z.o.k.st,a2.o _ (Ab.refl _ _)⟩
        ·have c3:((C.Ym:Int) !=0)=true:=by simp [A]
         have W:=Aa A;clear A;go_wp2_with fail;go_region;go_wp2;refine bC (v:=.tuple #[.pointer none,.slice none 0 0,.int .i64 C.Ym,.int .i64 C.i9]) (by simp [results,Tryz.results5,go_sem]) rfl ?_;unfold Hd;rw [cT W.o];exact ⟨rfl,a2.o _ (by repeat (first | exact Ab.refl _ _ | refine Ab.drew ?_ | refine Ab.drewN ?_ _ | refine Ab.alloc ?_ _))⟩
theorem So(s y):EZ s ((Da s s.size y).Yq.map An)=(AC s y).map An:=by unfold EZ AC;rw [dD,List.map_singleton,Il];rfl
structure Xk(s:ByteArray)(y:Sc):Prop where
 ok:TksOk s.size (AC s y)
 aP:DigOk (AC s y)
 len:(AC s y).length≤4001
 lex:Bz s s.size 0 []=.inr ((Da s s.size y).Yq.map An)
 y6:((Da s s.size y).Yq.map An).length+1=(AC s y).length
theorem T3{s y}(d:s.size≤4000)(h:AK s s.size 0 x0=.inr y):Xk s y:=by
 have a:Bz s s.size 0 []=.inr ((Da s s.size y).Yq.map An):=by rw [Jt];have b:AK s s.size 0 ⟨[],false,0,0⟩=.inr y:=h;rw [b];rfl
 have c:((Da s s.size y).Yq.map An).length+1=(AC s y).length:=by simp [AC]
 have:=Ht s s.size 0 [] _ (bI _) a;simp only [bM] at this;exact ⟨Qj h,Ff h,by omega,a,c⟩
theorem RH(s)(d:4000<s.size)(c:s.size≤maxLen)(w):Calls Tryz.prog 9 #[.string s] w fun e j=>e=.returned (.tuple #[.slice none 0 0,Vq,.int .i64 1,.int .i64 0])∧Below w.heap.size w j:=by have g:=Aa d;have f:=Aa c;clear d c;go_enter Tryz.func9,Tryz.ntmps9;go_wp2_with fail;refine (OO s g.o f.o _).mono ?_;rintro e l ⟨rfl,b⟩;have b:=b.symm;subst b;have a:=Ar.new w #[.slice none 0 0,.int .i64 0] 44;have h:=a.cell 0;have i:=a.cell 1;have k:=a.frozen;simp only [aU,aS,aT] at h i;clear a;go_wp2;refine bC (v:=.tuple #[.slice none 0 0,Vq,.int .i64 1,.int .i64 0]) (by simp [results,Tryz.results9,go_sem]) rfl ⟨rfl,?_⟩;exact (Below.refl w.heap.size w).alloc (aV _) _
theorem Wa(s)(d:4000<s.size)(a:s.size≤maxLen)(w):
 Calls Tryz.prog 5 #[.string s] w fun e b=>e=.returned (.tuple #[.pointer none,.slice none 0 0,.int .i64 1,.int .i64 0])∧b=w:=by
 unfold maxLen at a;have c:decide ((4000:Int)<(s.size:Int))=true:=by simp;omega
 go_enter Tryz.func5,Tryz.ntmps5;go_wp2;exact bC (v:=.tuple #[.pointer none,.slice none 0 0,.int .i64 1,.int .i64 0]) (by simp [results,Tryz.results5,go_sem]) rfl ⟨rfl,rfl⟩
theorem Ps{B w e d}(h:Cp B w e d)(f:0<d.length):B≤w.heap.size:=by obtain ⟨_,b,_⟩:=h;obtain ⟨a,l,c,rfl⟩:=Ad b;obtain ⟨g,rfl⟩:=As b f;have:=b.lt g rfl;omega
theorem Qr(v J)(hF:Cv v J)(s)(hm:s.size≤maxLen):
 (∃f p:Nat,f≠0∧(∀w,Below v J w→v≤w.heap.size→Calls Tryz.prog 9 #[.string s] w fun e j=>e=.returned (.tuple #[.slice none 0 0,Vq,.int .i64 f,.int .i64 p])∧Below w.heap.size w j)∧
   (∀w,Calls Tryz.prog 5 #[.string s] w fun e j=>e=.returned (.tuple #[.pointer none,.slice none 0 0,.int .i64 f,.int .i64 p])∧Below w.heap.size w j))∨
 (∃(d:List TF) (m:List RF) (A:List FS) (r:Nat),GoodP d∧(∀t,t∈d→∀u,u∈t.Yg→Nb 4000 u)∧OZ (CC d) (Ul d) (Gm d 0 0) m A∧
   (∀w,Below v J w→v≤w.heap.size→Calls Tryz.prog 9 #[.string s] w fun e j=>∃(g n z:Nat) (a:Option Addr) (l c:Nat) (U:Nat→Prop),e=.returned (.tuple #[.slice (some ⟨g,0,none⟩) n z,.agg #[.slice a l c,.int .i64 r],.int .i64 0,.int .i64 0])∧DF 4000 U j (.slice a l c) d∧(∀k,U k→k<j.heap.size)∧Below w.heap.size w j)∧
   (∀w,Calls Tryz.prog 5 #[.string s] w fun e j=>∃(M B g n z:Nat) (U:Nat→Prop) (P sv:Value) (p0 c0:Nat),e=.returned (.tuple #[.pointer (some ⟨M,0,none⟩),.slice (some ⟨g,0,none⟩) n z,.int .i64 0,.int .i64 0])∧Ls M B U P sv m A p0 c0 j∧w.heap.size≤M∧w.heap.size≤B∧B≤j.heap.size∧Below w.heap.size w j)):=by
 by_cases h4:4000<s.size
 ·refine .inl ⟨1,0,by decide,fun w _ _=>RH s h4 hm w,fun w=>(Wa s h4 hm w).mono ?_⟩;rintro e j ⟨rfl,rfl⟩;exact ⟨rfl,Below.refl _ _⟩
 have o:s.size≤4000:=by omega
 cases D:AK s s.size 0 x0 with
 | inl p=>
   have hl:Bz s s.size 0 []=.inl p:=by rw [Jt];have h':AK s s.size 0 ⟨[],false,0,0⟩=.inl p:=D;rw [h'];rfl
   refine .inl ⟨2,p,by decide,fun w _ _=>MR s p o D w,fun w=>(GC s o w 0 [] (fun l h=>by rw [hl] at h;cases h)).mono ?_⟩;intro e j i;unfold KV at i;rw [hl] at i;exact i
 | inr y=>
   have K:=T3 o D;have W:=K.ok.end_;obtain ⟨d,r,x,F⟩:∃a b c,Dv (AC s y) (AC s y).length ⟨0,false,0⟩=(a,b,c):=⟨_,_,_,rfl⟩;obtain ⟨m,yy,A,R⟩:∃a b c,CE ((AC s y).map An) (2*(AC s y).length) (AC s y).length ⟨0,none,0,0⟩ [] []=(a,b,c):=⟨_,_,_,rfl⟩;obtain ⟨p1,p2⟩:=Sl K.ok K.aP o K.len d r x F m yy A R
   have H:JK s ((Da s s.size y).Yq.map An)=(m,yy,A):=by unfold JK;rw [So,K.y6];exact R
   cases I:x.Ye with
   | true=>
     have a4:=p1 I;refine .inl ⟨3,x.Yy,by decide,fun w L C=>KW v J hF s y o D d r x F I w L C W,fun w=>(GC s o w 0 [] (fun l h=>by rw [K.lex] at h;cases h;rw [H];intro q;simp only at q;rw [a4] at q;cases q)).mono ?_⟩
     intro e j i;unfold KV at i;rw [K.lex] at i;simp only [H,a4] at i;exact i
   | false=>
     obtain ⟨q1,X,Y,q4,Z⟩:=p2 I;have hA:Sn s ((Da s s.size y).Yq.map An) 4000 d=BJ m 4000 d 0 (m,⟨0,0⟩):=by unfold Sn;rw [H]
     have hC:Uv s ((Da s s.size y).Yq.map An) 4000 d=Kc d 4000 r:=by unfold Uv;rw [hA,H];exact Z.symm
     have rd:∀w,Calls Tryz.prog 5 #[.string s] w fun e j=>Hd w s ((Da s s.size y).Yq.map An) (BJ m 4000 d 0 (m,⟨0,0⟩)).1 A yy (Kc d 4000 r) e j:=by
      intro w;refine (GC s o w 4000 d (fun l h=>by rw [K.lex] at h;cases h;rw [H];intro _;exact X)).mono ?_
      intro e j i;unfold KV at i;rw [K.lex] at i;simp only [H,q1,hA,hC] at i;exact i
     by_cases E:(Kc d 4000 r).Ym=0
     ·right;have a5:=TJ (rf:=m) (N:=s.size) (c:=(BJ m 4000 d 0 (m,⟨0,0⟩)).2) (by rw [←Z];exact E);have a0:XH d:=WM X (N:=s.size) (by rw [←Z];exact E);obtain ⟨s1,s2⟩:=Uq K.ok o K.len d r x F I
      have a8:=Qk (s:=s) (y:=y) D;have G:GoodP d:=⟨a0,s1,s2,by have:=Up (toks:=AC s y) (Q:=fun b=>S7 b∧b.size≤4000) (fun t O T=>⟨a8 t O T,bJ (K.ok.len t O).1 o⟩) ⟨KA,by decide⟩ (AC s y).length ⟨0,false,0⟩;rw [F] at this;exact this⟩
      have a9:(Ai ((AC s y).map An) (((AC s y).map An).length-1)).sort=0:=by rw [bW,Bx];simp [An,K.ok.end_,CO]
      have a2:=Nz a9 (AC s y).length ⟨0,none,0,0⟩ [] [] ⟨by rw [bW];exact K.ok.pos,bI _,bI _,bI _,fun _=>⟨aV _,aV _,aV _⟩⟩ ⟨rfl,rfl⟩;rw [bW,R] at a2;have a3:=W5 G X a5.1 (a2 q1);refine ⟨d,_,A,r,G,fun t O=>(Y.each t O).2.1,a3,fun w L C=>?_,fun w=>?_⟩
      ·refine (Oq v J hF s y o D d r x F I w L C W 4000 q4 Y _ rfl E).mono ?_;rintro e j ⟨g,z,a,l,c,U,rfl,_,_,V,hu,S⟩;exact ⟨g,_,z,a,l,c,U,rfl,V,fun k T=>(hu k T).2,S⟩
      ·refine (rd w).mono ?_;intro e j i;unfold Hd at i;rw [cU E] at i;obtain ⟨M,B,g,z,U,P,sv,rfl,_,_,V,a6,a1,C,a7,S⟩:=i;have h0:0<(BJ m 4000 d 0 (m,⟨0,0⟩)).1.length:=by have h1:=a3.h.Y0;have h2:=a0.main;have h3:0<(CC d).length:=List.length_pos_of_mem h2;omega
       exact ⟨M,B,g,_,z,U,P,sv,_,_,rfl,⟨V,a1,a7⟩,a6,C,Ps a1 h0,S⟩
     ·refine .inl ⟨_,_,E,fun w L C=>MQ v J hF s y o D d r x F I w L C W 4000 q4 Y _ rfl E,fun w=>(rd w).mono ?_⟩;intro e j i;unfold Hd at i;rw [cT E] at i;exact i
end Go.Proofs.YthppbgndiplgnaaGreatDoor
