/- One of the texts of the proof of runs_card_holds: BuI RwA RwB. -/
import Derived.Test.YthppbgndiplgnaaGreatDoorG40
set_option maxRecDepth 100000
set_option maxHeartbeats 4000000
namespace Go.Proofs.YthppbgndiplgnaaGreatDoor
open Go.RowKit Go.Maps
theorem PR(a:List ByteArray)(l:List TF)(k:Nat)(h:k<l.length)(c b:Nat):Bs a (l.drop k) c b=Dp a l[k] c b::Bs a (l.drop (k+1)) (Ie a l[k] c b).pl (Ie a l[k] c b).ca:=by rw [bG h];rfl
theorem PP(a:List ByteArray)(l:List TF)(k:Nat)(h:k<l.length)(c b:Nat):Gz a (l.drop k) c b=Gz a (l.drop (k+1)) (Ie a l[k] c b).pl (Ie a l[k] c b).ca:=by rw [bG h];rfl
theorem Rw{l:List ByteArray}{s:ByteArray}{k:Nat}(c:k≤l.length)(h:CB l s 0=k):s∉l.take k:=by intro b;have e:l.take k++l.drop k=l:=List.take_append_drop k l;rw [←e,QJ _ _ _ b] at h;obtain ⟨_,_,a⟩:=Dt (l.take k) s 0;rw [List.length_take] at a;omega
structure Vz(d:Nat)(fns:List TF):Prop where
 Yx:fns.length≤12
 first:∀i (h:i<fns.length),CB (fns.map fun f=>f.name.i6) fns[i].name.i6 0=i
 nm:∀t,t∈fns→t.name.i6.size≤4000
 YN:∀t,t∈fns→∀p,p∈t.p8→p.i6.size≤4000
 nd:∀t,t∈fns→(t.p8.map fun p=>p.i6).Nodup
 aN:∀t,t∈fns→t.p8.length≤12
 tok:∀t,t∈fns→∀s,s∈t.Yg→Nb d s
 ok:XU fns
 sz:∀t,t∈fns→CT t.Yg≤4000
 pl:(fns.map fun t=>nL 1 t.Yg).sum≤4000
 ca:(fns.map fun t=>nL 8 t.Yg).sum≤4000
theorem J3.YI{B w j c f}{X:Nat→Prop}(h:J3 B w c f)(i:Ab X w j)(g:∀k a t b,X k→w.heap[k]? =some (.cells a t b)→t≠3∧t≠157∧t≠9):J3 B j c f:=by obtain ⟨o,n,e,l,m⟩:=h;exact ⟨o,n,e,Am l i (fun k a b d q=>(g k a _ b d q).2.2 rfl),m.YI i (fun k a t b d q=>⟨(g k a t b d q).1,(g k a t b d q).2.1⟩)⟩
theorem AW.base{B a w c l}(h:AW B w c l)(b:a≤B):AW a w c l:=by obtain ⟨f,j,k,m⟩:=h;refine ⟨f,Ax j b,k,fun i h g=>?_⟩;obtain ⟨d,e,n⟩:=m i h g;exact ⟨d,e,Ax n b⟩
structure Xe(d:Nat)(fns:List TF)(k:Nat)(P:List PFn)(pl ca:Nat):Prop where
 len:P.length=k
 is:P++Bs (fns.map fun f=>f.name.i6) (fns.drop k) pl ca=Bs (fns.map fun f=>f.name.i6) fns 0 0
 y6:Gz (fns.map fun f=>f.name.i6) (fns.drop k) pl ca=Gz (fns.map fun f=>f.name.i6) fns 0 0
 pl:pl+((fns.drop k).map fun t=>nL 1 t.Yg).sum≤4000
 ca:ca+((fns.drop k).map fun t=>nL 8 t.Yg).sum≤4000
theorem GX(f:TF→Nat)(l:List TF)(k:Nat)(h:k<l.length):((l.drop k).map f).sum=f l[k]+((l.drop (k+1)).map f).sum:=by rw [bG h,bX,cF]
theorem Xe.Z8{d a k P i e}(h:Xe d a k P i e)(c:Vz d a)(g:k<a.length):Xj d (a.map fun f=>f.name.i6) (a.map fun f=>f.p8.length) a[k] i e:=by have b:a[k]∈a:=bD _;have j:=GX (fun t=>nL 1 t.Yg) a k g;have l:=GX (fun t=>nL 8 t.Yg) a k g;have:=h.pl;have:=h.ca;exact ⟨c.YN _ b,c.nd _ b,c.aN _ b,c.tok _ b,c.ok _ b,c.sz _ b,by omega,by omega⟩
theorem Xe.i8{d a k P c b}(h:Xe d a k P c b)(g:Vz d a)(e:k<a.length):Xe d a (k+1) (P++[Dp (a.map fun f=>f.name.i6) a[k] c b]) (Ie (a.map fun f=>f.name.i6) a[k] c b).pl (Ie (a.map fun f=>f.name.i6) a[k] c b).ca:=by
 have L:=Ef (fn:=a.map fun f=>f.name.i6) (par:=a.map fun f=>f.p8.length) a[k].Yg (CT a[k].Yg) (S8 a[k] c b) (g.ok _ (bD _));have l:=GX (fun t=>nL 1 t.Yg) a k e;have m:=GX (fun t=>nL 8 t.Yg) a k e;have i:(Ie (a.map fun f=>f.name.i6) a[k] c b).pl=c+nL 1 a[k].Yg:=L.pl;have j:(Ie (a.map fun f=>f.name.i6) a[k] c b).ca=b+nL 8 a[k].Yg:=L.ca;have:=h.pl;have:=h.ca;refine ⟨by simp [h.len],?_,?_,by omega,by omega⟩
 ·rw [←h.is,PR _ a k e];simp
 ·rw [←h.y6,PP _ a k e]
theorem V9(d:Nat)(U:Nat→Prop)(fs:Value)(a:List TF)(a3:Nat)(w:World)(hp:DF d U w fs a)(hU:∀k,U k→k<w.heap.size)(hy:Vz d a):
 Calls Tryz.prog 11 #[.agg #[fs,.int .i64 a3]] w fun e w'=>∃fv,e=.returned (.agg #[fv,.int .i64 (vx (a.map fun f=>f.name.i6) Br:Nat),.int .i64 ((Gz (a.map fun f=>f.name.i6) a 0 0).1:Nat),.int .i64 ((Gz (a.map fun f=>f.name.i6) a 0 0).2:Nat)])∧
  BB w.heap.size w' fv (Bs (a.map fun f=>f.name.i6) a 0 0)∧Ab (fun _=>False) w w':=by
 have a6:=hp;obtain ⟨i2,C,_⟩:=a6;obtain ⟨O,vl,Q,rfl⟩:=Ad C;have c4:=Ah C;subst c4;have d0:=Aa hp;have HU:=Aa hU;have T:=Aa hy;have i4:=hy.Yx;clear hp hU hy C;obtain ⟨v,c0⟩:∃v,vx (a.map fun f=>f.name.i6) Br=v:=⟨_,rfl⟩;rw [c0];have g1:=Aa c0;clear c0;obtain ⟨G,a4⟩:∃G,((w.alloc (.cells #[.slice O a.length Q,.int .i64 a3] 44)).alloc (.cells #[.slice none 0 0,.int .i64 0,.int .i64 0,.int .i64 0] 50))=G:=⟨_,rfl⟩;have c9:dJ (Ab (fun _=>False) w G):=by rw [←a4];exact ((Ab.refl _ w).alloc _).alloc _
 have b6:dJ (Ar w.heap.size #[.slice O a.length Q,.int .i64 a3] 44 G):=by rw [←a4];exact (Ar.new w _ _).alloc _
 have d1:dJ (Ar (w.heap.size+1) #[.slice none 0 0,.int .i64 0,.int .i64 0,.int .i64 0] 50 G):=by rw [←a4];have:=Ar.new (w.alloc (.cells #[.slice O a.length Q,.int .i64 a3] 44)) #[.slice none 0 0,.int .i64 0,.int .i64 0,.int .i64 0] 50;rw [show (w.alloc (.cells #[.slice O a.length Q,.int .i64 a3] 44)).heap.size=w.heap.size+1 by simp] at this;exact this
 have c3:G.heap.size=w.heap.size+2:=by rw [←a4];simp
 have g0:=b6.o.cell 0;simp only [aU,aS] at g0;have h6:=@run_makeMap Tryz.prog;generalize e5:(fun (e:Ending) (w':World)=>∃fv,e=.returned (.agg #[fv,.int .i64 (v:Nat),.int .i64 ((Gz (a.map fun f=>f.name.i6) a 0 0).1:Nat),.int .i64 ((Gz (a.map fun f=>f.name.i6) a 0 0).2:Nat)])∧BB w.heap.size w' fv (Bs (a.map fun f=>f.name.i6) a 0 0)∧Ab (fun _=>False) w w')=Po;have HP:=Aa e5;clear e5;go_enter Tryz.func11,Tryz.ntmps11;go_wp2_with fail;have mz:=Cq.none G;rw [c3] at mz;have e8:(G.alloc (.map #[] 0)).heap.size=w.heap.size+2+1:=by simp [c3]
 have bz:=Ar.new (G.alloc (.map #[] 0)) #[.map (some (w.heap.size+2)),.map none,.slice none 0 0,.slice none 0 0,.int .i64 0,.int .i64 0] 90;rw [e8] at bz;have ML:=Aa (mz.f8 ((Ab.refl (fun _=>False) _).alloc (.cells #[.map (some (w.heap.size+2)),.map none,.slice none 0 0,.slice none 0 0,.int .i64 0,.int .i64 0] 90)) (fun q=>q));have BL:=Aa bz;have OL:=Aa ((c9.o.alloc (.map #[] 0)).alloc (.cells #[.map (some (w.heap.size+2)),.map none,.slice none 0 0,.slice none 0 0,.int .i64 0,.int .i64 0] 90));have FL:=Aa ((b6.o.alloc (.map #[] 0)).alloc (.cells #[.map (some (w.heap.size+2)),.map none,.slice none 0 0,.slice none 0 0,.int .i64 0,.int .i64 0] 90));have RL:=Aa ((d1.o.alloc (.map #[] 0)).alloc (.cells #[.map (some (w.heap.size+2)),.map none,.slice none 0 0,.slice none 0 0,.int .i64 0,.int .i64 0] 90));generalize (G.alloc _).alloc _=WL at*;clear mz bz e8 c3 a4 c9 b6 d1 g0 h6;go_loopw [14] (fun i wr=>∃(k:Nat),k≤a.length∧i=.int .i64 k∧dJ (Cq (w.heap.size+2) ((a.map fun f=>f.name.i6).take k) wr)∧dJ (Ar (w.heap.size+2+1) #[.map (some (w.heap.size+2)),.map none,.slice none 0 0,.slice none 0 0,.int .i64 0,.int .i64 0] 90 wr)∧dJ (Ab (fun _=>False) w wr)∧dJ (Ar w.heap.size #[.slice O a.length Q,.int .i64 a3] 44 wr)∧dJ (Ar (w.heap.size+1) #[.slice none 0 0,.int .i64 0,.int .i64 0,.int .i64 0] 50 wr)) (fun i _=>a.length-(intOf i).toNat)
 case atStart=>exact ⟨0,by omega,rfl,ML,BL,OL,FL,RL⟩
 case round=>
  obtain ⟨k,d5,rfl,E,o,y,S,F⟩:=hrel;clear ML BL OL FL RL;have z1:=y.o.size;by_cases N:k<a.length
  ·have M:DF d U wr (.slice O a.length Q) a:=d0.o.f8 y.o (fun _ _ q=>q);have a6:=M;obtain ⟨g5,C,_⟩:=a6;obtain ⟨g,rfl⟩:=As C (by omega);have lg:=(C.lt g rfl).2;obtain ⟨av,sv,x,a1,a9,a8⟩:=M.get N;obtain ⟨c,f6,m,rfl⟩:=Ad a1;obtain ⟨_,a5,_⟩:=a8;obtain ⟨Y,a0,Z,rfl⟩:=Ad a5;have f0:=x 0 (by omega);have f1:=x 1 (by omega);have f2:=x 2 (by omega);have f3:=x 3 (by omega);have f4:=x 4 (by omega);simp only [Lx,aU,aS,aT,bK] at f0 f1 f2 f3 f4;have e4:=Rw (l:=(a.map fun f=>f.name.i6)) (s:=a[k].name.i6) (k:=k) (by simp;omega) (T.o.first k N);have h9:=T.o.nm a[k] (bD _);have e9:(a.map fun f=>f.name.i6).take (k+1)=(a.map fun f=>f.name.i6).take k++[a[k].name.i6]:=by rw [cA (by simp;omega)];simp
   have g3:=Aa e9;clear x a1 a9 a5 C M e9;generalize a[k]=t at*;have b:=Aa ((Ab.refl (fun _=>False) wr).alloc (.cells #[.string t.name.i6,.int .i64 t.name.i9,.slice c f6 m,.int .i64 t.i9,.slice Y a0 Z] 98));have X:=o.o.cell 0;have f5:=Ae o.o;simp only [aU,aS] at X;obtain ⟨V,h8,hM,hT⟩:=Cq.add (w:=wr.alloc (.cells #[.string t.name.i6,.int .i64 t.name.i9,.slice c f6 m,.int .i64 t.i9,.slice Y a0 Z] 98)) (E.o.f8 b.o (fun q=>q)) h9 (by simp;omega) e4;rw [show ((a.map fun f=>f.name.i6).take k).length=k by simp;omega] at h8;rw [←g3.o] at hM;have MV:=Aa hM;have d7:=E.o.ne o.o;have d8:=E.o.ne S.o;have d9:=E.o.ne F.o;have BV:=Aa ((o.o.f8 b.o (fun q=>q)).f8 hT (fun q=>d7 q.symm));have FV:=Aa ((S.o.f8 b.o (fun q=>q)).f8 hT (fun q=>d8 q.symm));have RV:=Aa ((F.o.f8 b.o (fun q=>q)).f8 hT (fun q=>d9 q.symm));have OV:=Aa ((y.o.trans b.o).within hT (fun j q=>by omega));clear hM hT e4 d7 d8 d9;go_wp2_with fail;go_round
   case rel=>exact ⟨k+1,by omega,by go_num,MV,BV,OV,FV,RV⟩
   case measure=>simp [intOf];omega
  ·have e:k=a.length:=by omega
   subst e;have a7:=E.o;rw [show ((a.map fun f=>f.name.i6).take a.length)=(a.map fun f=>f.name.i6) from List.take_of_length_le (by simp)] at a7;have hL:(Instr.lookup 87 (.map (some (w.heap.size+2))) (.string ⟨#[109,97,105,110]⟩) false).run Tryz.prog wr=.ok (.int .i64 (v:Nat)) wr:=by rw [←g1.o];exact a7.look (s:=Br) (by decide)
   have X:=o.o.cell 0;have g0:=S.o.cell 0;have f5:=Ae o.o;have i0:=Ae S.o;simp only [aU,aS] at X g0;have b:=Aa ((Ab.refl (fun _=>False) wr).alloc (.cells #[.slice none 0 0,.int .i64 (v:Nat),.int .i64 0,.int .i64 0] 50));have PL:=Aa (Ar.new wr #[.slice none 0 0,.int .i64 (v:Nat),.int .i64 0,.int .i64 0] 50);have ML:=Aa (a7.f8 b.o (fun q=>q));have BL:=Aa (o.o.f8 b.o (fun q=>q));have FL:=Aa (S.o.f8 b.o (fun q=>q));have RL:=Aa (F.o.f8 b.o (fun q=>q));have OL:=Aa (y.o.trans b.o);clear a7 d5 N;go_wp2_with fail;obtain ⟨K,c1⟩:∃K,wr.heap.size=K:=⟨_,rfl⟩;have i5:w.heap.size+2+1<K:=by omega
   rw [c1];rw [c1] at PL;generalize wr.alloc _=WP at*;clear hL X g0 f5 i0 E o S F y b c1 z1;go_loopw [33] (fun i wr=>∃(k:Nat) (P:List PFn) (c:Option Addr) (m:Nat) (n p:Nat) (m1 nv sv:Value),k≤a.length∧i=.int .i64 k∧dJ (Xe d a k P n p)∧dJ (BB w.heap.size wr (.slice c P.length m) P)∧dJ (Ar K #[.slice c P.length m,.int .i64 (v:Nat),.int .i64 0,.int .i64 0] 50 wr)∧dJ (Cq (w.heap.size+2) (a.map fun f=>f.name.i6) wr)∧dJ (Ar (w.heap.size+2+1) #[.map (some (w.heap.size+2)),m1,nv,sv,.int .i64 n,.int .i64 p] 90 wr)∧dJ (Ab (fun _=>False) w wr)∧dJ (Ar (w.heap.size+1) #[.slice none 0 0,.int .i64 0,.int .i64 0,.int .i64 0] 50 wr)) (fun i _=>a.length-(intOf i).toNat)
   case atStart=>exact ⟨0,[],none,0,0,0,_,_,_,by omega,rfl,⟨rfl,rfl,rfl,by rw [cB];exact T.o.pl,by rw [cB];exact T.o.ca⟩,⟨[],bE _ _ _ _,rfl,fun i h=>by simp at h⟩,PL,ML,BL,OL,RL⟩
   case round=>
    obtain ⟨k,P,c,m,n,p,m1,nv,sv,d5,rfl,G1,PA,W,E,o,y,F⟩:=hrel;clear PL ML BL OL FL RL;have z1:=y.o.size;by_cases N:k<a.length
    ·have M:DF d U wr (.slice O a.length Q) a:=d0.o.f8 y.o (fun _ _ q=>q);have a6:=M;obtain ⟨g5,C,_⟩:=a6;obtain ⟨g,rfl⟩:=As C (by omega);have lg:=(C.lt g rfl).2;obtain ⟨av,bv,x,a1,a9,a8⟩:=M.get N;have e6:G5 d U wr a[k] (Lx a[k] av bv).toList:=⟨av,bv,rfl,a1,a9,a8⟩;obtain ⟨ta,c7,tc,rfl⟩:=Ad a1;obtain ⟨_,a5,_⟩:=a8;obtain ⟨Y,a0,Z,rfl⟩:=Ad a5;have f0:=x 0 (by omega);have f1:=x 1 (by omega);have f2:=x 2 (by omega);have f3:=x 3 (by omega);have f4:=x 4 (by omega);simp only [Lx,aU,aS,aT,bK] at f0 f1 f2 f3 f4;have GN:=Aa (G1.o.i8 T.o N);have GF:=Aa (G1.o.Z8 T.o N);have g2:=Aa e6;have h7:dJ (P.length=k):=G1.o.len;clear x a1 a9 a5 C M e6;generalize a[k]=t at*;have b:=Aa ((Ab.refl (fun _=>False) wr).alloc (.cells #[.string t.name.i6,.int .i64 t.name.i9,.slice ta c7 tc,.int .i64 t.i9,.slice Y a0 Z] 98));have NB:=Aa (Ar.new wr #[.string t.name.i6,.int .i64 t.name.i9,.slice ta c7 tc,.int .i64 t.i9,.slice Y a0 Z] 98);go_wp2_with fail;generalize wr.alloc _=L at*;obtain ⟨u,b4,d3,e7⟩:=PA.o;have R:Ab (fun _=>False) wr L.drew:=b.o.trans ((Ab.refl _ L).drew);refine Cj (Sp _ (w.heap.size+2+1) K wr.heap.size w.heap.size P.length u.flatten c m _ _ _ (.string t.name.i6) (.int .i64 t.name.i9) (.slice ta c7 tc) (.int .i64 t.i9) (.slice Y a0 Z) t.name.i6 t.p8.length (fun vv sv H=>AB w.heap.size H vv (Dp (a.map fun f=>f.name.i6) t n p).m9∧AW w.heap.size H sv (Dp (a.map fun f=>f.name.i6) t n p).m8∧(∃c5 c6 b5,Ar (w.heap.size+2+1) #[.map (some (w.heap.size+2)),c5,c6,b5,.int .i64 ((Ie (a.map fun f=>f.name.i6) t n p).pl:Nat),.int .i64 ((Ie (a.map fun f=>f.name.i6) t n p).ca:Nat)] 90 H)∧Cq (w.heap.size+2) (a.map fun f=>f.name.i6) H) L (W.o.f8 b.o (fun q=>q)) NB.o (o.o.f8 b.o (fun q=>q)) (Ac b4 b.o (fun _ _ q=>q)) (by have:=b.o.size;omega) (by have:=h7.o;omega) ?_ ?_)
     ·refine (Tu d (w.heap.size+2+1) (w.heap.size+2) U (a.map fun f=>f.name.i6) (a.map fun f=>f.p8.length) t n p m1 nv sv _ L.drew (o.o.f8 R (fun q=>q)) (E.o.f8 R (fun q=>q)) (g2.o.f8 R (fun _ _ q=>q)) (fun j r=>⟨by have:=HU.o j r;have:=R.size;omega,by have:=HU.o j r;omega⟩) GF.o).mono ?_;rintro e H ⟨vv,b5,rfl,h1,h2,h3,h4,h5⟩;obtain ⟨na,nl,nc,rfl⟩:=Ad h1;obtain ⟨sa,sc,rfl,_⟩:=h2.form;have d2:w.heap.size≤L.drew.heap.size:=by have:=R.size;omega
      exact ⟨na,nl,nc,sa,_,sc,rfl,⟨Ax h1 d2,h2.base d2,h3,h4⟩,(((Ab.refl _ L).drew).trans h5)⟩
     ·intro na nl nc sa sl sc H D v' y37 y38 y39 y40 y41 y42 y43 hPo o5 hr9 J A;obtain ⟨h1,h2,⟨c5,c6,b5,h3⟩,h4⟩:=hPo;obtain ⟨f7,i6,f8,rfl⟩:=Ad hr9;have c4:=Ah hr9;subst c4;have a2:H.ownsRow w.heap.size 100 4 (.slice c P.length m) P.length u.flatten:=Ac (Ac b4 b.o (fun _ _ q=>q)) o5 (Ap (Ac b4 b.o (fun _ _ q=>q)) (o.o.f8 b.o (fun q=>q)) (by decide));have c2:Ar K #[.slice c P.length m,.int .i64 (v:Nat),.int .i64 0,.int .i64 0] 50 H:=(W.o.f8 b.o (fun q=>q)).f8 o5 (by omega);have tx:∀j u t B,(j=K∨(Value.slice c P.length m).ownBlock=some j)→H.heap[j]? =some (.cells u t B)→t=50∨t=100:=by
       intro j u t B r z;rcases r with r | r
       ·subst r;exact .inl (D6 c2 z)
       ·obtain ⟨_,i1,i3,g8⟩:=Ec a2 r;rw [g8] at z;simp only [bA,bH] at z;exact .inr z.2.1.symm
      have c8:∀j u t B,(j=K∨(Value.slice c P.length m).ownBlock=some j)→H.heap[j]? =some (.cells u t B)→t≠3∧t≠157∧t≠9:=by intro j u t B r z;rcases tx j u t B r z with e | e<;>(rw [e];decide)
      have tb:∀j u t B,j=w.heap.size+2+1→L.heap[j]? =some (.cells u t B)→t≠3∧t≠157∧t≠9:=by intro j u t B r z;subst r;rw [D6 (o.o.f8 b.o (fun q=>q)) z];decide
      have f9:=Aa GN.o;have M9:=Aa (h4.f8 A (fun q=>q.elim (fun q=>h4.ne c2 q) (fun q=>IG a2 h4 q)));have B9:=Aa (h3.f8 A (fun q=>q.elim (fun q=>by omega) (fun q=>Ap a2 h3 (by decide) _ q rfl)));have O9:dJ (Ab (fun _=>False) w D):=((y.o.trans b.o).within o5 (fun j q=>by omega)).within A (fun j q=>q.elim (fun q=>by omega) (fun q=>(a2.lt j q).1));have I:dJ (Ar (w.heap.size+1) #[.slice none 0 0,.int .i64 0,.int .i64 0,.int .i64 0] 50 D):=((F.o.f8 b.o (fun q=>q)).f8 o5 (by omega)).f8 A (fun q=>q.elim (fun q=>by omega) (fun q=>Ap a2 ((F.o.f8 b.o (fun q=>q)).f8 o5 (by omega)) (by decide) _ q rfl));have b7:dJ (BB w.heap.size D (.slice f7 (P.length+1) f8) (P++[Dp (a.map fun f=>f.name.i6) t n p])):=by
       refine ⟨u++[Un (Dp (a.map fun f=>f.name.i6) t n p) (.slice na nl nc) (.slice sa sl sc)],?_,by simp [d3],fun i g9 h0=>?_⟩
       ·rw [List.flatten_append,aZ];simp only [List.flatten_cons,List.flatten_nil,cC,bP];exact hr9
       ·simp only [aZ,bP] at g9 h0;by_cases d4:i<P.length
        ·rw [bT (by omega),bT d4];exact (((e7 i (by omega) d4).YI b.o (fun _ _ _ _ q=>q.elim)).YI o5 tb).YI A c8
        ·have e:i=P.length:=by omega
         subst e;rw [bR (by omega),bR (by omega)];simp only [d3,Nat.sub_self,bQ];exact J3.YI ⟨_,_,rfl,h1,h2⟩ A c8
      have g4:=Aa J;have d6:(P++[Dp (a.map fun f=>f.name.i6) t n p]).length=P.length+1:=by simp
      clear b4 e7 hr9 J A o5 h1 h2 h3 h4 a2 c2 tx c8 tb R b NB PA W E o y F;go_wp2_with fail;go_round
      case rel=>exact ⟨k+1,P++[Dp (a.map fun f=>f.name.i6) t n p],f7,f8,_,_,c5,c6,b5,by omega,by go_num,f9,by rw [d6];exact b7,by rw [d6];exact g4,M9,B9,O9,I⟩
      case measure=>simp [intOf];omega
    ·have e:k=a.length:=by omega
     subst e;have b8:=o.o.cell 4;have b9:=o.o.cell 5;simp only [aU,aS,aT] at b8 b9;go_wp2_with fail;refine Cj (Sq _ (w.heap.size+2+1) K n p _ _ _ _ wr W.o b8 b9 ?_);intro D i7 i8 i9 j0 j1 j2 J A;have hg:=G1.o;have e1:P=Bs (a.map fun f=>f.name.i6) a 0 0:=by have:=hg.is;rw [cZ] at this;simpa [Bs] using this
     have e2:(n,p)=Gz (a.map fun f=>f.name.i6) a 0 0:=by have:=hg.y6;rw [cZ] at this;simpa [Gz] using this
     have b7:=Aa (PA.o.f8 A (fun j u t B r z=>by subst r;rw [D6 W.o z];decide));have O9:=Aa (y.o.within A (fun j q=>by omega));have I:=Aa (F.o.f8 A (by omega));have BX:=Aa J;have E1:=Aa e1;have E2:=Aa e2;have e0:=J.cell 0;have g6:=J.cell 1;have g7:=J.cell 2;have e3:=J.cell 3;have t0:=I.o.cell 0;have t1:=I.o.cell 1;have t2:=I.o.cell 2;have t3:=I.o.cell 3;have tf:=fun i=>Aw I.o i
     simp only [aU,aS,aT] at e0 g6 g7 e3 t0 t1 t2 t3;clear J A e1 e2 hg PA W E o y F G1 b8 b9;go_wp2_with fail;have X:Ar (w.heap.size+1) #[.slice c P.length m,.int .i64 0,.int .i64 0,.int .i64 0] 50 (D.setCell ⟨w.heap.size+1,0,none⟩ (.slice c P.length m)):=I.o.set 0 _;have b1:Ar (w.heap.size+1) #[.slice c P.length m,.int .i64 (v:Nat),.int .i64 0,.int .i64 0] 50 ((D.setCell ⟨w.heap.size+1,0,none⟩ (.slice c P.length m)).setCell ⟨w.heap.size+1,1,none⟩ (.int .i64 (v:Nat))):=X.set 1 _;have b2:Ar (w.heap.size+1) #[.slice c P.length m,.int .i64 (v:Nat),.int .i64 n,.int .i64 0] 50 (((D.setCell ⟨w.heap.size+1,0,none⟩ (.slice c P.length m)).setCell ⟨w.heap.size+1,1,none⟩ (.int .i64 (v:Nat))).setCell ⟨w.heap.size+1,2,none⟩ (.int .i64 n)):=b1.set 2 _;have b3:Ar (w.heap.size+1) #[.slice c P.length m,.int .i64 (v:Nat),.int .i64 n,.int .i64 p] 50 ((((D.setCell ⟨w.heap.size+1,0,none⟩ (.slice c P.length m)).setCell ⟨w.heap.size+1,1,none⟩ (.int .i64 (v:Nat))).setCell ⟨w.heap.size+1,2,none⟩ (.int .i64 n)).setCell ⟨w.heap.size+1,3,none⟩ (.int .i64 p)):=b2.set 3 _;have os:Ab (fun k=>k=w.heap.size+1) D ((((D.setCell ⟨w.heap.size+1,0,none⟩ (.slice c P.length m)).setCell ⟨w.heap.size+1,1,none⟩ (.int .i64 (v:Nat))).setCell ⟨w.heap.size+1,2,none⟩ (.int .i64 n)).setCell ⟨w.heap.size+1,3,none⟩ (.int .i64 p)):=((((Ab.refl _ D).p7 0 _).p7 1 _).p7 2 _).p7 3 _;(try simp only [Exit.inBlock,Exit.then]);refine bC (results_cell_row (P:=Tryz.prog) (by rfl) _ _ (w.heap.size+1) 50 _ (0,0) _ (by rfl) b3 Tryz.underlying50 (by rfl) (by kernel_rfl)) (by rfl) ?_;have hp:=HP.o;subst hp;refine ⟨_,?_,by rw [←E1.o];exact b7.o.f8 os (fun j u t B r z=>by subst r;rw [D6 I.o z];decide),O9.o.within os (fun j q=>by omega)⟩;rw [←E2.o]
mutual
def XB:TS→Prop
 | .mk s bl=>s.field≤3∧XT bl
def XT:List (Nat×List TS)→Prop
 | []=>True
 | (_,ts)::r=>Re ts∧XT r
def Re:List TS→Prop
 | []=>True
 | t::ts=>XB t∧Re ts
end
theorem VM(t:PT):IX t≤3:=by
 unfold IX;repeat' split
 all_goals omega
theorem Wn(l:List PT)(n:Nat)(x:PS):(Ch l n x).1.field≤3:=by
 unfold Ch;split
 ·exact bI _
 ·split
  ·unfold EJ;simp only;split
   ·exact VM _
   ·exact bI _
  ·split
   ·exact bI _
   ·split
    ·exact bI _
    ·split
     ·exact bI _
     ·split
      ·exact bI _
      ·exact bI _
theorem Si(l:List PT)(n:Nat)(x:PS):(AX l n x).1.field≤3:=by
 unfold AX;split
 ·exact bI _
 ·split
  ·exact bI _
  ·split
   ·exact bI _
   ·exact Wn _ _ _
theorem Qz:∀(a b:List TS),Re a→Re b→Re (a++b)
 | [],_,_,h=>h
 | _::a,b,h,k=>⟨h.1,Qz a b h.2 k⟩
theorem Nk(l:List PT)(n:Nat):∀f:Nat,(∀(x:PS) (b:List TS),Re b→Re (AO l n f x b).1)∧(∀(x:PS),XB (Bt l n f x).1)
 | 0=>⟨fun x b h=>by rw [AO];exact h,fun x=>by rw [Bt];exact ⟨bI _,trivial⟩⟩
 | f+1=>by
   obtain ⟨a,c⟩:=Nk l n f;refine ⟨fun x b h=>?_,fun x=>?_⟩
   ·rw [AO];split
    ·exact a _ _ (Qz _ _ h ⟨c _,trivial⟩)
    ·exact h
   ·rw [Bt];split
    ·simp only;split
     ·exact ⟨bI _,a _ [] trivial,a _ [] trivial,trivial⟩
     ·exact ⟨bI _,a _ [] trivial,trivial⟩
    ·split
     ·exact ⟨bI _,a _ [] trivial,trivial⟩
     ·exact ⟨Si _ _ _,trivial⟩
theorem TO(l:List PT)(n:Nat)(x:PS):Re (IM l n x).1.Yg:=by unfold IM;exact (Nk l n _).1 _ [] trivial
theorem QL(l:List PT)(n:Nat):∀(f:Nat) (x:PS) (a:List TF),(∀t,t∈a→Re t.Yg)→∀t,t∈(DZ l n f x a).1→Re t.Yg
 | 0,_,_,h=>by rw [DZ];exact h
 | f+1,x,a,h=>by
   rw [DZ];split
   ·refine QL l n f _ _ (fun t b=>?_);rcases bZ.1 b with q | q
    ·exact h t q
    ·rw [bO.1 q];exact TO l n x
   ·exact h
theorem Uo(l:List PT)(n:Nat)(x:PS):∀t,t∈(Dv l n x).1→Re t.Yg:=by unfold Dv;refine QL l n n _ _ (fun t a=>?_);rw [bO.1 a];exact TO l n x
theorem MT:∀(a:List TS),CT a=(a.map EG).sum
 | []=>rfl
 | t::a=>by simp only [CT,bX,cF,MT a]
theorem Ct.sz{l:List PT}:∀{d i j:Nat} {t:TS},Ct l d i j t→EG t+i≤j
 | 0,_,_,_,h=>h.elim
 | d+1,i,j,.mk s v,h=>by
   obtain ⟨w,x,u⟩:=h;have C:∀a b n,Dj (Ct l d) a b n→CT n+a≤b:=fun a b n r=>by rw [MT];exact Ii (fun _ _ _ q=>q.sz) r
   rcases u with ⟨rfl,_⟩ | ⟨k,n,m,rfl,_,c,e,f⟩ | ⟨k,n,m,y,A,z,rfl,_,c,e,f,g,h⟩
   ·simp only [EG,Lg];omega
   ·have:=C _ _ _ e;simp only [EG,Lg];omega
   ·have:=C _ _ _ e;have:=C _ _ _ g;simp only [EG,Lg];omega
theorem Jm.sz{l:List PT}{d i j:Nat}{t:TF}(h:Jm l d i j t):CT t.Yg+i≤j:=by
 obtain ⟨r,v,c,m,e,f,g,a,k,b,n⟩:=h.w;have s:=a.le;have u:CT t.Yg+(c+1)≤m:=by rw [MT];exact Ii (fun _ _ _ q=>q.sz) b
 omega
mutual
def Xn:TS→Prop
 | .mk s bl=>(s.kind≠7→s.kind≠8→s.args=[])∧s.args.length≤4000∧s.field≤3∧XW bl
def XW:List (Nat×List TS)→Prop
 | []=>True
 | (_,ts)::r=>Ww ts∧XW r
def Ww:List TS→Prop
 | []=>True
 | t::ts=>Xn t∧Ww ts
end
theorem Qu:∀{a:List TS},(∀t,t∈a→XB t→Xn t)→Re a→Ww a
 | [],_,_=>trivial
 | t::_,h,k=>⟨h t (cS ..) k.1,Qu (fun u b=>h u (bN _ b)) k.2⟩
theorem Ct.wf{l:List PT}:∀{d i j:Nat} {t:TS},Ct l d i j t→XB t→Xn t
 | 0,_,_,_,h,_=>h.elim
 | d+1,i,j,.mk s D,h,n=>by
   obtain ⟨E,F,w⟩:=h;have C:∀a b u,Dj (Ct l d) a b u→Re u→Ww u:=fun a b u r=>Qu (fun t A n=>by obtain ⟨x,y,q⟩:=r.each t A;exact q.wf n)
   rcases w with ⟨rfl,_,B,z,_⟩ | ⟨k,u,m,rfl,v,c,e,f⟩ | ⟨k,u,m,G,I,H,rfl,v,c,e,f,g,h⟩
   ·exact ⟨z,B.al,n.1,trivial⟩
   ·rcases v with rfl | rfl
    ·exact ⟨fun _ _=>rfl,bI _,n.1,C _ _ _ e n.2.1,trivial⟩
    ·exact ⟨fun _ _=>rfl,bI _,n.1,C _ _ _ e n.2.1,trivial⟩
   ·subst v;exact ⟨fun _ _=>rfl,bI _,n.1,C _ _ _ e n.2.1,C _ _ _ g n.2.2.1,trivial⟩
mutual
theorem Xx(k:Nat):∀t:TS,nK k t≤EG t
 | .mk s bl=>by have:=WA k bl;simp only [nK,EG];split<;>omega
theorem WA(k:Nat):∀bl:List (Nat×List TS),nB k bl≤Lg bl
 | []=>aV _
 | (_,ts)::r=>by have:=L8 k ts;have:=WA k r;simp only [nB,Lg];omega
theorem L8(k:Nat):∀ts:List TS,nL k ts≤CT ts
 | []=>aV _
 | t::ts=>by have:=Xx k t;have:=L8 k ts;simp only [nL,CT];omega
end
section
variable {N : Nat} {l : List PT} (H : TksOk N l) (o : N ≤ 4000) (p : l.length ≤ 4001)
include H o p
theorem Uq(c:List TF)(y:Nat)(x:PS)(e:Dv l l.length ⟨0,false,0⟩=(c,y,x))(w:x.Ye=false):
 (c.map fun t=>CT t.Yg).sum≤4000∧∀t,t∈c→Ww t.Yg:=by
 have F:=H.pos;have k:=Mg H o p (by rw [e];exact w);have h:=Uo l l.length ⟨0,false,0⟩;rw [e] at k h;obtain ⟨d,_,_⟩:=k;simp only at d;refine ⟨?_,fun t n=>?_⟩
 ·have:=Ii (f:=fun t:TF=>CT t.Yg) (fun _ _ _ q=>q.sz) d;omega
 ·obtain ⟨i,j,g⟩:=d.each t n;obtain ⟨I,J,G,m,z,A,B,C,D,r,E⟩:=g.w;exact Qu (fun u v s=>by obtain ⟨a,b,q⟩:=r.each u v;exact q.wf s) (h t n)
end
structure Ri(V F L:Nat)(par:List Nat)(s:Cb):Prop where
 kind:s.kind≤12
 tg:s.kind≠0→s.kind≠10→s.kind≠11→s.kind≠12→s.Yf<V
 sr:s.kind=2∨s.kind=3∨s.kind=5∨s.kind=6∨s.kind=8∨s.kind=9∨s.kind=10→s.t9<V
 func:s.kind=4∨s.kind=7→s.t9<F
 many:s.kind=7→par[s.t9]?.getD 0=s.args.length
 args:∀a,a∈s.args→a<V
 Yx:s.args.length≤4000
 field:s.field≤3
 Yp:s.Yp≤4000
 i8:s.i8≤L
 taken:s.taken≤L
 t5:s.Yf≤5000
 s5:s.t9≤5000
theorem OW(l:List ByteArray)(s:ByteArray):vx l s≤l.length:=by have:=(Dt l s 0).2.2;unfold vx;omega
theorem SK{fn:List ByteArray}{par:List Nat}{s:VS}{b:Bd}{a V L:Nat}(r:s.kind≤10)(h:XC fn par s b.p9)(m:s.kind≠7→s.kind≠8→s.args=[])(n:s.args.length≤4000)(o:s.field≤3)(c:b.p9.length≤V)(p:V≤12)(hF:fn.length≤12)(i:a≤L)(k:s.kind=1→b.pl+1≤4000)(j:s.kind=8→b.ca+1≤4000):Ri V fn.length L par {AE fn s b with i8:=a}:=by
 have u:=OW b.p9 s.tg.i6;have v:=OW b.p9 s.sr.i6;have w:=OW fn s.sr.i6;refine ⟨by simp only [AE];omega,fun f g _ _=>?_,fun q=>?_,fun q=>?_,fun q=>?_,fun x d=>?_,by simp only [AE,bW];exact n,o,?_,i,bI _,?_,?_⟩
 ·simp only [AE] at f g⊢;rw [cT f];have:=(CP (h.tg f g)).1;omega
 ·simp only [AE] at q⊢;rw [cT (by omega)];have:=(CP (h.sr q)).1;omega
 ·simp only [AE] at q⊢;rw [cU q];exact (CP (h.func q)).1
 ·simp only [AE,bW] at q⊢;rw [cU (.inr q)];exact h.many q
 ·simp only [AE] at d;by_cases q:s.kind=7∨s.kind=8
  ·obtain ⟨t,l,rfl⟩:=cG.1 d;have:=(CP (h.args q t l)).1;omega
  ·rw [m (fun e=>q (.inl e)) (fun e=>q (.inr e))] at d;simp at d
 ·simp only [AE];split
  ·exact k (by assumption)
  ·split
   ·exact j (by assumption)
   ·exact bI _
 ·simp only [AE];split<;>omega
 ·simp only [AE];split<;>omega
theorem Q5{fn:List ByteArray}{par:List Nat}{s:VS}{b:Bd}{a V L:Nat}(l:s.kind=11∨s.kind=12)(j:s.kind≠7→s.kind≠8→s.args=[])(k:s.field≤3)(c:b.p9.length≤12)(g:a≤L):Ri V fn.length L par {AE fn s b with i8:=a}:=by
 have o:=OW b.p9 s.tg.i6;have p:=OW b.p9 s.sr.i6;have d:({AE fn s b with i8:=a}:Cb).kind=s.kind:=rfl;have e:({AE fn s b with i8:=a}:Cb).args=[]:=by simp only [AE];rw [j (by omega) (by omega)];rfl
 refine ⟨by rw [d];omega,fun m n h i=>by rw [d] at h i;omega,fun q=>by rw [d] at q;omega,fun q=>by rw [d] at q;omega,fun q=>by rw [d] at q;omega,fun x f=>by rw [e] at f;simp at f,by rw [e];simp,k,?_,g,bI _,?_,?_⟩
 ·simp only [AE];rw [cT (by omega),cT (by omega)];exact bI _
 ·simp only [AE];rw [cT (by omega)];omega
 ·simp only [AE];rw [cT (by omega)];omega
theorem KC{l:List Cb}{i:Nat}{f:Cb→Cb}{s:Cb}(h:s∈l.modify i f):s∈l∨∃u,u∈l∧s=f u:=by
 obtain ⟨j,a,rfl⟩:=bS.1 h;rw [List.getElem_modify];split
 ·exact .inr ⟨_,bD _,rfl⟩
 ·exact .inl (bD _)
section
variable {fn : List ByteArray} {par : List Nat} {V L : Nat} (c : V ≤ 12) (hF : fn.length ≤ 12)
theorem Qm{b:Bd}{i n:Nat}(a:n≤L)(h:∀s,s∈b.m8→Ri V fn.length L par s):∀s,s∈(b.tk i n).m8→Ri V fn.length L par s:=by
 intro s d;rcases KC d with q | ⟨u,q,rfl⟩
 ·exact h s q
 ·have k:=h u q;exact ⟨k.kind,k.tg,k.sr,k.func,k.many,k.args,k.Yx,k.field,k.Yp,k.i8,a,k.t5,k.s5⟩
theorem W7{b:Bd}{i n:Nat}(a:n≤L)(h:∀s,s∈b.m8→Ri V fn.length L par s):∀s,s∈(b.nx i n).m8→Ri V fn.length L par s:=by
 intro s d;rcases KC d with q | ⟨u,q,rfl⟩
 ·exact h s q
 ·have k:=h u q;exact ⟨k.kind,k.tg,k.sr,k.func,k.many,k.args,k.Yx,k.field,k.Yp,a,k.taken,k.t5,k.s5⟩
theorem UZ{b:Bd}{s:VS}{a:Nat}(h:∀s,s∈b.m8→Ri V fn.length L par s)(k:Ri V fn.length L par {AE fn s b with i8:=a}):∀u,u∈(Av fn s a b).m8→Ri V fn.length L par u:=by
 intro u d;rw [Bw] at d;rcases bZ.1 d with q | q
 ·exact h u q
 ·rw [bO.1 q];exact k
theorem Iv{ts:List TS}{a n:Nat}{b:Bd}(d:a≤n)(e:b.m8.length≤n):AT ts a b≤n:=by unfold AT;split<;>omega
include c hF
mutual
theorem NR:∀(t:TS) (a:Nat) (b:Bd),Wu fn par t b.p9→Xn t→(b.p9++dS t).length≤V→a≤L→b.m8.length+EG t≤L→b.pl+nK 1 t≤4000→b.ca+nK 8 t≤4000→(∀s,s∈b.m8→Ri V fn.length L par s)→∀s,s∈(Eb fn t a b).m8→Ri V fn.length L par s
 | .mk s [],a,b,ho,hw,hn,ha,hl,hp,hc,h=>by
   have hn':b.p9.length≤V:=by rw [aZ] at hn;omega
   simp only [nK,nB] at hp hc;rw [Eb];exact UZ h (SK ho.1 ho.2 hw.1 hw.2.1 hw.2.2.1 hn' c hF ha (fun q=>by rw [cU q] at hp;omega) (fun q=>by rw [cU q] at hc;omega))
 | .mk s [(_,ts)],a,b,ho,hw,hn,ha,hl,hp,hc,h=>by
   have hn':b.p9.length≤V:=by rw [aZ] at hn;omega
   have hab:=ED fn s a b ho.1;have hlen:(Av fn s a b).m8.length=b.m8.length+1:=by rw [Bw];simp
   have hA:=UZ h (Q5 (V:=V) (L:=L) (par:=par) (a:=a) ho.1 hw.1 hw.2.2.1 (by omega) ha);simp only [nK,nB] at hp hc;simp only [EG,Lg] at hl;have hn2:(((Av fn s a b).p9)++dL ts).length≤V:=by rw [hab.1];have hk:=ho.1;simp only [dS,dB,cC,aZ] at hn;rw [cT (by omega)] at hn;simpa using hn
   have hko:IL fn par ts (Av fn s a b).p9:=by rw [hab.1];exact ho.2
   have I:=fun a' ha'=>Gv ts a' (Av fn s a b) hko hw.2.2.2.1 hn2 ha' (by omega) (by rw [hab.2.1];omega) (by rw [hab.2.2];omega) hA
   rw [Eb];split
   ·exact Qm (Iv ha (by omega)) (I a ha)
   ·split
    ·exact Qm (Iv (by omega) (by omega)) (I _ (by omega))
    ·exact hA
 | .mk s [(_,ts),(_,ts2)],a,b,ho,hw,hn,ha,hl,hp,hc,h=>by
   have hn':b.p9.length≤V:=by rw [aZ] at hn;omega
   have hab:=ED fn s a b (.inl ho.1);have hlen:(Av fn s a b).m8.length=b.m8.length+1:=by rw [Bw];simp
   have hA:=UZ h (Q5 (V:=V) (L:=L) (par:=par) (a:=a) (.inl ho.1) hw.1 hw.2.2.1 (by omega) ha);simp only [nK,nB] at hp hc;simp only [EG,Lg] at hl;simp only [dS,dB,cC,aZ] at hn;rw [cT (by have:=ho.1;omega)] at hn;simp only [bM] at hn;have hko:IL fn par ts (Av fn s a b).p9:=by rw [hab.1];exact ho.2.1
   have L1:=Ef ts a (Av fn s a b) hko;have I:=Gv ts a (Av fn s a b) hko hw.2.2.2.1 (by rw [hab.1,aZ];omega) ha (by omega) (by rw [hab.2.1];omega) (by rw [hab.2.2];omega) hA;have I2:=Qm (i:=b.m8.length) (Iv (ts:=ts) (b:=Av fn s a b) ha (by omega)) I;rw [Eb,cU ho.1];simp only;have e1:((Bl fn ts a (Av fn s a b)).tk b.m8.length (AT ts a (Av fn s a b))).p9=b.p9++dL ts:=by show (Bl fn ts a (Av fn s a b)).p9=_;rw [L1.p9,hab.1]
   have e2:((Bl fn ts a (Av fn s a b)).tk b.m8.length (AT ts a (Av fn s a b))).m8.length=b.m8.length+1+CT ts:=by rw [Lm,L1.len,hlen]
   have e3:((Bl fn ts a (Av fn s a b)).tk b.m8.length (AT ts a (Av fn s a b))).pl=b.pl+nL 1 ts:=by show (Bl fn ts a (Av fn s a b)).pl=_;rw [L1.pl,hab.2.1]
   have e4:((Bl fn ts a (Av fn s a b)).tk b.m8.length (AT ts a (Av fn s a b))).ca=b.ca+nL 8 ts:=by show (Bl fn ts a (Av fn s a b)).ca=_;rw [L1.ca,hab.2.2]
   refine W7 (Iv ha (by omega)) (Gv ts2 a _ (by rw [e1];exact ho.2.2) hw.2.2.2.2.1 (by rw [e1];simp only [aZ];omega) ha (by omega) (by omega) (by omega) I2)
 | .mk _ (_::_::_::_),_,_,ho,_,_,_,_,_,_,_=>ho.elim
theorem Gv:∀(ts:List TS) (a:Nat) (b:Bd),IL fn par ts b.p9→Ww ts→(b.p9++dL ts).length≤V→a≤L→b.m8.length+CT ts≤L→b.pl+nL 1 ts≤4000→b.ca+nL 8 ts≤4000→(∀s,s∈b.m8→Ri V fn.length L par s)→∀s,s∈(Bl fn ts a b).m8→Ri V fn.length L par s
 | [],_,_,_,_,_,_,_,_,_,h=>by have _h1:=c;have _h2:=hF;rw [Bl];exact h
 | [t],a,b,ho,hw,hn,ha,hl,hp,hc,h=>by simp only [dL,cC] at hn;simp only [CT,nL,bK] at hl hp hc;rw [Bl];exact NR t a b ho.1 hw.1 hn ha hl hp hc h
 | t::t2::ts,a,b,ho,hw,hn,ha,hl,hp,hc,h=>by
   rw [dL,←cX] at hn;have hz:CT (t::t2::ts)=EG t+CT (t2::ts):=rfl;have h1:nL 1 (t::t2::ts)=nK 1 t+nL 1 (t2::ts):=rfl;have h8:nL 8 (t::t2::ts)=nK 8 t+nL 8 (t2::ts):=rfl;have L1:=JS t (b.m8.length+EG t) b ho.1;have hn1:(b.p9++dS t).length≤V:=by rw [aZ] at hn;omega
   have I:=NR t (b.m8.length+EG t) b ho.1 hw.1 hn1 (by omega) (by omega) (by omega) (by omega) h;rw [Bl];exact Gv (t2::ts) a _ (by rw [L1.p9];exact ho.2) hw.2 (by rw [L1.p9];exact hn) ha (by rw [L1.len];omega) (by rw [L1.pl];omega) (by rw [L1.ca];omega) I
end
end
end Go.Proofs.YthppbgndiplgnaaGreatDoor
