/- One of the texts of the proof of runs_card_holds: ChD CkH CkI ChE. -/
import Derived.Test.YthppbgndiplgnaaGreatDoorG16
import Derived.Test.YthppbgndiplgnaaGreatDoorG15
set_option maxRecDepth 100000
set_option maxHeartbeats 2000000
namespace Go.Proofs.YthppbgndiplgnaaGreatDoor
open Go.RowKit Go.Maps
def K9(a:List RF)(b:List ByteArray)(u:FS)(c:CS):CS:=
 if u.kind=2 then c else
 u.args.foldl (fun c t=>DB b t c) (if u.kind=6 then Ea a u.q (-1) c else if u.kind=8 then Ea a u.q u.args.length c else DB b u.q c)
structure Rj(pb wb B pl ca:Nat)(U:Nat→Prop)(fv sv:Value)(fns:List RF)(fs:List FS)(sb:Nat)(sc:Array Value)(av:Value)(args:List Tk)(c:CS)(w w':World):Prop where
 k:RK pb wb B pl ca U fv sv fns fs c w'
 l9:Ar sb sc 119 w'
 row:DO B w' av args
 fr:DE wb B fv w w'
theorem Rj.call{j b B k e}{U:Nat→Prop}{a l f g d q o n c p w r m}(h:Rj j b B k e U a l f g d q o n c w r)(u:RK j b B k e U a l f g p m)(i:DE b B a r m)(s:d≠b)(t:a.ownBlock≠some d):Rj j b B k e U a l f g d q o n p w m:=
 ⟨u,i.l9 h.l9 s t (by decide),i.row h.row h.k.wr h.k.fn (by decide) (by decide) (by decide),h.fr.trans i⟩
theorem Rj.p6{j p B k e}{U:Nat→Prop}{i n f g l m d b c w o w2}(h:Rj j p B k e U i n f g l m d b c w o)(a:Ab (fun _=>False) o w2):Rj j p B k e U i n f g l m d b c w w2:=
 ⟨h.k.p6 a,h.l9.f8 a (fun q=>q),Ac h.row a (fun _ _ q=>q),h.fr.trans (DE.s8 a)⟩
theorem DA{B w g l c a}(h:DO B w (.slice (some ⟨g,0,none⟩) l c) a){i}(d:i<a.length):w.cell? ⟨g,i*3,none⟩=some (.string (Ai a i).i6)∧w.cell? ⟨g,i*3+1,none⟩=some (.int .i64 (Ai a i).pos)∧w.cell? ⟨g,i*3+2,none⟩=some (.int .i64 (Ai a i).sort):=by have e:=Ah h;subst e;have b:=JG d;unfold DO at h;exact ⟨by rw [h.cellAt _ (by omega)];exact b.1,by rw [h.cellAt _ (by omega)];exact b.2.1,by rw [h.cellAt _ (by omega)];exact b.2.2⟩
theorem Hs{B:Type}(f:B→Tk→B)(l:List Tk)(k:Nat)(h:k<l.length)(x:B):(l.drop k).foldl f x=(l.drop (k+1)).foldl f (f x (Ai l k)):=by
 rw [bG h];have:Ai l k=l[k]:=by unfold Ai;rw [aY h];rfl
 rw [this];rfl
theorem Ql(o m B x p:Nat)(U:Nat→Prop)(fv y:Value)(f:List RF)(r:List FS)(c:CS)(u:FS)(av bv ov:Value)(j:List ByteArray)(w:World)(K:RK o m B x p U fv y f r c w)(a4:DO B w av u.args)(a8:∃a l c,bv=.slice a l c)(a9:∃a l c,ov=.slice a l c)(a5:u.Yh<f.length)(S:f.length≤4001)(a6:f[u.Yh].m9=j)(hv:j.length≤4001)(ha:u.args.length≤4001):
 Calls Tryz.prog 39 #[.pointer (some ⟨o,0,none⟩),.pointer (some ⟨m,0,none⟩),.agg (AS u av bv ov)] w fun e w'=>e=.returned (.tuple #[])∧RK o m B x p U fv y f r (K9 f j u c) w'∧DE m B fv w w':=by
 obtain ⟨C,al,D,rfl⟩:=Ad a4;have a7:=Ah a4;subst a7;obtain ⟨O,Q,P,rfl⟩:=a8;obtain ⟨X,Z,Y,rfl⟩:=a9;obtain ⟨fa,fl,fc,rfl⟩:∃a l c,fv=.slice a l c:=by obtain ⟨_,h,_⟩:=K.fn;exact Ad h
 have lw:=Ae K.wr;have W:w.heap.size≠m:=by omega
 have T:Value.ownBlock (.slice fa fl fc)≠some w.heap.size:=fun q=>by obtain ⟨_,h,_⟩:=K.fn;have:=(h.lt _ q).2;omega
 have b0:=Ae K.pr;have z:dJ (Rj o m B x p U (.slice fa fl fc) y f r w.heap.size (AS u (.slice C u.args.length D) (.slice O Q P) (.slice X Z Y)) (.slice C u.args.length D) u.args c w (w.alloc (.cells (AS u (.slice C u.args.length D) (.slice O Q P) (.slice X Z Y)) 119))):=by have ho:=(Ab.refl (fun _=>False) w).alloc (.cells (AS u (.slice C u.args.length D) (.slice O Q P) (.slice X Z Y)) 119);exact ⟨K.p6 ho,Ar.new _ _ _,Ac a4 ho (fun _ _ q=>q),DE.s8 ho⟩
 have F:=Aa a6;clear K a4 a6;unfold AS;by_cases N:u.kind=2
 ·have e0:K9 f j u c=c:=by simp [K9,N]
  rw [e0];have k2:((u.kind:Int)==2)=true:=by simp [N]
  clear e0 N;go_enter Tryz.func39,Tryz.ntmps39;go_wp2;refine bC (v:=.tuple #[]) (by simp [results,Tryz.results39,go_sem]) rfl ⟨rfl,z.o.k,z.o.fr⟩
 have k2:((u.kind:Int)==2)=false:=by simp;omega
 generalize s:K9 f j u c=V;unfold K9 at s;rw [cT N] at s;by_cases R:u.kind=6
 ·rw [cU R] at s;have E:dJ ((u.args.drop 0).foldl (fun c t=>DB j t c) (Ea f u.q (-1) c)=V):=s;have k6:((u.kind:Int)==6)=true:=by simp [R]
  clear s N R;go_enter Tryz.func39,Tryz.ntmps39;go_wp2_with (go_at_call 68;refine (He o m B x p U _ y f r c u.q (-1) _ z.o.k S (.inl rfl)).mono ?_;rintro e w1 ⟨rfl,J,H⟩);have G:=Aa (z.o.call J H W T);clear J H z;go_loopw [6] (fun i wr=>∃(k:Nat) (d:CS),k≤u.args.length∧i=.int .i64 k∧dJ (Rj o m B x p U (.slice fa fl fc) y f r w.heap.size (AS u (.slice C u.args.length D) (.slice O Q P) (.slice X Z Y)) (.slice C u.args.length D) u.args d w wr)∧dJ ((u.args.drop k).foldl (fun c t=>DB j t c) d=V)) (fun i _=>u.args.length-(intOf i).toNat)
  case atStart=>exact ⟨0,_,by omega,rfl,G,E⟩
  case round=>
   clear G E;obtain ⟨k,d,hk,rfl,b,n⟩:=hrel;have b8:=b.o.l9.cell 8;have a1:=b.o.l9.cell 14;simp only [AS,aU,aS,aT] at b8 a1;have lb:=Ae b.o.l9;by_cases M:k<u.args.length
   ·obtain ⟨g,rfl⟩:=As b.o.row (by omega);obtain ⟨t0,t1,t2⟩:=DA b.o.row M;have lg:=(b.o.row.lt g rfl).2;have A:=Hs (fun c t=>DB j t c) u.args k M d;rw [n.o] at A;generalize Ai u.args k=t at*;have a0:=Aa A;have a2:(k:Int)<(u.args.length:Int):=by omega
    clear n A;go_wp2_with fail;go_region_with (go_at_call 38;refine (C6 o m B x p u.Yh U _ y f r d t _ (b.o.p6 (by repeat (first | exact Ab.refl _ _ | refine Ab.drew ?_ | refine Ab.drewN ?_ _ | refine Ab.alloc ?_ _))).k a5 S (by rw [F.o];exact hv)).mono ?_;rw [F.o];rintro e w2 ⟨rfl,L,I⟩);all_goals
     have S2:=Aa (Rj.call (b.o.p6 (w2:=wr.drew) ((Ab.refl _ wr).drew)) L I W T);clear L I;go_wp2_with fail;exact ⟨⟨k+1,_,by omega,by go_num,S2,a0.o.symm⟩,by simp [intOf];omega⟩
   ·have e:k=u.args.length:=by omega
    have a3:V=d:=by have:=n.o;rw [e,cZ] at this;exact this.symm
    subst a3;have a2:decide ((k:Int)<(u.args.length:Int))=false:=by simp;omega
    clear n;go_wp2;go_end0;exact ⟨rfl,b.o.k,b.o.fr⟩
 have k6:((u.kind:Int)==6)=false:=by simp;omega
 rw [cT R] at s;by_cases h8:u.kind=8
 ·rw [cU h8] at s;have E:dJ ((u.args.drop 0).foldl (fun c t=>DB j t c) (Ea f u.q u.args.length c)=V):=s;have k8:((u.kind:Int)==8)=true:=by simp [h8]
  clear s N R h8;go_enter Tryz.func39,Tryz.ntmps39;go_wp2_with (go_at_call 68;refine (He o m B x p U _ y f r c u.q u.args.length _ z.o.k S (.inr ⟨_,rfl,ha⟩)).mono ?_;rintro e w1 ⟨rfl,J,H⟩);have G:=Aa (z.o.call J H W T);clear J H z;go_loopw [6] (fun i wr=>∃(k:Nat) (d:CS),k≤u.args.length∧i=.int .i64 k∧dJ (Rj o m B x p U (.slice fa fl fc) y f r w.heap.size (AS u (.slice C u.args.length D) (.slice O Q P) (.slice X Z Y)) (.slice C u.args.length D) u.args d w wr)∧dJ ((u.args.drop k).foldl (fun c t=>DB j t c) d=V)) (fun i _=>u.args.length-(intOf i).toNat)
  case atStart=>exact ⟨0,_,by omega,rfl,G,E⟩
  case round=>
   clear G E;obtain ⟨k,d,hk,rfl,b,n⟩:=hrel;have b8:=b.o.l9.cell 8;have a1:=b.o.l9.cell 14;simp only [AS,aU,aS,aT] at b8 a1;have lb:=Ae b.o.l9;by_cases M:k<u.args.length
   ·obtain ⟨g,rfl⟩:=As b.o.row (by omega);obtain ⟨t0,t1,t2⟩:=DA b.o.row M;have lg:=(b.o.row.lt g rfl).2;have A:=Hs (fun c t=>DB j t c) u.args k M d;rw [n.o] at A;generalize Ai u.args k=t at*;have a0:=Aa A;have a2:(k:Int)<(u.args.length:Int):=by omega
    clear n A;go_wp2_with fail;go_region_with (go_at_call 38;refine (C6 o m B x p u.Yh U _ y f r d t _ (b.o.p6 (by repeat (first | exact Ab.refl _ _ | refine Ab.drew ?_ | refine Ab.drewN ?_ _ | refine Ab.alloc ?_ _))).k a5 S (by rw [F.o];exact hv)).mono ?_;rw [F.o];rintro e w2 ⟨rfl,L,I⟩);all_goals
     have S2:=Aa (Rj.call (b.o.p6 (w2:=wr.drew) ((Ab.refl _ wr).drew)) L I W T);clear L I;go_wp2_with fail;exact ⟨⟨k+1,_,by omega,by go_num,S2,a0.o.symm⟩,by simp [intOf];omega⟩
   ·have e:k=u.args.length:=by omega
    have a3:V=d:=by have:=n.o;rw [e,cZ] at this;exact this.symm
    subst a3;have a2:decide ((k:Int)<(u.args.length:Int))=false:=by simp;omega
    clear n;go_wp2;go_end0;exact ⟨rfl,b.o.k,b.o.fr⟩
 have k8:((u.kind:Int)==8)=false:=by simp;omega
 rw [cT h8] at s;have E:dJ ((u.args.drop 0).foldl (fun c t=>DB j t c) (DB j u.q c)=V):=s;clear s N R h8;go_enter Tryz.func39,Tryz.ntmps39;go_wp2_with (go_at_call 38;refine (C6 o m B x p u.Yh U _ y f r c u.q _ z.o.k a5 S (by rw [F.o];exact hv)).mono ?_;rw [F.o];rintro e w1 ⟨rfl,J,H⟩);have G:=Aa (z.o.call J H W T);clear J H z;go_loopw [6] (fun i wr=>∃(k:Nat) (d:CS),k≤u.args.length∧i=.int .i64 k∧dJ (Rj o m B x p U (.slice fa fl fc) y f r w.heap.size (AS u (.slice C u.args.length D) (.slice O Q P) (.slice X Z Y)) (.slice C u.args.length D) u.args d w wr)∧dJ ((u.args.drop k).foldl (fun c t=>DB j t c) d=V)) (fun i _=>u.args.length-(intOf i).toNat)
 case atStart=>exact ⟨0,_,by omega,rfl,G,E⟩
 case round=>
  clear G E;obtain ⟨k,d,hk,rfl,b,n⟩:=hrel;have b8:=b.o.l9.cell 8;have a1:=b.o.l9.cell 14;simp only [AS,aU,aS,aT] at b8 a1;have lb:=Ae b.o.l9;by_cases M:k<u.args.length
  ·obtain ⟨g,rfl⟩:=As b.o.row (by omega);obtain ⟨t0,t1,t2⟩:=DA b.o.row M;have lg:=(b.o.row.lt g rfl).2;have A:=Hs (fun c t=>DB j t c) u.args k M d;rw [n.o] at A;generalize Ai u.args k=t at*;have a0:=Aa A;have a2:(k:Int)<(u.args.length:Int):=by omega
   clear n A;go_wp2_with fail;go_region_with (go_at_call 38;refine (C6 o m B x p u.Yh U _ y f r d t _ (b.o.p6 (by repeat (first | exact Ab.refl _ _ | refine Ab.drew ?_ | refine Ab.drewN ?_ _ | refine Ab.alloc ?_ _))).k a5 S (by rw [F.o];exact hv)).mono ?_;rw [F.o];rintro e w2 ⟨rfl,L,I⟩);all_goals
    have S2:=Aa (Rj.call (b.o.p6 (w2:=wr.drew) ((Ab.refl _ wr).drew)) L I W T);clear L I;go_wp2_with fail;exact ⟨⟨k+1,_,by omega,by go_num,S2,a0.o.symm⟩,by simp [intOf];omega⟩
  ·have e:k=u.args.length:=by omega
   have a3:V=d:=by have:=n.o;rw [e,cZ] at this;exact this.symm
   subst a3;have a2:decide ((k:Int)<(u.args.length:Int))=false:=by simp;omega
   clear n;go_wp2;go_end0;exact ⟨rfl,b.o.k,b.o.fr⟩
def ME(d:Nat)(q:Nat×List TS):Nat:=(q.2.map (Cw d)).sum
theorem Mn(f:Nat×List TS→Nat)(l:List (Nat×List TS))(k:Nat)(h:k<l.length):((l.drop k).map f).sum=f l[k]+((l.drop (k+1)).map f).sum:=by rw [bG h,bX,cF]
theorem MH(d:Nat)(hS:Te d)(b H f:Nat)(U:Nat→Prop)(I:Value)(h:List TF)(M:Int)(J L m n:Nat)(F D:DataW Unit)(c:CS)(s:VS)(a:List (Nat×List TS))(cs:Array Value)(w:World)
 (K:Ck b H U I h M J L m n F D c w)(hT:BU (d+1) U w (.mk s a) cs.toList)(hO:Nb (d+1) (.mk s a))(hn:n+Cw (d+1) (.mk s a)≤4000)(hd:f+(d+1)≤4001)(S:s.kind=11∨s.kind=12):
 Calls Tryz.prog 102 #[.pointer (some ⟨b,0,none⟩),.agg cs,.int .i64 f] w fun e w'=>e=.returned (.tuple #[])∧(∃n',n'≤n+Cw (d+1) (.mk s a)∧Ck b H U I h M J L m n' F (a.foldl (fun x q=>Nc F h d (f+1) q x) (D,c)).1 (a.foldl (fun x q=>Nc F h d (f+1) q x) (D,c)).2 w')∧Ab (fun k=>k=b∨k=m) w w':=by
 obtain ⟨av,bv,a7,b0,ha,b3,a3,c3,a8,b1⟩:=hT;obtain ⟨ho,_,c4,b2⟩:=hO;obtain ⟨a1,l1,c1,rfl⟩:=Ad ha;obtain ⟨a2,l2,c2,rfl⟩:=Ad a3;have c0:=Ah a3;subst c0;have b4:cs=EH s (.slice a1 l1 c1) (.slice a2 a.length c2):=Array.ext' b0;subst b4;have a9:Cw (d+1) (.mk s a)=1+(a.map (ME d)).sum:=rfl;rw [a9] at hn⊢;have lb:=Ae K.YC;have b6:∃kd:Nat,s.kind=kd:=⟨_,rfl⟩;generalize hV:a.foldl (fun x q=>Nc F h d (f+1) q x) (D,c)=V;have HV:dJ ((a.drop 0).foldl (fun x q=>Nc F h d (f+1) q x) (D,c)=V):=hV;have HS:=Aa hS;have HI:=Aa b1;have HB:=Aa a3;clear hV hS b1 b0 ha b3 a9 b6;rcases S with S | S
 ·have B:=Aa ((Ab.refl (fun _=>False) w).alloc (.cells #[.int .i64 11,.string s.tg.i6,.int .i64 s.tg.i9,.string s.sr.i6,.int .i64 s.sr.i9,.int .i64 s.field,.slice a1 l1 c1,.slice a2 a.length c2] 197));unfold EH;rw [S,show ((11:Nat):Int)=11 from rfl];go_enter Tryz.func102,Tryz.ntmps102;go_wp2;go_loopw [89] (fun i wr=>∃(k v:Nat) (l:DataW Unit) (o:CS),k≤a.length∧i=.int .i64 k∧v+((a.drop k).map (ME d)).sum≤n+(1+(a.map (ME d)).sum)∧dJ (Ck b H U I h M J L m v F l o wr)∧dJ (Ab (fun k=>k=b∨k=m) w wr)∧dJ ((a.drop k).foldl (fun x q=>Nc F h d (f+1) q x) (l,o)=V)) (fun i _=>a.length-(intOf i).toNat)
  case atStart=>exact ⟨0,n,D,c,by omega,rfl,by simp,Aa (K.quiet B.o),Aa (B.o.mono (fun _ _ q=>q.elim)),HV⟩
  case round=>
   obtain ⟨k,v,l,o,b7,rfl,a4,X,y,W⟩:=hrel;clear HV B;by_cases E:k<a.length
   ·have Q:∀j,U j→¬(j=b∨j=m):=fun _ z q=>q.elim (fun e=>K.ub (e▸z)) (fun e=>K.um (e▸z))
    have p:=Ac HB.o y.o (fun j z=>Q j (a8 j z));obtain ⟨sv,a0,e,r,Y,u,Z⟩:=HI.o k E (by omega);have hR:=Aa (CU.f8 (d:=d) (U:=U) (w:=w) (sv:=sv) (sts:=a[k].2) ⟨a0,r,Y,u,Z⟩ y.o Q);obtain ⟨sa,sl,sc,rfl⟩:=Ad r;obtain ⟨g,rfl⟩:=As p (by omega);have lg:=(p.lt g rfl).2;have G:∀x,x∈a7→x.length=2:=by intro x hx;obtain ⟨i,hi,rfl⟩:=bS.1 hx;obtain ⟨_,_,e',_⟩:=HI.o i (by omega) hi;rw [e'];rfl
    have O:=p.cellAt (k*2) (by omega);have P:=p.cellAt (k*2+1) (by omega);have C:=BN G (j:=k) (i:=0) (by omega) (by omega);have N:=BN G (j:=k) (i:=1) (by omega) (by omega);rw [bK] at C;rw [C,e] at O;rw [N,e] at P;simp only [aS,aT] at O P;have a5:=Aa (EP (fun x q=>Nc F h d (f+1) q x) a k E (l,o));have b9:=Mn (ME d) a k E;have T:=Aa (b2 a[k] (bD _));clear p r Z u e C N G Y;generalize a[k]=t at*;have l0:=y.o.size;have A:=Aa ((Ab.refl (fun _=>False) wr).alloc (.cells #[.int .i64 t.1,.slice sa sl sc] 96));have R:((f:Int)+1)=((f+1:Nat):Int):=by omega
    have b5:ME d t=(t.2.map (Cw d)).sum:=rfl;have HD:=Aa R;clear R;go_wp2_with (go_at_call 82;rw [HD.o];refine (Hn d HS.o b H (f+1) t.1 U I h M J L m v F l o t.2 (.slice sa sl sc) _ (X.o.quiet A.o) (CU.f8 hR.o A.o (fun _ _ q=>q)) T.o.2 (by omega) (by omega) T.o.1).mono ?_;rintro e w2 ⟨rfl,⟨n2,b8,k2⟩,o2⟩);go_round
    case rel=>exact ⟨k+1,n2,_,_,by omega,by go_num,by omega,Aa k2,Aa (y.o.trans ((A.o.mono (fun _ _ q=>q.elim)).trans o2)),Aa (a5.o.symm.trans W.o)⟩
    case measure=>simp [intOf];omega
   ·have e:k=a.length:=by omega
    subst e;have a6:(l,o)=V:=by have:=W.o;simpa using this
    subst a6;go_wp2;go_end0;simp at a4;exact ⟨rfl,⟨v,by omega,X.o⟩,y.o⟩
 ·have B:=Aa ((Ab.refl (fun _=>False) w).alloc (.cells #[.int .i64 12,.string s.tg.i6,.int .i64 s.tg.i9,.string s.sr.i6,.int .i64 s.sr.i9,.int .i64 s.field,.slice a1 l1 c1,.slice a2 a.length c2] 197));unfold EH;rw [S,show ((12:Nat):Int)=12 from rfl];go_enter Tryz.func102,Tryz.ntmps102;go_wp2;go_loopw [89] (fun i wr=>∃(k v:Nat) (l:DataW Unit) (o:CS),k≤a.length∧i=.int .i64 k∧v+((a.drop k).map (ME d)).sum≤n+(1+(a.map (ME d)).sum)∧dJ (Ck b H U I h M J L m v F l o wr)∧dJ (Ab (fun k=>k=b∨k=m) w wr)∧dJ ((a.drop k).foldl (fun x q=>Nc F h d (f+1) q x) (l,o)=V)) (fun i _=>a.length-(intOf i).toNat)
  case atStart=>exact ⟨0,n,D,c,by omega,rfl,by simp,Aa (K.quiet B.o),Aa (B.o.mono (fun _ _ q=>q.elim)),HV⟩
  case round=>
   obtain ⟨k,v,l,o,b7,rfl,a4,X,y,W⟩:=hrel;clear HV B;by_cases E:k<a.length
   ·have Q:∀j,U j→¬(j=b∨j=m):=fun _ z q=>q.elim (fun e=>K.ub (e▸z)) (fun e=>K.um (e▸z))
    have p:=Ac HB.o y.o (fun j z=>Q j (a8 j z));obtain ⟨sv,a0,e,r,Y,u,Z⟩:=HI.o k E (by omega);have hR:=Aa (CU.f8 (d:=d) (U:=U) (w:=w) (sv:=sv) (sts:=a[k].2) ⟨a0,r,Y,u,Z⟩ y.o Q);obtain ⟨sa,sl,sc,rfl⟩:=Ad r;obtain ⟨g,rfl⟩:=As p (by omega);have lg:=(p.lt g rfl).2;have G:∀x,x∈a7→x.length=2:=by intro x hx;obtain ⟨i,hi,rfl⟩:=bS.1 hx;obtain ⟨_,_,e',_⟩:=HI.o i (by omega) hi;rw [e'];rfl
    have O:=p.cellAt (k*2) (by omega);have P:=p.cellAt (k*2+1) (by omega);have C:=BN G (j:=k) (i:=0) (by omega) (by omega);have N:=BN G (j:=k) (i:=1) (by omega) (by omega);rw [bK] at C;rw [C,e] at O;rw [N,e] at P;simp only [aS,aT] at O P;have a5:=Aa (EP (fun x q=>Nc F h d (f+1) q x) a k E (l,o));have b9:=Mn (ME d) a k E;have T:=Aa (b2 a[k] (bD _));clear p r Z u e C N G Y;generalize a[k]=t at*;have l0:=y.o.size;have A:=Aa ((Ab.refl (fun _=>False) wr).alloc (.cells #[.int .i64 t.1,.slice sa sl sc] 96));have R:((f:Int)+1)=((f+1:Nat):Int):=by omega
    have b5:ME d t=(t.2.map (Cw d)).sum:=rfl;have HD:=Aa R;clear R;go_wp2_with (go_at_call 82;rw [HD.o];refine (Hn d HS.o b H (f+1) t.1 U I h M J L m v F l o t.2 (.slice sa sl sc) _ (X.o.quiet A.o) (CU.f8 hR.o A.o (fun _ _ q=>q)) T.o.2 (by omega) (by omega) T.o.1).mono ?_;rintro e w2 ⟨rfl,⟨n2,b8,k2⟩,o2⟩);go_round
    case rel=>exact ⟨k+1,n2,_,_,by omega,by go_num,by omega,Aa k2,Aa (y.o.trans ((A.o.mono (fun _ _ q=>q.elim)).trans o2)),Aa (a5.o.symm.trans W.o)⟩
    case measure=>simp [intOf];omega
   ·have e:k=a.length:=by omega
    subst e;have a6:(l,o)=V:=by have:=W.o;simpa using this
    subst a6;go_wp2;go_end0;simp at a4;exact ⟨rfl,⟨v,by omega,X.o⟩,y.o⟩
theorem LN:∀d,Te d
 | 0=>fun _ _ _ _ _ _ _ _ _ _ _ _ _ _ _ _ _ _ h _ _ _=>h.elim
 | d+1=>by
   intro b u g U v f B z A m n F D c t r w K h i N M
   obtain ⟨s,a⟩:=t;by_cases j:s.kind=11∨s.kind=12
   ·have k:Kf F f (d+1) g (.mk s a) (D,c)=a.foldl (fun x q=>Nc F f d (g+1) q x) (D,c):=by simp only [Kf,cU j];rfl
    rw [k]
    exact MH d (LN d) b u g U v f B z A m n F D c s a r w K h i N M j
   ·have k:Kf F f (d+1) g (.mk s a) (D,c)=ES F f s (D,c):=by simp only [Kf,cT j]
    rw [k];have S:Cw (d+1) (.mk s a)=1+(a.map (fun q=>(q.2.map (Cw d)).sum)).sum:=rfl;obtain ⟨o,Q,P,J,G,H,I,_⟩:=h;obtain ⟨l,y,p,rfl⟩:=Ad I;have L:r=EH s o (.slice l y p):=Array.ext' J;subst L;refine (Qq b u g U v f B z A m n F D c s o _ w K i.1 (by omega) G H ⟨l,y,p,rfl⟩ (by have:=i.2.1;omega)).mono ?_;rintro e T ⟨rfl,⟨O,R,C⟩,E⟩;exact ⟨rfl,⟨O,by omega,C⟩,E⟩
def Q0(l:List PT)(x:DataW Unit×CS):DataW Unit×CS:=l.foldl (fun x t=>(G8 x.1 t,EM x.1 t x.2)) x
def wv(a:List RF)(c:Nat)(d:List ByteArray):List RF:=a.modify c (fun f=>{f with m9:=d})
theorem DJ(a c d):(wv a c d).length=a.length:=by simp [wv]
theorem Rc{a c d}(h:c<(wv a c d).length):((wv a c d)[c]).m9=d:=by simp [wv]
theorem Rb{a c d}(h:c<(wv a c d).length)(s):(wv a c d).set c (N3 (wv a c d)[c] s)=wv a c (d++[s]):=by
 apply cO
 ·simp [wv]
 ·intro i f g;by_cases e:c=i
  ·subst e;simp [wv,N3]
  ·simp [wv,e,List.getElem_set_ne e]
theorem Vn(a c d):(wv a c d).map (fun f=>f.name.i6)=a.map (fun f=>f.name.i6):=by
 apply cO
 ·simp [wv]
 ·intro i e g;simp only [wv,cH,List.getElem_modify];split<;>rfl
theorem Vo(a c d):(wv a c d).map (fun f=>f.Yn.length)=a.map (fun f=>f.Yn.length):=by
 apply cO
 ·simp [wv]
 ·intro i e g;simp only [wv,cH,List.getElem_modify];split<;>rfl
theorem Xc(a d e t m c):Ea (wv a d e) t m c=Ea a t m c:=by unfold Ea;rw [Vn,Vo]
theorem Xd(a e f d u c):K9 (wv a e f) d u c=K9 a d u c:=by unfold K9;simp only [Xc]
def La(a:List RF)(d:List ByteArray)(s:VS)(c:CS):CS:=
 if s.kind=1 then c else
 (s.args.map An).foldl (fun c t=>DB d t c) (if s.kind=4 then Ea a (An s.sr) (-1) c else if s.kind=7 then Ea a (An s.sr) s.args.length c else DB d (An s.sr) c)
theorem UV{a e s u j}(h:SC s u j)(c):K9 a e u c=La a e s c:=by
 have d:=h.kind;have k:=h.Yx
 have f:u.kind=2↔s.kind=1:=by rw [d];unfold Gg;repeat' split
                              all_goals omega
 have g:u.kind=6↔s.kind=4:=by rw [d];unfold Gg;repeat' split
                              all_goals omega
 have i:u.kind=8↔s.kind=7:=by rw [d];unfold Gg;repeat' split
                              all_goals omega
 unfold K9 La;simp only [f,g,i,h.q,h.args,bW]
def Db(a:List RF)(s:VS)(x:List ByteArray×CS):List ByteArray×CS:=
 if s.kind=0 then (x.1++[s.tg.i6],De x.1 (An s.tg) x.2)
 else if s.kind=10 then (x.1,DB x.1 (An s.sr) x.2)
 else (x.1,La a x.1 s (DB x.1 (An s.tg) x.2))
def Fe(a:List RF):Nat→Nat→TS→List ByteArray×CS→List ByteArray×CS
 | 0,_,_,x=>x
 | d+1,c,.mk s e,x=>
   if s.kind=11∨s.kind=12 then e.foldl (fun x q=>q.2.foldl (fun x t=>Fe a d (c+1) t x) (x.1,if 6<c+1 then Bg 4 q.1 x.2 else x.2)) x
   else Db a s x
def FH(a:List RF)(d c:Nat)(e:List TS)(x:List ByteArray×CS):List ByteArray×CS:=e.foldl (fun x t=>Fe a d c t x) x
theorem K6(a:List RF):∀(d c:Nat) (t:TS) (x:List ByteArray×CS),(Fe a d c t x).1.length≤x.1.length+Cw d t
 | 0,_,_,x=>by simp [Fe]
 | d+1,c,.mk s j,x=>by
   rw [Fe];split
   ·have i:∀(c:Nat) (e:List TS) (x:List ByteArray×CS),(e.foldl (fun x t=>Fe a d c t x) x).1.length≤x.1.length+(e.map (Cw d)).sum:=by
     intro c e;induction e with
     | nil=>intro x;simp
     | cons t e f=> intro x;have g:=K6 a d c t x;have h:=f (Fe a d c t x);simp only [cE,bX,cF];omega
    have:∀(l:List (Nat×List TS)) (x:List ByteArray×CS),(l.foldl (fun x q=>q.2.foldl (fun x t=>Fe a d (c+1) t x) (x.1,if 6<c+1 then Bg 4 q.1 x.2 else x.2)) x).1.length≤x.1.length+(l.map (fun q=>(q.2.map (Cw d)).sum)).sum:=by
     intro l;induction l with
     | nil=>intro x;simp
     | cons q l f=> intro x;have g:=i (c+1) q.2 (x.1,if 6<c+1 then Bg 4 q.1 x.2 else x.2);have h:=f (q.2.foldl (fun x t=>Fe a d (c+1) t x) (x.1,if 6<c+1 then Bg 4 q.1 x.2 else x.2));simp only [cE,bX,cF] at g h⊢;omega
    have:=this j x
    simp only [Cw]
    omega
   ·unfold Db;split
    ·simp [Cw]
    ·split<;>simp
theorem ET(a:List RF)(d c:Nat):∀(e:List TS) (x:List ByteArray×CS),(FH a d c e x).1.length≤x.1.length+(e.map (Cw d)).sum
 | [],x=>by simp [FH]
 | t::e,x=>by have g:=K6 a d c t x;have f:=ET a d c e (Fe a d c t x);simp only [FH,cE,bX,cF] at f⊢;omega
theorem UM(a:List RF)(d e:Nat)(c:List TS)(k:Nat)(h:k<c.length)(x:List ByteArray×CS):FH a d e (c.drop k) x=FH a d e (c.drop (k+1)) (Fe a d e c[k] x):=by unfold FH;rw [bG h];rfl
theorem BA.get{B}{U:Nat→Prop}{w g l c b}(h:BA B U w (.slice (some ⟨g,0,none⟩) l c) b){i}(O:i<b.length):
 ∃p r v,(∀j,j<15→w.cell? ⟨g,i*15+j,none⟩=(AS b[i] p r v)[j]?)∧DO B w p b[i].args∧AD B w r b[i].Yd∧AD B w v b[i].other:=by
 obtain ⟨f,q,R,m⟩:=h;have P:=Ah q;subst P;have k:i<f.length:=by omega
 have t:∀x,x∈f→x.length=15:=by intro x Q;obtain ⟨j,d,rfl⟩:=bS.1 Q;exact (m j d (by omega)).length
 obtain ⟨p,r,v,e,s,u,M,_⟩:=m i k O;refine ⟨p,r,v,fun j d=>?_,s,u,M⟩;have N:=q.cellAt (i*15+j) (by omega);rw [N,BN t k d,e];simp
structure Ws(y n B A z:Nat)(U:Nat→Prop)(o C:Value)(a:List RF)(b:List FS)(E:Nat)(I:Array Value)(D:Value)(l:List Nat)(p:Value)(F:List Tk)(r:Value)(G:List Nat)(v:Value)(H:List Nat)(c:CS)(w w':World):Prop where
 k:RK y n B A z U o C a b c w'
 l9:Ar E I 119 w'
 YR:AD B w' D l
 ZR:DO B w' p F
 YU:AD B w' r G
 Y4:AD B w' v H
 fr:DE n B o w w'
section
variable {y n B A z : Nat} {U : Nat → Prop} {o C : Value} {a L : List RF} {b : List FS} {E : Nat} {I : Array Value} {D : Value} {l : List Nat} {p : Value} {F : List Tk} {r : Value} {G : List Nat} {v : Value} {H : List Nat} {c K : CS} {w J w2 : World}
theorem Ws.call(h:Ws y n B A z U o C a b E I D l p F r G v H c w J)(g:RK y n B A z U o C L b K w2)(d:DE n B o J w2)(e:E≠n)(f:o.ownBlock≠some E):Ws y n B A z U o C L b E I D l p F r G v H K w w2:=
 ⟨g,d.l9 h.l9 e f (by decide),d.row h.YR h.k.wr h.k.fn (by decide) (by decide) (by decide),d.row h.ZR h.k.wr h.k.fn (by decide) (by decide) (by decide),d.row h.YU h.k.wr h.k.fn (by decide) (by decide) (by decide),d.row h.Y4 h.k.wr h.k.fn (by decide) (by decide) (by decide),h.fr.trans d⟩
theorem Ws.p6(h:Ws y n B A z U o C a b E I D l p F r G v H c w J)(d:Ab (fun _=>False) J w2):Ws y n B A z U o C a b E I D l p F r G v H c w w2:=
 ⟨h.k.p6 d,h.l9.f8 d (fun q=>q),Ac h.YR d (fun _ _ q=>q),Ac h.ZR d (fun _ _ q=>q),Ac h.YU d (fun _ _ q=>q),Ac h.Y4 d (fun _ _ q=>q),h.fr.trans (DE.s8 d)⟩
end
def Pd(d:Nat):Prop:=∀(y n B A z g f:Nat) (U:Nat→Prop) (o C D:Value) (a:List RF) (b:List FS) (l:List Nat) (h:List TS) (i:List ByteArray) (c:CS) (w:World),
 RK y n B A z U o C (wv a g i) b c w→AD B w D l→Cz (CL g d b) l h→g<a.length→a.length≤4001→b.length≤4001→i.length+(h.map (Cw d)).sum≤4001→l.length≤4001→(∀u,u∈b→u.args.length≤4001∧u.Yd.length≤4001∧u.other.length≤4001)→f+d≤9000→
 Calls Tryz.prog 17 #[.pointer (some ⟨y,0,none⟩),.pointer (some ⟨n,0,none⟩),D,.int .i64 f] w fun e j=>e=.returned (.tuple #[])∧RK y n B A z U o C (wv a g (FH a d f h (i,c)).1) b (FH a d f h (i,c)).2 j∧DE n B o w j
end Go.Proofs.YthppbgndiplgnaaGreatDoor
