/- One of the texts of the proof of texts_card_holds: ChD ChE. -/
import Derived.Test.YtmaankfbhhbeoaaGreatDoorG16
import Derived.Test.YtmaankfbhhbeoaaGreatDoorG12
set_option maxRecDepth 100000
set_option maxHeartbeats 2000000
namespace Go.Proofs.YtmaankfbhhbeoaaGreatDoor
open Go.RowKit
def GA(a:List RF)(b:List ByteArray)(u:FS)(c:CS):CS:=
 if u.kind=2 then c else
 u.args.foldl (fun c t=>Cw b t c) (if u.kind=6 then CO a u.q (-1) c else if u.kind=8 then CO a u.q u.args.length c else Cw b u.q c)
structure JS(pb wb B pl ca:Nat)(U:Nat→Prop)(fv sv:Value)(fns:List RF)(fs:List FS)(sb:Nat)(sc:Array Value)(av:Value)(args:List Tk)(c:CS)(w w':World):Prop where
 k:RK pb wb B pl ca U fv sv fns fs c w'
 i6:Aq sb sc 87 w'
 row:CP B w' av args
 fr:Ci wb B fv w w'
theorem JS.call{j b B k e}{U:Nat→Prop}{a l f g d q o n c p w r m}(h:JS j b B k e U a l f g d q o n c w r)(u:RK j b B k e U a l f g p m)(i:Ci b B a r m)(s:d≠b)(t:a.ownBlock≠some d):JS j b B k e U a l f g d q o n p w m:=
 ⟨u,i.i6 h.i6 s t (by decide),i.row h.row h.k.wr h.k.fn (by decide) (by decide) (by decide),h.fr.trans i⟩
theorem JS.m8{j p B k e}{U:Nat→Prop}{i n f g l m d b c w o w2}(h:JS j p B k e U i n f g l m d b c w o)(a:Ab (fun _=>False) o w2):JS j p B k e U i n f g l m d b c w w2:=
 ⟨h.k.m8 a,h.i6.d7 a (fun q=>q),Ac h.row a (fun _ _ q=>q),h.fr.trans (Ci.q8 a)⟩
theorem CH{B w g l c a}(h:CP B w (.slice (some ⟨g,0,none⟩) l c) a){i}(d:i<a.length):w.cell? ⟨g,i*3,none⟩=some (.string (Ai a i).d9)∧w.cell? ⟨g,i*3+1,none⟩=some (.int .i64 (Ai a i).pos)∧w.cell? ⟨g,i*3+2,none⟩=some (.int .i64 (Ai a i).sort):=by have e:=Ap h;subst e;have b:=Fp d;unfold CP at h;exact ⟨by rw [h.cellAt _ (by omega)];exact b.1,by rw [h.cellAt _ (by omega)];exact b.2.1,by rw [h.cellAt _ (by omega)];exact b.2.2⟩
theorem Er{B:Type}(f:B→Tk→B)(l:List Tk)(k:Nat)(h:k<l.length)(x:B):(l.drop k).foldl f x=(l.drop (k+1)).foldl f (f x (Ai l k)):=by
 rw [List.drop_eq_getElem_cons h];have:Ai l k=l[k]:=by unfold Ai;rw [List.getElem?_eq_getElem h];rfl
 rw [this];rfl
theorem Jw(o m B x p:Nat)(U:Nat→Prop)(fv y:Value)(f:List RF)(r:List FS)(c:CS)(u:FS)(av bv ov:Value)(j:List ByteArray)(w:World)(K:RK o m B x p U fv y f r c w)(a4:CP B w av u.args)(a8:∃a l c,bv=.slice a l c)(a9:∃a l c,ov=.slice a l c)(a5:u.r9<f.length)(S:f.length≤4001)(a6:f[u.r9].r6=j)(hv:j.length≤4001)(ha:u.args.length≤4001):
 Calls Tryz.prog 33 #[.pointer (some ⟨o,0,none⟩),.pointer (some ⟨m,0,none⟩),.agg (Cr u av bv ov)] w fun e w'=>e=.returned (.tuple #[])∧RK o m B x p U fv y f r (GA f j u c) w'∧Ci m B fv w w':=by
 obtain ⟨C,al,D,rfl⟩:=Af a4;have a7:=Ap a4;subst a7;obtain ⟨O,Q,P,rfl⟩:=a8;obtain ⟨X,Z,Y,rfl⟩:=a9;obtain ⟨fa,fl,fc,rfl⟩:∃a l c,fv=.slice a l c:=by obtain ⟨_,h,_⟩:=K.fn;exact Af h
 have lw:=Ad K.wr;have W:w.heap.size≠m:=by omega
 have T:Value.ownBlock (.slice fa fl fc)≠some w.heap.size:=fun q=>by obtain ⟨_,h,_⟩:=K.fn;have:=(h.lt _ q).2;omega
 have b0:=Ad K.pr;have z:Nj (JS o m B x p U (.slice fa fl fc) y f r w.heap.size (Cr u (.slice C u.args.length D) (.slice O Q P) (.slice X Z Y)) (.slice C u.args.length D) u.args c w (w.alloc (.cells (Cr u (.slice C u.args.length D) (.slice O Q P) (.slice X Z Y)) 87))):=by have ho:=(Ab.refl (fun _=>False) w).alloc (.cells (Cr u (.slice C u.args.length D) (.slice O Q P) (.slice X Z Y)) 87);exact ⟨K.m8 ho,Aq.new _ _ _,Ac a4 ho (fun _ _ q=>q),Ci.q8 ho⟩
 have F:=Aa a6;clear K a4 a6;unfold Cr;by_cases N:u.kind=2
 ·have e0:GA f j u c=c:=by simp [GA,N]
  rw [e0];have k2:((u.kind:Int)==2)=true:=by simp [N]
  clear e0 N;go_enter Tryz.func33,Tryz.ntmps33;go_wp2;refine bodyPost_ret (v:=.tuple #[]) (by simp [results,Tryz.results33,go_sem]) rfl ⟨rfl,z.o.k,z.o.fr⟩
 have k2:((u.kind:Int)==2)=false:=by simp;omega
 generalize s:GA f j u c=V;unfold GA at s;rw [if_neg N] at s;by_cases R:u.kind=6
 ·rw [if_pos R] at s;have E:Nj ((u.args.drop 0).foldl (fun c t=>Cw j t c) (CO f u.q (-1) c)=V):=s;have k6:((u.kind:Int)==6)=true:=by simp [R]
  clear s N R;go_enter Tryz.func33,Tryz.ntmps33;go_wp2_with (go_at_call 48;refine (Eg o m B x p U _ y f r c u.q (-1) _ z.o.k S (.inl rfl)).mono ?_;rintro e w1 ⟨rfl,J,H⟩);have G:=Aa (z.o.call J H W T);clear J H z;go_loopw [6] (fun i wr=>∃(k:Nat) (d:CS),k≤u.args.length∧i=.int .i64 k∧Nj (JS o m B x p U (.slice fa fl fc) y f r w.heap.size (Cr u (.slice C u.args.length D) (.slice O Q P) (.slice X Z Y)) (.slice C u.args.length D) u.args d w wr)∧Nj ((u.args.drop k).foldl (fun c t=>Cw j t c) d=V)) (fun i _=>u.args.length-(intOf i).toNat)
  case atStart=>exact ⟨0,_,by omega,rfl,G,E⟩
  case round=>
   clear G E;obtain ⟨k,d,hk,rfl,b,n⟩:=hrel;have b8:=b.o.i6.cell 8;have a1:=b.o.i6.cell 14;simp only [Cr,Ni,Ng,Nh] at b8 a1;have lb:=Ad b.o.i6;by_cases M:k<u.args.length
   ·obtain ⟨g,rfl⟩:=Ay b.o.row (by omega);obtain ⟨t0,t1,t2⟩:=CH b.o.row M;have lg:=(b.o.row.lt g rfl).2;have A:=Er (fun c t=>Cw j t c) u.args k M d;rw [n.o] at A;generalize Ai u.args k=t at*;have a0:=Aa A;have a2:(k:Int)<(u.args.length:Int):=by omega
    clear n A;go_wp2_with fail;go_region_with (go_at_call 32;refine (BK o m B x p u.r9 U _ y f r d t _ (b.o.m8 (by repeat (first | exact Ab.refl _ _ | refine Ab.drew ?_ | refine Ab.drewN ?_ _ | refine Ab.alloc ?_ _))).k a5 S (by rw [F.o];exact hv)).mono ?_;rw [F.o];rintro e w2 ⟨rfl,L,I⟩);all_goals
     have S2:=Aa (JS.call (b.o.m8 (w2:=wr.drew) ((Ab.refl _ wr).drew)) L I W T);clear L I;go_wp2_with fail;exact ⟨⟨k+1,_,by omega,by go_num,S2,a0.o.symm⟩,by simp [intOf];omega⟩
   ·have e:k=u.args.length:=by omega
    have a3:V=d:=by have:=n.o;rw [e,List.drop_length] at this;exact this.symm
    subst a3;have a2:decide ((k:Int)<(u.args.length:Int))=false:=by simp;omega
    clear n;go_wp2;go_end0;exact ⟨rfl,b.o.k,b.o.fr⟩
 have k6:((u.kind:Int)==6)=false:=by simp;omega
 rw [if_neg R] at s;by_cases h8:u.kind=8
 ·rw [if_pos h8] at s;have E:Nj ((u.args.drop 0).foldl (fun c t=>Cw j t c) (CO f u.q u.args.length c)=V):=s;have k8:((u.kind:Int)==8)=true:=by simp [h8]
  clear s N R h8;go_enter Tryz.func33,Tryz.ntmps33;go_wp2_with (go_at_call 48;refine (Eg o m B x p U _ y f r c u.q u.args.length _ z.o.k S (.inr ⟨_,rfl,ha⟩)).mono ?_;rintro e w1 ⟨rfl,J,H⟩);have G:=Aa (z.o.call J H W T);clear J H z;go_loopw [6] (fun i wr=>∃(k:Nat) (d:CS),k≤u.args.length∧i=.int .i64 k∧Nj (JS o m B x p U (.slice fa fl fc) y f r w.heap.size (Cr u (.slice C u.args.length D) (.slice O Q P) (.slice X Z Y)) (.slice C u.args.length D) u.args d w wr)∧Nj ((u.args.drop k).foldl (fun c t=>Cw j t c) d=V)) (fun i _=>u.args.length-(intOf i).toNat)
  case atStart=>exact ⟨0,_,by omega,rfl,G,E⟩
  case round=>
   clear G E;obtain ⟨k,d,hk,rfl,b,n⟩:=hrel;have b8:=b.o.i6.cell 8;have a1:=b.o.i6.cell 14;simp only [Cr,Ni,Ng,Nh] at b8 a1;have lb:=Ad b.o.i6;by_cases M:k<u.args.length
   ·obtain ⟨g,rfl⟩:=Ay b.o.row (by omega);obtain ⟨t0,t1,t2⟩:=CH b.o.row M;have lg:=(b.o.row.lt g rfl).2;have A:=Er (fun c t=>Cw j t c) u.args k M d;rw [n.o] at A;generalize Ai u.args k=t at*;have a0:=Aa A;have a2:(k:Int)<(u.args.length:Int):=by omega
    clear n A;go_wp2_with fail;go_region_with (go_at_call 32;refine (BK o m B x p u.r9 U _ y f r d t _ (b.o.m8 (by repeat (first | exact Ab.refl _ _ | refine Ab.drew ?_ | refine Ab.drewN ?_ _ | refine Ab.alloc ?_ _))).k a5 S (by rw [F.o];exact hv)).mono ?_;rw [F.o];rintro e w2 ⟨rfl,L,I⟩);all_goals
     have S2:=Aa (JS.call (b.o.m8 (w2:=wr.drew) ((Ab.refl _ wr).drew)) L I W T);clear L I;go_wp2_with fail;exact ⟨⟨k+1,_,by omega,by go_num,S2,a0.o.symm⟩,by simp [intOf];omega⟩
   ·have e:k=u.args.length:=by omega
    have a3:V=d:=by have:=n.o;rw [e,List.drop_length] at this;exact this.symm
    subst a3;have a2:decide ((k:Int)<(u.args.length:Int))=false:=by simp;omega
    clear n;go_wp2;go_end0;exact ⟨rfl,b.o.k,b.o.fr⟩
 have k8:((u.kind:Int)==8)=false:=by simp;omega
 rw [if_neg h8] at s;have E:Nj ((u.args.drop 0).foldl (fun c t=>Cw j t c) (Cw j u.q c)=V):=s;clear s N R h8;go_enter Tryz.func33,Tryz.ntmps33;go_wp2_with (go_at_call 32;refine (BK o m B x p u.r9 U _ y f r c u.q _ z.o.k a5 S (by rw [F.o];exact hv)).mono ?_;rw [F.o];rintro e w1 ⟨rfl,J,H⟩);have G:=Aa (z.o.call J H W T);clear J H z;go_loopw [6] (fun i wr=>∃(k:Nat) (d:CS),k≤u.args.length∧i=.int .i64 k∧Nj (JS o m B x p U (.slice fa fl fc) y f r w.heap.size (Cr u (.slice C u.args.length D) (.slice O Q P) (.slice X Z Y)) (.slice C u.args.length D) u.args d w wr)∧Nj ((u.args.drop k).foldl (fun c t=>Cw j t c) d=V)) (fun i _=>u.args.length-(intOf i).toNat)
 case atStart=>exact ⟨0,_,by omega,rfl,G,E⟩
 case round=>
  clear G E;obtain ⟨k,d,hk,rfl,b,n⟩:=hrel;have b8:=b.o.i6.cell 8;have a1:=b.o.i6.cell 14;simp only [Cr,Ni,Ng,Nh] at b8 a1;have lb:=Ad b.o.i6;by_cases M:k<u.args.length
  ·obtain ⟨g,rfl⟩:=Ay b.o.row (by omega);obtain ⟨t0,t1,t2⟩:=CH b.o.row M;have lg:=(b.o.row.lt g rfl).2;have A:=Er (fun c t=>Cw j t c) u.args k M d;rw [n.o] at A;generalize Ai u.args k=t at*;have a0:=Aa A;have a2:(k:Int)<(u.args.length:Int):=by omega
   clear n A;go_wp2_with fail;go_region_with (go_at_call 32;refine (BK o m B x p u.r9 U _ y f r d t _ (b.o.m8 (by repeat (first | exact Ab.refl _ _ | refine Ab.drew ?_ | refine Ab.drewN ?_ _ | refine Ab.alloc ?_ _))).k a5 S (by rw [F.o];exact hv)).mono ?_;rw [F.o];rintro e w2 ⟨rfl,L,I⟩);all_goals
    have S2:=Aa (JS.call (b.o.m8 (w2:=wr.drew) ((Ab.refl _ wr).drew)) L I W T);clear L I;go_wp2_with fail;exact ⟨⟨k+1,_,by omega,by go_num,S2,a0.o.symm⟩,by simp [intOf];omega⟩
  ·have e:k=u.args.length:=by omega
   have a3:V=d:=by have:=n.o;rw [e,List.drop_length] at this;exact this.symm
   subst a3;have a2:decide ((k:Int)<(u.args.length:Int))=false:=by simp;omega
   clear n;go_wp2;go_end0;exact ⟨rfl,b.o.k,b.o.fr⟩
def wv(a:List RF)(c:Nat)(d:List ByteArray):List RF:=a.modify c (fun f=>{f with r6:=d})
theorem CX(a c d):(wv a c d).length=a.length:=by simp [wv]
theorem JQ{a c d}(h:c<(wv a c d).length):((wv a c d)[c]).r6=d:=by simp [wv]
theorem JP{a c d}(h:c<(wv a c d).length)(s):(wv a c d).set c (Iz (wv a c d)[c] s)=wv a c (d++[s]):=by
 apply List.ext_getElem
 ·simp [wv]
 ·intro i f g;by_cases e:c=i
  ·subst e;simp [wv,Iz]
  ·simp [wv,e,List.getElem_set_ne e]
theorem Lt(a c d):(wv a c d).map (fun f=>f.name.d9)=a.map (fun f=>f.name.d9):=by
 apply List.ext_getElem
 ·simp [wv]
 ·intro i e g;simp only [wv,List.getElem_map,List.getElem_modify];split<;>rfl
theorem Lu(a c d):(wv a c d).map (fun f=>f.p7.length)=a.map (fun f=>f.p7.length):=by
 apply List.ext_getElem
 ·simp [wv]
 ·intro i e g;simp only [wv,List.getElem_map,List.getElem_modify];split<;>rfl
theorem Ma(a d e t m c):CO (wv a d e) t m c=CO a t m c:=by unfold CO;rw [Lt,Lu]
theorem Mb(a e f d u c):GA (wv a e f) d u c=GA a d u c:=by unfold GA;simp only [Ma]
def GM(a:List RF)(d:List ByteArray)(s:VS)(c:CS):CS:=
 if s.kind=1 then c else
 (s.args.map Ak).foldl (fun c t=>Cw d t c) (if s.kind=4 then CO a (Ak s.sr) (-1) c else if s.kind=7 then CO a (Ak s.sr) s.args.length c else Cw d (Ak s.sr) c)
theorem Le{a e s u j}(h:SC s u j)(c):GA a e u c=GM a e s c:=by
 have d:=h.kind;have k:=h.Mz
 have f:u.kind=2↔s.kind=1:=by rw [d];unfold GW;repeat' split
                              all_goals omega
 have g:u.kind=6↔s.kind=4:=by rw [d];unfold GW;repeat' split
                              all_goals omega
 have i:u.kind=8↔s.kind=7:=by rw [d];unfold GW;repeat' split
                              all_goals omega
 unfold GA GM;simp only [f,g,i,h.q,h.args,List.length_map]
def Cl(a:List RF)(s:VS)(x:List ByteArray×CS):List ByteArray×CS:=
 if s.kind=0 then (x.1++[s.tg.d9],Cm x.1 (Ak s.tg) x.2)
 else if s.kind=10 then (x.1,Cw x.1 (Ak s.sr) x.2)
 else (x.1,GM a x.1 s (Cw x.1 (Ak s.tg) x.2))
def Ey(a:List RF):Nat→Nat→TS→List ByteArray×CS→List ByteArray×CS
 | 0,_,_,x=>x
 | d+1,c,.mk s e,x=>
   if s.kind=11∨s.kind=12 then e.foldl (fun x q=>q.2.foldl (fun x t=>Ey a d (c+1) t x) (x.1,if 6<c+1 then AU 4 q.1 x.2 else x.2)) x
   else Cl a s x
def DM(a:List RF)(d c:Nat)(e:List TS)(x:List ByteArray×CS):List ByteArray×CS:=e.foldl (fun x t=>Ey a d c t x) x
theorem Gx(a:List RF):∀(d c:Nat) (t:TS) (x:List ByteArray×CS),(Ey a d c t x).1.length≤x.1.length+Bl d t
 | 0,_,_,x=>by simp [Ey]
 | d+1,c,.mk s j,x=>by
   rw [Ey];split
   ·have i:∀(c:Nat) (e:List TS) (x:List ByteArray×CS),(e.foldl (fun x t=>Ey a d c t x) x).1.length≤x.1.length+(e.map (Bl d)).sum:=by
     intro c e;induction e with
     | nil=>intro x;simp
     | cons t e f=> intro x;have g:=Gx a d c t x;have h:=f (Ey a d c t x);simp only [List.foldl_cons,List.map_cons,List.sum_cons];omega
    have:∀(l:List (Nat×List TS)) (x:List ByteArray×CS),(l.foldl (fun x q=>q.2.foldl (fun x t=>Ey a d (c+1) t x) (x.1,if 6<c+1 then AU 4 q.1 x.2 else x.2)) x).1.length≤x.1.length+(l.map (fun q=>(q.2.map (Bl d)).sum)).sum:=by
     intro l;induction l with
     | nil=>intro x;simp
     | cons q l f=> intro x;have g:=i (c+1) q.2 (x.1,if 6<c+1 then AU 4 q.1 x.2 else x.2);have h:=f (q.2.foldl (fun x t=>Ey a d (c+1) t x) (x.1,if 6<c+1 then AU 4 q.1 x.2 else x.2));simp only [List.foldl_cons,List.map_cons,List.sum_cons] at g h⊢;omega
    have:=this j x
    simp only [Bl]
    omega
   ·unfold Cl;split
    ·simp [Bl]
    ·split<;>simp
theorem C8(a:List RF)(d c:Nat):∀(e:List TS) (x:List ByteArray×CS),(DM a d c e x).1.length≤x.1.length+(e.map (Bl d)).sum
 | [],x=>by simp [DM]
 | t::e,x=>by have g:=Gx a d c t x;have f:=C8 a d c e (Ey a d c t x);simp only [DM,List.foldl_cons,List.map_cons,List.sum_cons] at f⊢;omega
theorem K9(a:List RF)(d e:Nat)(c:List TS)(k:Nat)(h:k<c.length)(x:List ByteArray×CS):DM a d e (c.drop k) x=DM a d e (c.drop (k+1)) (Ey a d e c[k] x):=by unfold DM;rw [List.drop_eq_getElem_cons h];rfl
theorem A2.get{B}{U:Nat→Prop}{w g l c b}(h:A2 B U w (.slice (some ⟨g,0,none⟩) l c) b){i}(O:i<b.length):
 ∃p r v,(∀j,j<15→w.cell? ⟨g,i*15+j,none⟩=(Cr b[i] p r v)[j]?)∧CP B w p b[i].args∧Bs B w r b[i].p8∧Bs B w v b[i].other:=by
 obtain ⟨f,q,R,m⟩:=h;have P:=Ap q;subst P;have k:i<f.length:=by omega
 have t:∀x,x∈f→x.length=15:=by intro x Q;obtain ⟨j,d,rfl⟩:=List.mem_iff_getElem.1 Q;exact (m j d (by omega)).length
 obtain ⟨p,r,v,e,s,u,M,_⟩:=m i k O;refine ⟨p,r,v,fun j d=>?_,s,u,M⟩;have N:=q.cellAt (i*15+j) (by omega);rw [N,CG t k d,e];simp
structure LS(y n B A z:Nat)(U:Nat→Prop)(o C:Value)(a:List RF)(b:List FS)(E:Nat)(I:Array Value)(D:Value)(l:List Nat)(p:Value)(F:List Tk)(r:Value)(G:List Nat)(v:Value)(H:List Nat)(c:CS)(w w':World):Prop where
 k:RK y n B A z U o C a b c w'
 i6:Aq E I 87 w'
 u6:Bs B w' D l
 MX:CP B w' p F
 u9:Bs B w' r G
 Mw:Bs B w' v H
 fr:Ci n B o w w'
section
variable {y n B A z : Nat} {U : Nat → Prop} {o C : Value} {a L : List RF} {b : List FS} {E : Nat} {I : Array Value} {D : Value} {l : List Nat} {p : Value} {F : List Tk} {r : Value} {G : List Nat} {v : Value} {H : List Nat} {c K : CS} {w J w2 : World}
theorem LS.call(h:LS y n B A z U o C a b E I D l p F r G v H c w J)(g:RK y n B A z U o C L b K w2)(d:Ci n B o J w2)(e:E≠n)(f:o.ownBlock≠some E):LS y n B A z U o C L b E I D l p F r G v H K w w2:=
 ⟨g,d.i6 h.i6 e f (by decide),d.row h.u6 h.k.wr h.k.fn (by decide) (by decide) (by decide),d.row h.MX h.k.wr h.k.fn (by decide) (by decide) (by decide),d.row h.u9 h.k.wr h.k.fn (by decide) (by decide) (by decide),d.row h.Mw h.k.wr h.k.fn (by decide) (by decide) (by decide),h.fr.trans d⟩
theorem LS.m8(h:LS y n B A z U o C a b E I D l p F r G v H c w J)(d:Ab (fun _=>False) J w2):LS y n B A z U o C a b E I D l p F r G v H c w w2:=
 ⟨h.k.m8 d,h.i6.d7 d (fun q=>q),Ac h.u6 d (fun _ _ q=>q),Ac h.MX d (fun _ _ q=>q),Ac h.u9 d (fun _ _ q=>q),Ac h.Mw d (fun _ _ q=>q),h.fr.trans (Ci.q8 d)⟩
end
def IZ(d:Nat):Prop:=∀(y n B A z g f:Nat) (U:Nat→Prop) (o C D:Value) (a:List RF) (b:List FS) (l:List Nat) (h:List TS) (i:List ByteArray) (c:CS) (w:World),
 RK y n B A z U o C (wv a g i) b c w→Bs B w D l→BS (Cq g d b) l h→g<a.length→a.length≤4001→b.length≤4001→i.length+(h.map (Bl d)).sum≤4001→l.length≤4001→(∀u,u∈b→u.args.length≤4001∧u.p8.length≤4001∧u.other.length≤4001)→f+d≤9000→
 Calls Tryz.prog 16 #[.pointer (some ⟨y,0,none⟩),.pointer (some ⟨n,0,none⟩),D,.int .i64 f] w fun e j=>e=.returned (.tuple #[])∧RK y n B A z U o C (wv a g (DM a d f h (i,c)).1) b (DM a d f h (i,c)).2 j∧Ci n B o w j
end Go.Proofs.YtmaankfbhhbeoaaGreatDoor
