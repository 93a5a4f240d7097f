/- Part of the proof: MbC RwE. -/
import Derived.Test.YtaningfhibkemaaGreatDoorG25
import Derived.Test.YtaningfhibkemaaGreatDoorG24
import Derived.Sort.OwnSorted
set_option maxHeartbeats 1000000
namespace Go.Proofs.YtaningfhibkemaaGreatDoor
open Go.RowKit Go.Proofs.Tryz Go.Maps Go.Sort
theorem Rn{B w e d}(h:Cp B w e d)(f:0<d.length):B<=w.heap.size:=by obtain⟨_,b,_⟩:=h;obtain⟨a,l,c,rfl⟩:=Ad b;obtain⟨g,rfl⟩:=Ap b f;have:=b.lt g rfl;omega
def bF(b:List RF)(a:List TF):Prop:=∀i (h:i<b.length) (c:i<a.length),b[i].cG=a[i].u9.map Ao
theorem Si(E Y)(hF:Cc E Y)(s)(hm:s.size<=maxLen):
 (∃f p:Nat,f≠0/\(∀w,Below E Y w->E<=w.heap.size->Calls prog 13 #[.string s] w fun e r=>e=.returned (.tuple #[.slice none 0 0,Vj,.int .i64 f,.int .i64 p])/\Below w.heap.size w r)/\
   (∀w,Calls prog 9 #[.string s] w fun e r=>e=.returned (.tuple #[.pointer none,.slice none 0 0,.int .i64 f,.int .i64 p])/\Below w.heap.size w r))\/
 (∃(d:List TF) (m:List RF) (A:List FS) (z:Nat),GoodP d/\(∀t,t∈d->∀u,u∈t.cF->OK 4000 u)/\(RuS (fnN d) (paN d) (xfR d 0 0) m A/\OP A m/\ON 4000 A/\bF m d)/\
   (∀w,Below E Y w->E<=w.heap.size->Calls prog 13 #[.string s] w fun e r=>∃(g n F:Nat) (a:Option Addr) (l c:Nat) (U:Nat->Prop),e=.returned (.tuple #[.slice (some ⟨g,0,none⟩) n F,.agg #[.slice a l c,.int .i64 z],.int .i64 0,.int .i64 0])/\DF 4000 U r (.slice a l c) d/\(∀k,U k->k<r.heap.size)/\Below w.heap.size w r)/\
   (∀w,Calls prog 9 #[.string s] w fun e r=>∃(pb B g n F:Nat) (U:Nat->Prop) (fv sv:Value) (p0 c0:Nat),e=.returned (.tuple #[.pointer (some ⟨pb,0,none⟩),.slice (some ⟨g,0,none⟩) n F,.int .i64 0,.int .i64 0])/\OS pb B U fv sv m A p0 c0 r/\w.heap.size<=pb/\w.heap.size<=B/\B<=r.heap.size/\Below w.heap.size w r/\p0=(d.map fun t=>nL 1 t.cF).sum/\c0=(d.map fun t=>nL 8 t.cF).sum)):=by
 by_cases h4:4000<s.size
 .refine .inl ⟨1,0,T,fun w _ _=>Nk s h4 hm w,fun w=>(YA s h4 hm w).mono ?_⟩;rintro e r ⟨rfl,rfl⟩;exact⟨rfl,Below.refl _ _⟩
 have v:s.size<=4000:=Z;cases L:AE s s.size 0 x0 with
 |inl p=>
  have hl:BA s s.size 0 []=.inl p:=by rw[Ku];have h':AE s s.size 0 ⟨[],false,0,0⟩=.inl p:=L;rw[h'];rfl
  refine .inl ⟨2,p,T,fun w _ _=>JB s p v L w,fun w=>(GZ s v w 0 [] (fun l h=>by rw[hl]at h;cases h)).mono ?_⟩;intro e r o;unfold Mi at o;rw[hl]at o;exact o
 |inr y=>
  have K:=PG v L;have hz:=K.ok.end_;obtain⟨d,z,x,I⟩:∃a b c,Cf (Av s y) (Av s y).length ⟨0,false,0⟩=(a,b,c):=⟨_,_,_,rfl⟩;obtain⟨m,yy,A,hR⟩:∃a b c,Ce ((Av s y).map Ao) (2*(Av s y).length) (Av s y).length ⟨0,none,0,0⟩ [] []=(a,b,c):=⟨_,_,_,rfl⟩;obtain⟨p1,p2⟩:=Nw K.ok K.fV v K.len d z x I m yy A hR
  have V:KO s ((Dc s s.size y).cL.map Ao)=(m,yy,A):=by unfold KO;rw[UE,K.dF];exact hR
  cases S:x.cH with
  |true=>
   have b0:=p1 S;refine .inl ⟨3,x.cW,T,fun w hG H=>GX E Y hF s y v L d z x I S w hG H hz,fun w=>(GZ s v w 0 [] (fun l h=>by rw[K.lex]at h;cases h;rw[V];intro q;simp only at q;rw[b0]at q;cases q)).mono ?_⟩
   intro e r o;unfold Mi at o;rw[K.lex]at o;simp only[V,b0]at o;exact o
  |false=>
   obtain⟨q1,C,q3,q4,q5⟩:=p2 S;have a0:∀t,t∈d->∀u,u∈t.cF->Q0 4000 u:=fun t X u hu=>by obtain⟨_,_,q⟩:=(Ny K.ok v K.len d z x I S).2.2.1 t X u hu;exact q.shp
   have hA:UD s ((Dc s s.size y).cL.map Ao) 4000 d=BC m 4000 d 0 (m,⟨0,0⟩):=by unfold UD;rw[V]
   have hC:WE s ((Dc s s.size y).cL.map Ao) 4000 d=Ib d 4000 z:=by unfold WE;rw[hA,V];exact q5.symm
   have rd:∀w,Calls prog 9 #[.string s] w fun e r=>Il w s ((Dc s s.size y).cL.map Ao) (BC m 4000 d 0 (m,⟨0,0⟩)).1 A yy (Ib d 4000 z) e r:=by
    intro w;refine(GZ s v w 4000 d (fun l h=>by rw[K.lex]at h;cases h;rw[V];intro _;exact C)).mono ?_
    intro e r o;unfold Mi at o;rw[K.lex]at o;simp only[V,q1,hA,hC]at o;exact o
   by_cases P:(Ib d 4000 z).cI=0
   .right;have a1:=VQ (rf:=m) (N:=s.size) (c:=(BC m 4000 d 0 (m,⟨0,0⟩)).2) (by rw[<-q5];exact P);have a6:bB d:=Zl (Jh C).1 (Jh C).2 a0 (N:=s.size) (by rw[<-q5];exact P);obtain⟨s1,s2⟩:=WA K.ok v K.len d z x I S
    have b6:=RX (s:=s) (y:=y) L;have G:GoodP d:=⟨a6,s1,s2,by have:=Wz (toks:=Av s y) (Q:=fun b=>Ve b/\b.size<=4000) (fun t X R=>⟨b6 t X R,gW (K.ok.len t X).1 v⟩) ⟨LT,T⟩ (Av s y).length ⟨0,false,0⟩;rw[I]at this;exact this⟩
    have b1:(tokAt ((Av s y).map Ao) (((Av s y).map Ao).length-1)).sort=0:=by rw[iJ,Bq];simp[Ao,K.ok.end_,CO]
    have a2:=Pt b1 (Av s y).length ⟨0,none,0,0⟩ [] [] ⟨by rw[iJ];exact K.ok.pos,gV _,gV _,gV _,fun _=>⟨gI _,gI _,gI _⟩⟩ ⟨rfl,rfl⟩;rw[iJ,hR]at a2;have a7:=Pr b1 (Av s y).length ⟨0,none,0,0⟩ [] [] ⟨by rw[iJ];exact K.ok.pos,gV _,gV _,gV _,fun _=>⟨gI _,gI _,gI _⟩⟩ (fun k R=>jO R (Nat.not_lt_zero k));rw[iJ,hR]at a7;have a5:=Qb m d 0 0 0 _ _ C.len (fun j a b=>by rw[iO];exact(C.fr j a b).cJ) (a2 q1);rw[iO,iO]at a5;have a4:=ZG G C a0 a1.1 (a2 q1);have b2:=Qs C a0 a1.1;have b7:ON 4000 A:=by
     have:=VX (toks:=(Av s y).map Ao) (M:=4000) (fun i=>by rw[Bq];exact gW (Kd K.ok _).1 v) (2*(Av s y).length) (Av s y).length ⟨0,none,0,0⟩ [] [] (fun _ q=>(iH q).elim)
     rw[hR]at this;exact this
    have b8:=a4.h.eD;have b3:OP A (BC m 4000 d 0 (m,⟨0,0⟩)).1:=fun k R=>by
     obtain⟨f,hf,hr⟩:=a7 q1 k R;obtain⟨i,hi,rfl⟩:=iF.1 hf;have a9:i<(BC m 4000 d 0 (m,⟨0,0⟩)).1.length:=by rw[(Mj C a0 a1.1).len,<-C.len];exact hi
     exact⟨_,gQ a9,by rw[b2 i a9 hi];exact hr⟩
    refine⟨d,_,A,z,G,fun t X=>(q3.each t X).2.1,⟨a4,b3,b7,(Mj C a0 a1.1).cG⟩,fun w hG H=>?_,fun w=>?_⟩
    .refine(KB E Y hF s y v L d z x I S w hG H hz 4000 q4 q3 _ rfl P).mono ?_;rintro e r ⟨g,F,a,l,c,U,rfl,_,_,a3,hu,hb⟩;exact⟨g,_,F,a,l,c,U,rfl,a3,fun k R=>(hu k R).2,hb⟩
    .refine(rd w).mono ?_;intro e r o;unfold Il at o;rw[jH P]at o;obtain⟨pb,B,g,F,U,fv,sv,rfl,_,_,a3,b4,a8,H,b5,hb⟩:=o;have h0:0<(BC m 4000 d 0 (m,⟨0,0⟩)).1.length:=by have h1:=a4.h.eD;have h2:=a6.main;have h3:0<(fnN d).length:=List.length_pos_of_mem h2;omega
     exact⟨pb,B,g,_,F,U,fv,sv,_,_,rfl,⟨a3,a8,b5⟩,b4,H,Rn a8 h0,hb,a5.1,a5.2⟩
   .refine .inl ⟨_,_,P,fun w hG H=>Jz E Y hF s y v L d z x I S w hG H hz 4000 q4 q3 _ rfl P,fun w=>(rd w).mono ?_⟩;intro e r o;unfold Il at o;rw[jG P]at o;exact o
theorem O.grow{X:Nat->Prop}(w b):O X w (grow w b):=
 ⟨rfl,rfl,rfl,jY,fun k a _=>heap_grow_old _ _ a⟩
theorem aI(w)(a:Lib.TabIs prog w "internal/strconv.uint64pow10" .u64 Lib.pow10Tab):ItOk w:=by
 intro n b i f;have h:Lib.TabIs prog b "internal/strconv.uint64pow10" .u64 Lib.pow10Tab:=by
  unfold Lib.TabIs World.var? at a⊢;cases c:Tryz.prog.globalNamed "internal/strconv.uint64pow10" with
  |none=>rw[c]at a;cases a
  |some g=>
   rw[c]at a;simp only[Option.bind_some]at a⊢;have d:g<w.heap.size:=by
    rcases iW g w.heap.size with q|q
    .exact q
    .rw[Array.getElem?_eq_none q]at a;cases a
   rw[f.block g d id];exact a
 refine(Tryz.strconv_Itoa (n:Int) Z Z b h).mono ?_;rintro e l ⟨rfl,k,j,rfl⟩;refine⟨?_,((O.refl _ b).drewN k).trans (O.grow _ _)⟩;have:Lib.itoa (n:Int)=Lib.decDigits n:=by unfold Lib.itoa;simp
 rw[this];rfl
theorem ZJ:YX:=by
 intro B g c l i K R;obtain⟨S,I⟩:=K;rcases I with⟨q,_⟩|⟨Q,N,P,q,F,o,j,m,A,C⟩
 .cases q
 cases q;have M:(l.map (fun b=>b.data.toList)).map encStr=l.map Value.string:=by rw[List.map_map];exact List.map_congr_left (fun b _=>by simp[encStr])
 have f:(l.map (fun b=>b.data.toList)).length=l.length:=jY;have E:Holds encStr i g 0 (l.map (fun b=>b.data.toList)).toArray:=holds_of_block o (by rw[f,M];simpa using C);have G:g<i.heap.size:=lt_of_block o;have t:=Tryz.slices_Sort_string g 0 c (l.map (fun b=>b.data.toList)) i E G (by rw[f];omega);rw[f]at t;refine t.mono ?_;rintro e U ⟨rfl,n,u,rfl⟩;obtain⟨d,r⟩:∃d,(l.map (fun b=>b.data.toList)).mergeSort (fun x y=>decide (x<=y))=d:=⟨_,rfl⟩;have p:d.Perm (l.map (fun b=>b.data.toList)):=by rw[<-r];exact List.mergeSort_perm _ _
 have L:d.Pairwise (fun x y=>decide (x<=y)=true):=by rw[<-r];exact List.pairwise_mergeSort (fun a b c j m=>by simp only[jD]at*;exact List.le_trans j m) (fun a b=>by simp only[Bool.or_eq_true,jD];exact List.le_total a b) _
 rw[r];refine⟨rfl,d.map (fun s=>⟨s.toArray⟩),?_,?_,?_,O.grown (O.refl _ i) (grownBy_sorted _) (fun k H=>by cases H;exact .inl rfl)⟩
 .have h:=ownsRow_sorted (w:=i) (base:=B) (n:=n) (os:=u) (ts:=d) (ss:=l.map (fun b=>b.data.toList)) p.length_eq F o (by rw[f];exact j) m A;rw[f]at h;unfold Au;have v:(d.map (fun s=>(⟨s.toArray⟩:ByteArray))).length=l.length:=by rw[iJ,p.length_eq,f]
  have z:(d.map (fun s=>(⟨s.toArray⟩:ByteArray))).map Value.string=d.map encStr:=by rw[List.map_map];rfl
  rw[v,z];exact h
 .have h:=p.map (fun s=>(⟨s.toArray⟩:ByteArray));rw[List.map_map]at h;have e:l.map ((fun s=>(⟨s.toArray⟩:ByteArray)) ∘ fun b=>b.data.toList)=l:=by
   conv=>rhs;rw[<-List.map_id l]
   exact List.map_congr_left (fun b _=>jY)
  rw[e]at h;exact h
 .rw[List.pairwise_map];refine L.imp (fun{a b} h=>?_);simp only[jD]at h;unfold GC;simp only[decide_eq_false_iff_not];exact h
