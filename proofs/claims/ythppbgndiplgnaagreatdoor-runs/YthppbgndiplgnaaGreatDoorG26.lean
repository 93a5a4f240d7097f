/- One of the texts of the proof of runs_card_holds: RnD RnE. -/
import Derived.Test.YthppbgndiplgnaaGreatDoorG25
namespace Go.Proofs.YthppbgndiplgnaaGreatDoor
theorem Ep{e p:Nat}{c:CS}(a:e≠0):(Bg e p c).Ym≠0:=by
 unfold Bg;split
 ·exact a
 ·rename_i h;exact fun q=>h (.inl q)
theorem Gc{a:List ByteArray}{t:Tk}{c:CS}(h:(DB a t c).Ym=0):t.i6∈a∧c.Ym=0:=by
 unfold DB at h;split at h
 ·rename_i q;exact ⟨(Dt a t.i6 0).1.1 q,h⟩
 ·exact dC h (Ep (by decide))
theorem QO{a:List RF}{t:Tk}{m:Int}{c:CS}(h:(Ea a t m c).Ym=0):t.i6∈a.map (fun f=>f.name.i6)∧c.Ym=0∧(0≤m→((((a.map fun f=>f.Yn.length)[vx (a.map fun f=>f.name.i6) t.i6]?).getD 0:Nat):Int)=m):=by
 unfold Ea at h;split at h
 ·rename_i q;split at h
  ·exact dC h (Ep (by decide))
  ·rename_i d;refine ⟨(Dt _ t.i6 0).1.1 q,h,fun b=>?_⟩;rcases Classical.em (((((a.map fun f=>f.Yn.length)[(CB (a.map fun f=>f.name.i6) t.i6 0).toNat]?).getD 0:Nat):Int)=m) with e | e
   ·exact e
   ·exact dC ⟨b,e⟩ d
 ·exact dC h (Ep (by decide))
theorem Np{a:List ByteArray}{t:Tk}{c:CS}(h:(De a t c).Ym=0):t.i6∉a∧a.length<12∧c.Ym=0:=by
 unfold De at h;simp only at h;split at h
 ·exact dC h (Ep (by decide))
 ·rename_i q;split at h
  ·exact dC h (Ep (by decide))
  ·rename_i b;exact ⟨fun m=>q ((Dt a t.i6 0).1.2 m),by omega,h⟩
theorem OT{a:List ByteArray}:∀{l:List PT} {c:CS},((l.map An).foldl (fun c t=>DB a t c) c).Ym=0→(∀t,t∈l→t.i6∈a)∧c.Ym=0
 | [],c,h=>⟨fun _ q=>(by cases q),h⟩
 | t::l,c,h=>by
   obtain ⟨b,d⟩:=OT (l:=l) h;obtain ⟨e,f⟩:=Gc d;refine ⟨fun u i=>?_,f⟩;rcases cM.1 i with q | q
   ·subst q;exact e
   ·exact b u q
section
variable {rf : List RF} {g : List ByteArray} {o : List Nat} (r : rf.map (fun f => f.name.i6) = g) (v : rf.map (fun f => f.Yn.length) = o)
include r v
theorem Sg{s:VS}{j:List ByteArray}{c:CS}(_hk:s.kind≤10)(h:(Db rf s (j,c)).2.Ym=0):c.Ym=0∧(Db rf s (j,c)).1=j++(if s.kind=0 then [s.tg.i6] else [])∧XC g o s j:=by
 unfold Db at h⊢;by_cases a:s.kind=0
 ·simp only [cU a] at h⊢;obtain ⟨f,l,w⟩:=Np h;exact ⟨w,by trivial,⟨fun _=>⟨f,l⟩,fun q=>dC a q,fun q=>by omega,fun q=>by omega,fun q=>by omega,fun q=>by omega⟩⟩
 simp only [cT a] at h⊢;by_cases k:s.kind=10
 ·simp only [cU k] at h⊢;obtain ⟨f,l⟩:=Gc h;exact ⟨l,by simp,⟨fun q=>dC q a,fun _ q=>dC k q,fun q=>by omega,fun q=>by omega,fun _=>f,fun q=>by omega⟩⟩
 simp only [cT k] at h⊢;unfold La at h;by_cases f:s.kind=1
 ·rw [cU f] at h;obtain ⟨d,e⟩:=Gc h;exact ⟨e,by simp,⟨fun q=>dC q a,fun _ _=>d,fun q=>by omega,fun q=>by omega,fun q=>by omega,fun q=>by omega⟩⟩
 rw [cT f] at h;obtain ⟨m,h⟩:=OT h;by_cases t:s.kind=4
 ·rw [cU t] at h;obtain ⟨b,i,n⟩:=QO h;obtain ⟨d,e⟩:=Gc i;rw [r] at b;exact ⟨e,by simp,⟨fun q=>dC q a,fun _ _=>d,fun _=>b,fun q=>by omega,fun q=>by omega,fun _=>m⟩⟩
 rw [cT t] at h;by_cases u:s.kind=7
 ·rw [cU u] at h;obtain ⟨b,i,n⟩:=QO h;obtain ⟨d,e⟩:=Gc i;have p:=n (by omega);rw [r,v] at p;rw [r] at b;exact ⟨e,by simp,⟨fun q=>dC q a,fun _ _=>d,fun _=>b,fun _=>by exact_mod_cast p,fun q=>by omega,fun _=>m⟩⟩
 rw [cT u] at h;obtain ⟨b,i⟩:=Gc h;obtain ⟨d,e⟩:=Gc i;exact ⟨e,by simp,⟨fun q=>dC q a,fun _ _=>d,fun q=>by omega,fun q=>by omega,fun _=>b,fun _=>m⟩⟩
theorem UN:∀(d k z:Nat) (y:List FS) (i:Nat) (t:TS) (a:List ByteArray) (c:CS),CL z d y i t→(Fe rf d k t (a,c)).2.Ym=0→c.Ym=0∧(Fe rf d k t (a,c)).1=a++dS t∧Wu g o t a
 | 0,_,_,_,_,_,_,_,h,_=>h.elim
 | d+1,k,z,y,i,.mk s O,a,c,h,f=>by
   have L:∀(l:List Nat) (n:List TS) (a:List ByteArray) (c:CS),Cz (fun j t=>i<j∧CL z d y j t) l n→(n.foldl (fun x t=>Fe rf d (k+1) t x) (a,c)).2.Ym=0→c.Ym=0∧(n.foldl (fun x t=>Fe rf d (k+1) t x) (a,c)).1=a++dL n∧IL g o n a:=by
    intro l n a c F;induction F generalizing a c with
    | nil=>intro h;exact ⟨h,by simp [dL],trivial⟩
    | @cons j t l n H _ K=> intro h;simp only [cE] at h⊢;have e:Fe rf d (k+1) t (a,c)=((Fe rf d (k+1) t (a,c)).1,(Fe rf d (k+1) t (a,c)).2):=rfl;rw [e] at h⊢;obtain ⟨J,C,D⟩:=K _ _ h;obtain ⟨q,b,m⟩:=UN d (k+1) z y j t a c H.2 J;rw [b] at C D;exact ⟨q,by rw [b,C];simp [dL],m,D⟩
   obtain ⟨u,P,h⟩:=h;have B:∀{c:CS} {p:Nat},(if 6<k+1 then Bg 4 p c else c).Ym=0→c.Ym=0:=by
    intro c p h;split at h
    ·exact dC h (Ep (by decide))
    ·exact h
   rcases h with ⟨rfl,I⟩ | ⟨p,n,rfl,rfl,_,_,_,_,_,w⟩ | ⟨p,n,rfl,rfl,_,_,_,_,_,w⟩ | ⟨p,n,Q,R,rfl,rfl,_,_,_,_,w,G⟩
   ·have A:=I.Yx;rw [Fe,cT (by omega)] at f⊢;obtain ⟨q,b,m⟩:=Sg r v A f;exact ⟨q,by rw [b];simp [dS,dB],A,m⟩
   ·rw [Fe,cU (by simp [Eo])] at f⊢;simp only [cE,cP] at f⊢;obtain ⟨q,b,m⟩:=L _ _ _ _ w f;exact ⟨B q,by rw [b];simp [dS,dB,Eo],.inr rfl,m⟩
   ·rw [Fe,cU (by simp [Eo])] at f⊢;simp only [cE,cP] at f⊢;obtain ⟨q,b,m⟩:=L _ _ _ _ w f;exact ⟨B q,by rw [b];simp [dS,dB,Eo],.inl rfl,m⟩
   ·rw [Fe,cU (by simp [Eo])] at f⊢;simp only [cE,cP] at f⊢;obtain ⟨q,b,m⟩:=L _ _ _ _ G f;obtain ⟨M,E,N⟩:=L _ _ _ _ w (B q);rw [E] at b m;exact ⟨B M,by rw [E,b];simp [dS,dB,Eo],rfl,N,m⟩
theorem W3(d f p:Nat)(i:List FS):∀(l:List Nat) (b:List TS) (a:List ByteArray) (c:CS),Cz (CL p d i) l b→(FH rf d f b (a,c)).2.Ym=0→c.Ym=0∧(FH rf d f b (a,c)).1=a++dL b∧IL g o b a:=by
 intro l b a c u;unfold FH;induction u generalizing a c with
 | nil=>intro h;exact ⟨h,by simp [dL],trivial⟩
 | @cons j t l b w _ y=> intro h;simp only [cE] at h⊢;have e:Fe rf d f t (a,c)=((Fe rf d f t (a,c)).1,(Fe rf d f t (a,c)).2):=rfl;rw [e] at h⊢;obtain ⟨x,m,n⟩:=y _ _ h;obtain ⟨q,k,s⟩:=UN r v d f p i j t a c w x;rw [k] at m n;exact ⟨q,by rw [k,m];simp [dL],s,n⟩
end
theorem Ov:∀(l:List PT) (d:List ByteArray) (c:CS),(CJ l (d,c)).2.Ym=0→c.Ym=0∧(CJ l (d,c)).1=d++l.map (fun p=>p.i6)∧(d.Nodup→(d++l.map (fun p=>p.i6)).Nodup)∧(d.length≤12→d.length+l.length≤12)
 | [],d,c,h=>⟨h,by simp [CJ],fun q=>by simpa using q,fun q=>by simpa using q⟩
 | t::l,d,c,h=>by
   obtain ⟨f,i,j,k⟩:=Ov l (d++[t.i6]) (De d (An t) c) h;obtain ⟨s,w,u⟩:=Np f;refine ⟨u,?_,fun n=>?_,fun _=>?_⟩
   ·show (CJ l (d++[t.i6],De d (An t) c)).1=_;rw [i];simp
   ·have:=j (List.nodup_append.2 ⟨n,List.nodup_cons.2 ⟨bU,List.nodup_nil⟩,fun a m b e=>by rw [bO] at e;subst e;exact fun q=>s (by subst q;exact m)⟩)
    simpa using this
   ·have:=k (by simp;omega);simp at this⊢;omega
mutual
theorem Md{g:List ByteArray}{o:List Nat}:∀(t:TS) (vs:List ByteArray),Wu g o t vs→(vs.Nodup→(vs++dS t).Nodup)∧(vs.length≤12→(vs++dS t).length≤12)
 | .mk s [],vs,h=>by
   obtain ⟨_,ho⟩:=h;simp only [dS,dB,cC];split
   ·rename_i h0;obtain ⟨h1,h2⟩:=ho.decl h0;refine ⟨fun hn=>List.nodup_append.2 ⟨hn,List.nodup_cons.2 ⟨bU,List.nodup_nil⟩,fun a ha b hb=>?_⟩,fun _=>by simp;omega⟩;rw [bO] at hb;subst hb;exact fun q=>h1 (by subst q;exact ha)
   ·simp
 | .mk s [(p,ts)],vs,h=>by have:=EA ts vs h.2;have hk:=h.1;simpa [dS,dB,show¬s.kind=0 by omega] using this
 | .mk s [(p,ts),(p2,ts2)],vs,h=>by obtain ⟨hk,h1,h2⟩:=h;have a:=EA ts vs h1;have b:=EA ts2 (vs++dL ts) h2;simp only [dS,dB,show¬s.kind=0 by omega,if_false,cR,cC];rw [←cX];exact ⟨fun q=>b.1 (a.1 q),fun q=>b.2 (a.2 q)⟩
theorem EA{g:List ByteArray}{o:List Nat}:∀(ts:List TS) (vs:List ByteArray),IL g o ts vs→(vs.Nodup→(vs++dL ts).Nodup)∧(vs.length≤12→(vs++dL ts).length≤12)
 | [],vs,_=>by simp [dL]
 | t::ts,vs,h=>by have a:=Md t vs h.1;have b:=EA ts (vs++dS t) h.2;simp only [dL];rw [←cX];exact ⟨fun q=>b.1 (a.1 q),fun q=>b.2 (a.2 q)⟩
end
def DC(t:TF):List ByteArray:=t.p8.map (fun p=>p.i6)++dL t.Yg
def Br:ByteArray:=⟨#[109,97,105,110]⟩
structure XH(fns:List TF):Prop where
 ok:XU fns
 Yx:fns.length≤12
 p9:∀i (h:i<fns.length),CB (fns.map fun f=>f.name.i6) fns[i].name.i6 0=i
 m9:∀t,t∈fns→(DC t).Nodup∧(DC t).length≤12
 main:Br∈fns.map (fun f=>f.name.i6)
 aR:(fns.map fun f=>f.p8.length)[vx (fns.map fun f=>f.name.i6) Br]?.getD 0=0
theorem UK{rf:List RF}{i:Nat}{t:TF}{c:CS}(h:(Fm rf i t c).Ym=0):CB (rf.map fun f=>f.name.i6) t.name.i6 0=i∧i<12∧c.Ym=0:=by
 unfold Fm at h;split at h
 ·rename_i q;split at h
  ·exact dC h (Ep (by decide))
  ·exact ⟨q,by omega,h⟩
 ·exact dC h (Ep (by decide))
section
variable {rf : List RF} {g : List ByteArray} {o : List Nat} (r : rf.map (fun f => f.name.i6) = g) (v : rf.map (fun f => f.Yn.length) = o)
include r v
theorem Wd{d i j:Nat}{b:List FS}{l:List Nat}{t:TF}{c:CS}(u:Cz (CL j d b) l t.Yg)(h:(Ei rf d i t c).2.Ym=0):
 c.Ym=0∧(Ei rf d i t c).1=DC t∧IL g o t.Yg (t.p8.map fun p=>p.i6)∧(DC t).Nodup∧(DC t).length≤12∧CB g t.name.i6 0=i∧i<12:=by
 unfold Ei at h⊢;have e:CJ t.p8 ([],Fm rf i t c)=((CJ t.p8 ([],Fm rf i t c)).1,(CJ t.p8 ([],Fm rf i t c)).2):=rfl;rw [e] at h⊢;obtain ⟨s,f,a⟩:=W3 r v d 1 j b l t.Yg _ _ u h;obtain ⟨w,k,x,y⟩:=Ov _ _ _ s;obtain ⟨q,A,B⟩:=UK w;rw [k,cR] at f a;have n:=EA t.Yg _ a;have m:=x List.nodup_nil;have z:=y (by simp);rw [cR] at m;rw [r] at q;refine ⟨B,?_,a,n.1 m,n.2 (by simp at z⊢;omega),q,A⟩;rw [k,cR,f];rfl
theorem JV{d:Nat}{fs:List FS}:∀(l:List TF) (i:Nat) (x:List RF×CS),(∀j (h:j<l.length),∃u b,Cz (CL u d fs) b l[j].Yg)→(BJ rf d l i x).2.Ym=0→
 x.2.Ym=0∧(∀j (h:j<l.length),IL g o l[j].Yg (l[j].p8.map fun p=>p.i6)∧(DC l[j]).Nodup∧(DC l[j]).length≤12∧CB g l[j].name.i6 0=((i+j:Nat):Int)∧i+j<12)∧
 (BJ rf d l i x).1.length=x.1.length∧(∀j (h:j<(BJ rf d l i x).1.length) (G:j<x.1.length),((BJ rf d l i x).1[j]).name=(x.1[j]).name∧((BJ rf d l i x).1[j]).Yn=(x.1[j]).Yn∧((BJ rf d l i x).1[j]).Yd=(x.1[j]).Yd∧(j<i→((BJ rf d l i x).1[j]).m9=(x.1[j]).m9)∧∀k (f:k<l.length),j=i+k→((BJ rf d l i x).1[j]).m9=DC l[k])
 | [],i,x,_,h=>⟨h,fun j h=>by simp at h,rfl,fun j h G=>⟨rfl,rfl,rfl,fun _=>rfl,fun k f=>by simp at f⟩⟩
 | t::l,i,x,m,h=>by
   rw [BJ] at h;obtain ⟨C,D,E,F⟩:=JV (d:=d) (fs:=fs) l (i+1) _ (fun j a=>m (j+1) (by simp;omega)) h;obtain ⟨u,b,H⟩:=m 0 (by simp);obtain ⟨L,w,y,z,A,B,M⟩:=Wd r v (i:=i) (c:=x.2) H C;simp only [bQ] at w y z A B;refine ⟨L,fun j a=>?_,?_,fun j a I=>?_⟩
   ·cases j with
    | zero=>exact ⟨y,z,A,B,M⟩
    | succ j=> obtain ⟨N,O,P,Q,Y⟩:=D j (by simpa using a);exact ⟨N,O,P,by rw [cK,Q];congr 1;omega,by omega⟩
   ·rw [BJ,E,DJ]
   ·have s:j<(wv x.1 i (Ei rf d i t x.2).1).length:=by rw [DJ];exact I
    have q:=F j a s;have K:∀(J:j<(wv x.1 i (Ei rf d i t x.2).1).length),((wv x.1 i (Ei rf d i t x.2).1)[j]).name=(x.1[j]).name∧((wv x.1 i (Ei rf d i t x.2).1)[j]).Yn=(x.1[j]).Yn∧((wv x.1 i (Ei rf d i t x.2).1)[j]).Yd=(x.1[j]).Yd∧(j≠i→((wv x.1 i (Ei rf d i t x.2).1)[j]).m9=(x.1[j]).m9)∧(j=i→((wv x.1 i (Ei rf d i t x.2).1)[j]).m9=DC t):=by
     intro J;simp only [wv,List.getElem_modify];split
     ·rename_i e;exact ⟨rfl,rfl,rfl,fun n=>dC e.symm n,fun _=>w⟩
     ·rename_i e;exact ⟨rfl,rfl,rfl,fun _=>rfl,fun n=>dC n.symm e⟩
    obtain ⟨R,S,T,U,V⟩:=K s;simp only [BJ] at a⊢;refine ⟨q.1.trans R,q.2.1.trans S,q.2.2.1.trans T,fun X=>(q.2.2.2.1 (by omega)).trans (U (by omega)),fun k f W=>?_⟩;cases k with
    | zero=>exact (q.2.2.2.1 (by omega)).trans (V (by omega))
    | succ k=>exact q.2.2.2.2 k (by simpa using f) (by omega)
end
theorem Kt{d:Nat}{rf:List RF}{h:List FS}{b:List TF}(a:Pe d rf h b):rf.map (fun f=>f.name.i6)=b.map (fun f=>f.name.i6)∧rf.map (fun f=>f.Yn.length)=b.map (fun f=>f.p8.length):=by
 constructor
 ·apply cO
  ·simp [a.len]
  ·intro i c e;simp only [cH,(a.fr i (by simpa using c) (by simpa using e)).name,An]
 ·apply cO
  ·simp [a.len]
  ·intro i c e;simp only [cH,(a.fr i (by simpa using c) (by simpa using e)).Yn,bW]
theorem TJ{rf:List RF}{N:Nat}{c:CS}(h:(MJ rf N c).Ym=0):c.Ym=0∧Br∈rf.map (fun f=>f.name.i6)∧(rf.map fun f=>f.Yn.length)[vx (rf.map fun f=>f.name.i6) Br]?.getD 0=0:=by
 unfold MJ at h;split at h
 ·rename_i q;exact ⟨h,(Dt _ Br 0).1.1 q.1,q.2⟩
 ·exact dC h (Ep (by decide))
theorem WM{rf:List RF}{d:List FS}{b:List TF}{N:Nat}(f:Pe 4000 rf d b)(h:(MJ rf N (BJ rf 4000 b 0 (rf,⟨0,0⟩)).2).Ym=0):XH b:=by
 obtain ⟨m,n⟩:=Kt f;obtain ⟨p,l,e⟩:=TJ h;obtain ⟨u,c,w,x⟩:=JV (fs:=d) m n b 0 (rf,⟨0,0⟩) (fun j a=>⟨j,_,(f.fr j (by rw [f.len];exact a) a).Yd⟩) p;rw [m] at l e;rw [n] at e;refine ⟨fun t k=>?_,?_,fun i s=>?_,fun t k=>?_,l,e⟩
 ·obtain ⟨j,a,rfl⟩:=bS.1 k;exact (c j a).1
 ·rcases cJ 12 b.length with q | q
  ·have:=(c 12 q).2.2.2.2;omega
  ·exact q
 ·have:=(c i s).2.2.2.1;simpa using this
 ·obtain ⟨j,a,rfl⟩:=bS.1 k;exact ⟨(c j a).2.1,(c j a).2.2.1⟩
structure XJ(rf:List RF)(fns:List TF)(fs:List FS):Prop where
 len:rf.length=fns.length
 name:∀i (h:i<rf.length) (h':i<fns.length),rf[i].name=An fns[i].name
 Yn:∀i (h:i<rf.length) (h':i<fns.length),rf[i].Yn=fns[i].p8.map An
 Yd:∀i (h:i<rf.length) (h':i<fns.length),Cz (CL i 4000 fs) rf[i].Yd fns[i].Yg
 m9:∀i (h:i<rf.length) (h':i<fns.length),rf[i].m9=DC fns[i]
theorem Ux{rf:List RF}{e:List FS}{c:List TF}(b:Pe 4000 rf e c)(h:(BJ rf 4000 c 0 (rf,⟨0,0⟩)).2.Ym=0):XJ (BJ rf 4000 c 0 (rf,⟨0,0⟩)).1 c e:=by
 obtain ⟨l,m⟩:=Kt b;obtain ⟨p,q,k,d⟩:=JV (fs:=e) l m c 0 (rf,⟨0,0⟩) (fun j f=>⟨j,_,(b.fr j (by rw [b.len];exact f) f).Yd⟩) h;simp only at k d;have n:=b.len;refine ⟨by rw [k,n],fun i h a=>?_,fun i h a=>?_,fun i h a=>?_,fun i h a=>?_⟩
 ·rw [(d i h (by omega)).1,(b.fr i (by omega) a).name]
 ·rw [(d i h (by omega)).2.1,(b.fr i (by omega) a).Yn]
 ·rw [(d i h (by omega)).2.2.1];exact (b.fr i (by omega) a).Yd
 ·exact (d i h (by omega)).2.2.2.2 i a (by omega)
def Hj(R:Nat→Nat→Nat→Nat→Nat→Prop):List Nat→Nat→Nat→Nat→Nat→Prop
 | [],c,a,d,b=>d=c∧b=a
 | j::l,c,a,d,b=>∃f e,R j c a f e∧Hj R l f e d b
theorem Hj.mono{R S:Nat→Nat→Nat→Nat→Nat→Prop}(h:∀j a b c d,R j a b c d→S j a b c d):∀{l:List Nat} {a b c d:Nat},Hj R l a b c d→Hj S l a b c d
 | [],_,_,_,_,q=>q
 | _::_,_,_,_,_,⟨f,e,g,i⟩=>⟨f,e,h _ _ _ _ _ g,Hj.mono h i⟩
def EY:Nat→List FS→Nat→Nat→Nat→Nat→Nat→Prop
 | 0,_,_,_,_,_,_=>False
 | d+1,g,i,h,f,n,l=>∃u,g[i]? =some u∧
    ((u.kind≠12∧u.kind≠13∧n=h+(if u.kind=2 then 1 else 0)∧l=f+(if u.kind=9 then 1 else 0)∧(u.kind=2→u.i9=h+1)∧(u.kind=9→u.i9=f+1))∨
     ((u.kind=12∨u.kind=13)∧∃m k,Hj (fun j a b c e=>i<j∧EY d g j a b c e) u.Yd h f m k∧Hj (fun j a b c e=>i<j∧EY d g j a b c e) u.other m k n l))
theorem EY.up:∀{d:Nat} {f:List FS} {i a b c e:Nat},EY d f i a b c e→EY (d+1) f i a b c e
 | 0,_,_,_,_,_,_,h=>h.elim
 | d+1,f,i,a,b,c,e,h=>by
   obtain ⟨u,j,h⟩:=h;refine ⟨u,j,?_⟩;rcases h with h | ⟨k,n,g,l,m⟩
   ·exact .inl h
   ·exact .inr ⟨k,n,g,l.mono (fun _ _ _ _ _ q=>⟨q.1,q.2.up⟩),m.mono (fun _ _ _ _ _ q=>⟨q.1,q.2.up⟩)⟩
theorem EY.YH{k:Nat}:∀{d:Nat} {f g:List FS} {i a b c e:Nat},EY d f i a b c e→k≤i→(∀j,k≤j→j<f.length→g[j]? =f[j]?)→EY d g i a b c e
 | 0,_,_,_,_,_,_,_,h,_,_=>h.elim
 | d+1,f,g,i,a,b,c,e,h,t,m=>by
   obtain ⟨u,l,h⟩:=h;have s:i<f.length:=by
    rcases cJ i f.length with q | q
    ·exact q
    ·rw [bV q] at l;cases l
   refine ⟨u,by rw [m i t s];exact l,?_⟩;rcases h with h | ⟨o,v,n,p,r⟩
   ·exact .inl h
   ·exact .inr ⟨o,v,n,p.mono (fun _ _ _ _ _ q=>⟨q.1,q.2.YH (by have:=q.1;omega) m⟩),r.mono (fun _ _ _ _ _ q=>⟨q.1,q.2.YH (by have:=q.1;omega) m⟩)⟩
theorem EY.pre{d:Nat}{f g:List FS}{i a b c e:Nat}(h:EY d f i a b c e)(m:JM f g):EY d g i a b c e:=h.YH (k:=0) (bI _) (fun j _ l=>m.2 j l)
theorem Vi(a:List Tk)(x:St)(s:FS):(Dh a x s).1.kind≤9∧(Dh a x s).2.pl=x.pl+(if (Dh a x s).1.kind=2 then 1 else 0)∧(Dh a x s).2.ca=x.ca+(if (Dh a x s).1.kind=9 then 1 else 0)∧((Dh a x s).1.kind=2→(Dh a x s).1.i9=x.pl+1)∧((Dh a x s).1.kind=9→(Dh a x s).1.i9=x.ca+1):=by
 unfold Dh;split
 ·simp [Au]
 ·split
  ·simp only;split<;>simp [Au,Bq]
  ·split
   ·simp [Au,Bq]
   ·split
    ·simp [Au,Bq]
    ·split
     ·simp [Au,Bq,Cc]
     ·simp only;split<;>simp [Au,Bq,Cc]
theorem PM(a:List Tk)(b:Nat)(x:St):(Bo a b x).1.kind≤11∧(Bo a b x).2.pl=x.pl+(if (Bo a b x).1.kind=2 then 1 else 0)∧(Bo a b x).2.ca=x.ca+(if (Bo a b x).1.kind=9 then 1 else 0)∧((Bo a b x).1.kind=2→(Bo a b x).1.i9=x.pl+1)∧((Bo a b x).1.kind=9→(Bo a b x).1.i9=x.ca+1):=by
 unfold Bo;split
 ·simp [Au,Bq]
 ·split
  ·simp [Au,Bq]
  ·split
   ·simp [Au,Bq]
   ·obtain ⟨c,d,e,f,g⟩:=Vi a (Au a [61] (Bq a 1 x).2) {CG b (-1) with p:=(Bq a 1 x).1};exact ⟨bJ c (by decide),d,e,f,g⟩
theorem Tw{d:List Tk}{n:Nat}(hz:(Ai d (n-1)).sort=0):∀f:Nat,
 (∀(i:Nat) (x:St) (g:List FS) (o:List Nat),H7 n x g.length→(x.Ya=none→2*(n-x.s9)+1≤f)→(Az d f i x g o).2.1.Ya=none→
   ∃B,(Az d f i x g o).1=o++B∧Hj (fun j a b c e=>g.length≤j∧EY f (Az d f i x g o).2.2 j a b c e) B x.pl x.ca (Az d f i x g o).2.1.pl (Az d f i x g o).2.1.ca∧JM g (Az d f i x g o).2.2)∧
 (∀(i:Nat) (x:St) (g:List FS),H7 n x g.length→x.Ya=none→2*(n-x.s9)≤f→(AQ d f i x g).2.1.Ya=none→
   (AQ d f i x g).1=g.length∧EY f (AQ d f i x g).2.2 g.length x.pl x.ca (AQ d f i x g).2.1.pl (AQ d f i x g).2.1.ca∧JM g (AQ d f i x g).2.2):=by
 have E:=Bb d;have C:∀(L:List UInt8) (x:St),x.s9<n→(Au d L x).s9<n:=fun L x h=>Ca rfl hz h
 have U:=DG (toks:=d) (n:=n) hz;intro f;induction f with
 | zero=>
   refine ⟨fun i x g o h G l=>?_,fun i x g h l G _=>?_⟩
   ·rw [Az] at l;have:=G l;omega
   ·have:=h.1;omega
 | succ f Q=>
   refine ⟨fun i x g o h G l=>?_,fun i x g h z G l=>?_⟩
   ·rw [Az] at l⊢;split at l
    ·rename_i M;rw [cU M];exact ⟨[],by simp,⟨rfl,rfl⟩,JM.refl _⟩
    ·rename_i M;rw [cT M];have z:x.Ya=none:=by
      cases z:x.Ya with
      | none=>rfl
      | some b=>exact dC (.inl (by simp [z])) M
     have b6:=G z;have b5:=h.1;obtain ⟨J,a2,a3,a4⟩:=(U f).2 i x g h z;have a6:(AQ d f i x g).2.1.Ya=none:=by
      cases P:(AQ d f i x g).2.1.Ya with
      | none=>rfl
      | some p=>rw [CA _ _ _ _ _ P] at l;simp only [P] at l;cases l
     have a5:=a4 (by omega) a6;obtain ⟨b1,b2,b3⟩:=Q.2 i x g h z (by omega) a6;obtain ⟨B,c1,W,K⟩:=Q.1 i _ _ (o++[(AQ d f i x g).1]) J (fun _=>by omega) l;refine ⟨g.length::B,by rw [c1,b1];simp,⟨_,_,⟨aV _,(b2.pre K).up⟩,W.mono (fun _ _ _ _ _ q=>⟨by have:=q.1;omega,q.2.up⟩)⟩,b3.trans K⟩
   ·have hi:=h;obtain ⟨h1,h2,h3,h4,h5⟩:=h;obtain ⟨p1,p2,p3⟩:=h5 z;rw [AQ] at l⊢;by_cases hw:AJ (Ai d x.s9)=Vs∨AJ (Ai d x.s9)=GI
    ·rw [cU hw] at l⊢;simp only at l⊢;have y:=((E (AJ (Ai d x.s9)) x).trans (E [63] _)).trans (E [123] (Au d [63] (Au d (AJ (Ai d x.s9)) x)));have W:=C [63] _ (C (AJ (Ai d x.s9)) x h1);have K:=C [123] _ W;generalize Au d [63] (Au d (AJ (Ai d x.s9)) x)=T at*;generalize Au d [123] T=A at*;have I0:H7 n A (g++[CG 0 0]).length:=by obtain ⟨g1,g2,g3,g4⟩:=y;refine ⟨K,by omega,by omega,by simp;omega,fun e=>?_⟩;have:=g4 e;simp only [aZ,aX,bM];omega
     have N1:=Q.1 i A (g++[CG 0 0]) [] I0 (fun e=>by have:=(y.2.2.2 e).2;omega);obtain ⟨J,a2,a3⟩:=(U f).1 i A (g++[CG 0 0]) [] I0;generalize Az d f i A (g++[CG 0 0]) []=r at*;have t:=E [125] r.2.1;have c4:=C [125] r.2.1 J.1;have I3:=J.YB t c4;generalize Au d [125] r.2.1=m at*;have a7:∀(u:FS),(u.kind=12∨u.kind=13)→u.Yd=r.1→u.other=[]→m.Ya=none→
      EY (f+1) (r.2.2.set g.length u) g.length x.pl x.ca m.pl m.ca∧JM g (r.2.2.set g.length u):=by
      intro u hk a8 ho O;obtain ⟨F,e2⟩:=t.2.2.2 O;obtain ⟨B,X,Y,R⟩:=N1 F;obtain ⟨H,I,s3,S⟩:=F8 g r.2.2 (CG 0 0) u R;refine ⟨⟨u,I,.inr ⟨hk,m.pl,m.ca,?_,by rw [ho];exact ⟨rfl,rfl⟩⟩⟩,H⟩;rw [a8,X,cR,t.2.1,t.2.2.1,←y.2.1,←y.2.2.1];refine Y.mono (fun j a b c e q=>?_);have v:=q.1;simp only [aZ,bP] at v;exact ⟨by omega,q.2.YH (k:=g.length+1) (by omega) S⟩
     by_cases a0:AJ (Ai d x.s9)=Vs
     ·rw [cU a0] at l⊢;by_cases O:Bn m.Ya (Ai d m.s9) DQ=true
      ·rw [cU O] at l⊢;simp only at l⊢;have D:=(E DQ m).trans (E [123] (Au d DQ m));have c5:=C [123] _ (C DQ m c4);generalize Au d DQ m=x4 at*;generalize Au d [123] x4=s at*;have I5:=I3.YB D c5;have b4:A.s9≤m.s9:=bJ a2 t.1;have N2:=Q.1 i s r.2.2 [] I5 (fun e=>by have:=(D.2.2.2 e).2;have:=y.1;omega);obtain ⟨b1,b2,b3⟩:=(U f).1 i s r.2.2 [] I5;have RB:∀p,s.Ya=some p→(Az d f i s r.2.2 []).2.1.Ya=some p:=fun p h=>by rw [CA _ _ _ _ _ h];exact h
       generalize Az d f i s r.2.2 []=w at*;have V:=E [125] w.2.1;generalize Au d [125] w.2.1=x5 at*;obtain ⟨F,e2⟩:=V.2.2.2 l;obtain ⟨b7,m1,m2,m3⟩:=N2 F;have a9:s.Ya=none:=by
        cases P:s.Ya with
        | none=>rfl
        | some p=>rw [RB p P] at F;cases F
       obtain ⟨f1,f2⟩:=D.2.2.2 a9;obtain ⟨g1,g2⟩:=t.2.2.2 f1;obtain ⟨B,X,Y,R⟩:=N1 g1;obtain ⟨H,I,s3,S⟩:=F8 g w.2.2 (CG 0 0) {CG i (-1) with kind:=12,br:=(Ai d T.s9).pos,Yd:=r.1,YT:=(Ai d x4.s9).pos,other:=w.1} (R.trans m3);have b0:=R.1;simp only [aZ,bP] at b0;refine ⟨by trivial,⟨_,I,.inr ⟨.inl rfl,r.2.1.pl,r.2.1.ca,?_,?_⟩⟩,H⟩
       ·have N:Hj (fun j a b c e=>(g++[CG 0 0]).length≤j∧EY f r.2.2 j a b c e) r.1 A.pl A.ca r.2.1.pl r.2.1.ca:=by rw [X,cR];exact Y
        rw [y.2.1,y.2.2.1] at N;refine N.mono (fun j a b c e q=>?_);have v:=q.1;simp only [aZ,bP] at v;exact ⟨by omega,(q.2.pre m3).YH (k:=g.length+1) (by omega) S⟩
       ·have N:Hj (fun j a b c e=>r.2.2.length≤j∧EY f w.2.2 j a b c e) w.1 s.pl s.ca w.2.1.pl w.2.1.ca:=by rw [m1,cR];exact m2
        rw [D.2.1,D.2.2.1,t.2.1,t.2.2.1,←V.2.1,←V.2.2.1] at N;refine N.mono (fun j a b c e q=>?_);have v:=q.1;exact ⟨by omega,q.2.YH (k:=g.length+1) (by omega) S⟩
      ·rw [cT O] at l⊢;simp only at l⊢;obtain ⟨v,Z⟩:=a7 {CG i (-1) with kind:=12,br:=(Ai d T.s9).pos,Yd:=r.1} (.inl rfl) rfl rfl l;exact ⟨by trivial,v,Z⟩
     ·rw [cT a0] at l⊢;simp only at l⊢;obtain ⟨v,Z⟩:=a7 {CG i (-1) with kind:=13,br:=(Ai d T.s9).pos,Yd:=r.1} (.inr rfl) rfl rfl l;exact ⟨by trivial,v,Z⟩
    ·rw [cT hw] at l⊢;simp only at l⊢;obtain ⟨k1,k2,k3,k4,k5⟩:=PM d i x;obtain ⟨H,I,s3,_⟩:=F8 g (g++[CG 0 0]) (CG 0 0) (Bo d i x).1 (JM.refl _);have e:=E [59] (Bo d i x).2;exact ⟨by trivial,⟨_,I,.inl ⟨by omega,by omega,by rw [e.2.1];exact k2,by rw [e.2.2.1];exact k3,k4,k5⟩⟩,H⟩
mutual
def FN(fs:List FS)(inn:Nat):TS→Nat→Nat→Nat→Prop
 | .mk s [],i,pl,ca=>∃u,fs[i]? =some u∧SC s u inn∧(s.kind=1→u.i9=pl+1)∧(s.kind=8→u.i9=ca+1)
 | .mk s [(_,ts)],i,pl,ca=>∃u,fs[i]? =some u∧u.Yh=inn∧((s.kind=12∧u.kind=13)∨(s.kind=11∧u.kind=12))∧u.other=[]∧OY fs inn ts u.Yd pl ca
 | .mk s [(_,ts),(_,ts2)],i,pl,ca=>∃u,fs[i]? =some u∧u.Yh=inn∧s.kind=11∧u.kind=12∧OY fs inn ts u.Yd pl ca∧OY fs inn ts2 u.other (pl+nL 1 ts) (ca+nL 8 ts)
 | .mk _ (_::_::_::_),_,_,_=>False
def OY(fs:List FS)(inn:Nat):List TS→List Nat→Nat→Nat→Prop
 | [],l,_,_=>l=[]
 | t::ts,l,pl,ca=>∃j l',l=j::l'∧FN fs inn t j pl ca∧OY fs inn ts l' (pl+nK 1 t) (ca+nK 8 t)
end
theorem Rz{k:Nat}:Gg k=2↔k=1:=by
 unfold Gg;repeat' split
 all_goals omega
theorem Pv{k:Nat}:Gg k=9↔k=8:=by
 unfold Gg;repeat' split
 all_goals omega
theorem Nv{J:Nat}{y:List FS}:∀(d e i m k w r:Nat) (t:TS),CL J d y i t→EY e y i m k w r→FN y J t i m k∧w=m+nK 1 t∧r=k+nK 8 t
 | 0,_,_,_,_,_,_,_,h,_=>h.elim
 | _+1,0,_,_,_,_,_,_,_,h=>h.elim
 | d+1,e+1,i,m,k,w,r,.mk s Z,h,B=>by
   have L:∀(l:List Nat) (o:List TS) (m k w r:Nat),Cz (fun j t=>i<j∧CL J d y j t) l o→Hj (fun j a b c x=>i<j∧EY e y j a b c x) l m k w r→OY y J o l m k∧w=m+nL 1 o∧r=k+nL 8 o:=by
    intro l o m k w r Q;induction Q generalizing m k with
    | nil=>intro h;exact ⟨rfl,by simp [nL,h.1],by simp [nL,h.2]⟩
    | @cons j t l o S _ T=> rintro ⟨I,C,U,V⟩;obtain ⟨W,X,Y⟩:=Nv d e j m k I C t S.2 U.2;obtain ⟨K,N,O⟩:=T I C V;subst X Y;exact ⟨⟨j,l,rfl,W,K⟩,by rw [N];simp [nL];omega,by rw [O];simp [nL];omega⟩
   obtain ⟨u,H,h⟩:=h;obtain ⟨u',P,B⟩:=B;rw [H] at P;cases P;rcases h with ⟨rfl,M⟩ | ⟨p,o,rfl,rfl,q,F,_,_,G,E⟩ | ⟨p,o,rfl,rfl,q,F,_,_,G,E⟩ | ⟨p,o,p2,a1,rfl,rfl,q,F,_,_,E,R⟩
   ·have q:=M.kind;have hf:=M.Yx;have a0:u.kind≠12∧u.kind≠13:=by
     rw [q];unfold Gg;repeat' split
     all_goals omega
    rcases B with ⟨_,_,n,g,f,v⟩ | ⟨n,_⟩
    ·rw [q] at n g f v;simp only [Rz,Pv] at n g f v;refine ⟨⟨u,H,M,f,v⟩,?_,?_⟩
     ·rw [n];simp [nK,nB]
     ·rw [g];simp [nK,nB]
    ·omega
   ·rcases B with ⟨n,g,_⟩ | ⟨n,I,C,g,f⟩
    ·omega
    ·obtain ⟨D,z,A⟩:=L _ _ _ _ _ _ E g;rw [G] at f;obtain ⟨f,v⟩:=f;exact ⟨⟨u,H,F,.inl ⟨rfl,q⟩,G,D⟩,by rw [f,z];simp [nK,nB,Eo],by rw [v,A];simp [nK,nB,Eo]⟩
   ·rcases B with ⟨n,g,_⟩ | ⟨n,I,C,g,f⟩
    ·omega
    ·obtain ⟨D,z,A⟩:=L _ _ _ _ _ _ E g;rw [G] at f;obtain ⟨f,v⟩:=f;exact ⟨⟨u,H,F,.inr ⟨rfl,q⟩,G,D⟩,by rw [f,z];simp [nK,nB,Eo],by rw [v,A];simp [nK,nB,Eo]⟩
   ·rcases B with ⟨n,g,_⟩ | ⟨n,I,C,g,f⟩
    ·omega
    ·obtain ⟨D,z,A⟩:=L _ _ _ _ _ _ E g;obtain ⟨K,N,O⟩:=L _ _ _ _ _ _ R f;rw [z,A] at K;exact ⟨⟨u,H,F,rfl,q,D,K⟩,by rw [N,z];simp [nK,nB,Eo];omega,by rw [O,A];simp [nK,nB,Eo];omega⟩
theorem Rx{p:Nat}{m:List FS}(d e:Nat):∀(l:List Nat) (i:List TS) (g f n k:Nat),Cz (CL p d m) l i→Hj (fun j a b c x=>EY e m j a b c x) l g f n k→OY m p i l g f∧n=g+nL 1 i∧k=f+nL 8 i:=by
 intro l i g f n k r;induction r generalizing g f with
 | nil=>intro h;exact ⟨rfl,by simp [nL,h.1],by simp [nL,h.2]⟩
 | @cons j t l i s _ u=> rintro ⟨q,o,z,A⟩;obtain ⟨B,C,D⟩:=Nv d e j g f q o t s z;obtain ⟨v,w,y⟩:=u q o A;subst C D;exact ⟨⟨j,l,rfl,B,v⟩,by rw [w];simp [nL];omega,by rw [y];simp [nL];omega⟩
def IQ(e:Nat)(m:List FS):List RF→Nat→Nat→Nat→Nat→Prop
 | [],h,d,i,g=>i=h∧g=d
 | f::l,h,d,i,g=>∃n k,Hj (fun j a b c x=>EY e m j a b c x) f.Yd h d n k∧IQ e m l n k i g
theorem IQ.pre{e:Nat}{f g:List FS}(i:JM f g):∀{l:List RF} {a b c d:Nat},IQ e f l a b c d→IQ e g l a b c d
 | [],_,_,_,_,h=>h
 | _::_,_,_,_,_,⟨n,j,k,m⟩=>⟨n,j,k.mono (fun _ _ _ _ _ q=>q.pre i),IQ.pre i m⟩
theorem IQ.snoc{e:Nat}{k:List FS}:∀{l:List RF} {a b c d:Nat} {f:RF} {i g:Nat},IQ e k l a b c d→Hj (fun j a b c x=>EY e k j a b c x) f.Yd c d i g→IQ e k (l++[f]) a b i g
 | [],_,_,_,_,f,i,g,h,q=>by obtain ⟨rfl,rfl⟩:=h;exact ⟨i,g,q,rfl,rfl⟩
 | _::_,_,_,_,_,_,_,_,⟨p,m,n,o⟩,q=>⟨p,m,n,IQ.snoc o q⟩
end Go.Proofs.YthppbgndiplgnaaGreatDoor
