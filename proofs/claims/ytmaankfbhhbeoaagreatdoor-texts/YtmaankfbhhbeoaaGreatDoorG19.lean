/- One of the texts of the proof of texts_card_holds: RdL0. -/
import Derived.Test.YtmaankfbhhbeoaaGreatDoorG18
namespace Go.Proofs.YtmaankfbhhbeoaaGreatDoor
open Go.RowKit
abbrev RowQ:=TypeId×Nat×Value×Nat×List Value
def RowQ.ok(B:Nat)(w:World)(q:RowQ):Prop:=(q.1=3∨q.1=52)∧w.ownsRow B q.1 q.2.1 q.2.2.1 q.2.2.2.1 q.2.2.2.2
theorem RowQ.ok.d7{B:Nat}{w K:World}{X:Nat→Prop}{q:RowQ}(h:q.ok B w)(f:Ab X w K)(d:∀(k:Nat) (a:Array Value) (t:TypeId) (b:Nat×Nat),X k→w.heap[k]? =some (.cells a t b)→t≠3∧t≠52):q.ok B K:=
 ⟨h.1,Am h.2 f (fun k a b c e=>h.1.elim (d k a _ b c e).1 (d k a _ b c e).2)⟩
theorem FK{w b a t}(h:Aq b a t w)(g:t≠3∧t≠52)(k c u d)(f:k=b)(e:w.heap[k]? =some (.cells c u d)):u≠3∧u≠52:=by subst f;unfold Aq at h;rw [e] at h;simp only [Option.some.injEq,Obj.cells.injEq] at h;rw [h.2.1];exact g
structure SG(y C I g n D B:Nat)(U:Nat→Prop)(j:List Tk)(G J sv:Value)(x:St)(A:List FS)(H:Array Value)(L:List RowQ)(E w:World):Prop where
 s:SF y C I g n D B U j G sv x A H w
 f:Da y C J sv E w
 b:E.heap.size≤I
 c:x.i9<n
 z:(Ai j (n-1)).sort=0
 r:∀q∈L,RowQ.ok B w q
 m:B≤E.heap.size
section
variable {y C I g n D B : Nat} {U : Nat → Prop} {j : List Tk} {G J sv : Value} {x : St} {A : List FS} {H : Array Value} {L : List RowQ} {E w K : World}
theorem SG.quiet(h:SG y C I g n D B U j G J sv x A H L E w)(a:Ab (fun _=>False) w K):SG y C I g n D B U j G J sv x A H L E K:=
 ⟨h.s.quiet a,h.f.trans (Da.q9 (a.mono (fun _ _ q=>q.elim))),h.b,h.c,h.z,fun q b=>(h.r q b).d7 a (fun _ _ _ _ q=>q.elim),h.m⟩
theorem SG.m9(h:SG y C I g n D B U j G J sv x A H L E w)(i u):SG y C I g n D B U j G J sv x A (H.setIfInBounds i u) L E (w.setCell ⟨I,i,none⟩ u):=
 ⟨h.s.m9 i u,h.f.l9 i u h.b,h.b,h.c,h.z,fun q a=>(h.r q a).d7 ((Ab.refl _ _).i7 i u) (FK h.s.sx (by decide)),h.m⟩
theorem SG.cast{a}(h:SG y C I g n D B U j G J sv x A H L E w)(e:H=a):SG y C I g n D B U j G J sv x A a L E w:=e▸h
theorem SG.one{q}(h:SG y C I g n D B U j G J sv x A H (q::L) E w):SG y C I g n D B U j G J sv x A H [q] E w:=
 ⟨h.s,h.f,h.b,h.c,h.z,fun p a=>h.r p (by rw [List.mem_singleton.1 a];exact .head _),h.m⟩
theorem SG.d8(h:SG y C I g n D B U j G J sv x A H L E w)(v l)(a:v.toList=l):
 Calls Tryz.prog 45 #[.pointer (some ⟨y,0,none⟩),.string v] w fun e K=>e=.returned (.bool (AW x.l6 (Ai j x.i9) l))∧Nj (SG y C I g n D B U j G J sv x A H L E K):=
 (Jm y C g n D x.i9 x.l6 j v l a w h.s.rd h.s.tk h.c).mono (fun _ _ q=>⟨q.1,h.quiet q.2⟩)
theorem SG.s8(h:SG y C I g n D B U j G J sv x A H L E w)(v l)(b:v.toList=l):
 Calls Tryz.prog 27 #[.pointer (some ⟨y,0,none⟩),.string v] w fun e K=>∃a,Nj (Ao j l x=a)∧e=.returned (.tuple #[])∧Nj (SG y C I g n D B U j G J sv a A H L E K):=
 (EG y C g n D x.i9 x.l6 j v l b w h.s.rd h.s.tk h.c).mono (fun _ _ q=>⟨_,rfl,q.1,h.s.s8 rfl q.2.2 q.2.1,h.f.tr q.2.2,h.b,Bo rfl h.z h.c,h.z,fun p c=>(h.r p c).d7 q.2.2 (FK h.s.rd.i6 (by decide)),h.m⟩)
theorem SG.get(h:SG y C I g n D B U j G J sv x A H L E w)(k:Nat)(b:k≠0):
 Calls Tryz.prog 28 #[.pointer (some ⟨y,0,none⟩),.int .i64 k] w fun e K=>∃q a,Nj (Bc j k x=(q,a))∧e=.returned (EW q)∧Nj (SG y C I g n D B U j G J sv a A H L E K):=
 (FE y C g n D x.i9 k x.l6 j w h.s.rd h.s.tk h.c).mono (fun _ _ q=>⟨_,_,rfl,q.1,h.s.get rfl q.2.2 q.2.1,h.f.tr q.2.2,h.b,C5 rfl b h.z h.c,h.z,fun p c=>(h.r p c).d7 q.2.2 (FK h.s.rd.i6 (by decide)),h.m⟩)
theorem SG.value(h:SG y C I g n D B U j G J sv x A H L E w)(s)(u:s.args=[])(F:x.pl≤4001)(v:x.ca≤4001):
 Calls Tryz.prog 61 #[.pointer (some ⟨y,0,none⟩),.agg (Cr s AG AG AG)] w fun e K=>∃b r a l c,Nj (CM j x s=(b,r))∧e=.returned (.agg (Cr b (.slice a l c) AG AG))∧
  Nj (SG y C I g n D B U j G J sv r A H ((52,3,.slice a l c,b.args.length,A3 b.args)::L) E K)∧Nj (∀k,Value.ownBlock (.slice a l c)=some k→E.heap.size≤k):=by
 refine (Ko y C g n D j G sv x s w h.s.rd h.s.tk h.s.pr h.c h.z u F v).mono ?_;rintro e K ⟨O,rfl,i,M,N,z,f⟩;obtain ⟨a,l,c,rfl⟩:=Af i;have P:=h.f.d7.size;refine ⟨_,_,a,l,c,rfl,rfl,⟨h.s.value M N z f,h.f.trans (Da.q9 f),h.b,IW h.z x s h.c,h.z,?_,h.m⟩,fun k d=>by have:=(i.lt k d).1;omega⟩;intro q m;rcases List.mem_cons.1 m with rfl | m
 ·exact ⟨.inr rfl,Ar i (by have:=h.m;omega)⟩
 ·exact (h.r q m).d7 f (fun k o t p d=>d.elim (FK h.s.rd.i6 (by decide) k o t p) (FK h.s.pr.i6 (by decide) k o t p))
theorem SG.block{f inn:Nat}(h:SG y C I g n D B U j G J sv x A H L E w)(ih:∀k,k≤f→Eh k)(V:Fq n x A.length)(Z:x.l6=none→2*(n-x.i9)≤f):
 Calls Tryz.prog 30 #[.pointer (some ⟨y,0,none⟩),.int .i64 inn] w fun e K=>∃p o x' v r s t F M N m,Nj ((Ai j x.i9).pos=p∧(As j f inn (Ao j [123] x) A []).1=o∧Ao j [125] (As j f inn (Ao j [123] x) A []).2.1=x'∧(As j f inn (Ao j [123] x) A []).2.2=v)∧
  e=.returned (.tuple #[.int .i64 p,.slice r s t])∧Nj (SG y C I g n D B m j G J (.slice F M N) x' v H ((3,1,.slice r s t,o.length,o.map fun i:Nat=>Value.int .i64 (i:Int))::L) E K)∧
  Nj ((∀k,U k→m k)∧(∀k,m k→U k∨E.heap.size≤k)∧∀k,Value.ownBlock (.slice r s t)=some k→E.heap.size≤k)∧Nj (Fq n x' v.length∧A.length≤v.length∧(x'.l6=none→x.i9+1≤x'.i9)):=by
 have Y:(Ao j [123] x).i9<n:=Bo rfl h.z h.c;have S:=AR j [123] x;obtain ⟨R,q2,q3⟩:=(CA h.z f).1 inn (Ao j [123] x) A [] (V.t6 S Y);have T:=AR j [125] (As j f inn (Ao j [123] x) A []).2.1;have a4:=h.f.d7.size;have a3:I<w.heap.size:=Ad h.s.sx;have hm:=h.m;have W:=h.s.u5;refine (GP f ih y C g n D B inn (fun k=>U k∧k<w.heap.size) j G sv x A w h.s.rd h.s.tk h.s.pr h.s.st.below (fun k b=>b.2) (by omega) h.z V Z).mono ?_;rintro e K ⟨a2,bv,m,a5,a1,a6,rfl,Q,hr,u,hp,X,z⟩;obtain ⟨r,s,t,rfl⟩:=Af Q;obtain ⟨F,M,N,rfl⟩:∃a l c,a2=.slice a l c:=by obtain ⟨_,q,_⟩:=X;exact Af q
 refine ⟨_,_,_,_,r,s,t,F,M,N,fun k=>m k∨U k,⟨rfl,rfl,rfl,rfl⟩,rfl,⟨⟨hr,u,hp,h.s.sx.d7 z.d7 ?_,X.more (fun _=>.inl),?_⟩,h.f.trans z,h.b,Bo rfl h.z R.1,h.z,?_,hm⟩,⟨fun k=>.inr,fun k q=>q.elim (fun q=>(a1 k q).imp (fun q=>q.1) (fun q=>by omega)) .inl,fun k b=>by have:=(Q.lt k b).1;omega⟩,R.t6 T (Bo rfl h.z R.1),q3,fun e=>by have:=T.2.2.2 e;have:=S.1;omega⟩
 ·rintro (q | q | q)
  ·exact W.2.2.1 q
  ·exact W.2.2.2.2.1 q
  ·exact h.s.nb _ q rfl
 ·intro k b;rcases z.own k b with q | q
  ·exact h.s.nb k q
  ·omega
 ·intro q d;rcases List.mem_cons.1 d with rfl | d
  ·exact ⟨.inl rfl,Ar Q (by omega)⟩
  ·obtain ⟨_,a0,_⟩:=h.s.st;have d:=h.r q d;refine ⟨d.1,Am d.2 z.d7 (fun k O P b=>?_)⟩;have u:q.1≠78∧q.1≠50∧q.1≠87:=by rcases d.1 with e | e<;>rw [e]<;>decide
   rcases b with b | b | b
   ·exact BD h.s.rd.i6 (Ne.symm u.1) k O P b
   ·exact BD h.s.pr.i6 (Ne.symm u.2.1) k O P b
   ·exact FF a0 (Ne.symm u.2.2) k O P b
structure SE(y C I g n D B:Nat)(U V:Nat→Prop)(j:List Tk)(G J sv:Value)(x:St)(A:List FS)(H:Array Value)(L:List RowQ)(E w:World)(i:Nat)(S:FS)(av bv ov:Value):Prop where
 g:SG y C I g n D B V j G J sv x A H L E w
 u:(∀k,U k→V k)∧∀k,V k→U k∨E.heap.size≤k
 l:i<A.length
 a:CP B w av S.args
 d:Bs B w bv S.p8
 e:Bs B w ov S.other
 o:∀k,(av.ownBlock=some k∨bv.ownBlock=some k∨ov.ownBlock=some k)→E.heap.size≤k
theorem SE.post{V:Nat→Prop}{i d l c S a b e r}(h:SE y C I g n D B U V j G J (.slice (some ⟨d,0,none⟩) l c) x A H L E w i S a b e)(p:r=(i,x,A.set i S)):
 Jy y C g n D B U j G J E r (.returned (.int .i64 i)) (Gn w d (i*15) (Cr S a b e).toList).drew:=by
 subst p;have F:=(h.g.s.st.more (U':=fun k=>V k∨(a.ownBlock=some k∨b.ownBlock=some k∨e.ownBlock=some k)) (fun _=>.inl)).put h.l ⟨a,b,e,rfl,h.a,h.d,h.e,fun _=>.inr⟩;have O:=Gh w d (i*15) (Cr S a b e).toList;obtain ⟨s,t,v⟩:=h.g.s.z6 d rfl;have o:g≠d:=by obtain ⟨_,q,_⟩:=h.g.s.st;obtain ⟨u,m⟩:=Dj q;exact h.g.s.tk.ne m (by decide)
 have f:∀W:World,Ab (fun _=>False) W W.drew:=fun W=>(Ab.refl _ W).drew
 exact ⟨_,_,fun k q=>.inl (h.u.1 k q),fun k q=>q.elim (h.u.2 k) (fun q=>.inr (h.o k q)),rfl,(h.g.s.rd.d7 O (fun q=>s q.symm)).d7 (f _) (fun q=>q),(h.g.s.tk.d7 O o).d7 (f _) (fun q=>q),(h.g.s.pr.i6.d7 O (fun q=>t q.symm)).d7 (f _) (fun q=>q),F.d7 (f _) (fun _ _ q=>q) (fun _ _ _ _ q=>q.elim),(h.g.f.put rfl O).drew⟩
end
theorem Fb(w a o s b c d):Gn w a o (Cr s b c d).toList=((((((((((((((w.setCell ⟨a,o,none⟩ (.int .i64 s.kind)).setCell ⟨a,o+1,none⟩ (.string s.p.d9)).setCell ⟨a,o+2,none⟩ (.int .i64 s.p.pos)).setCell ⟨a,o+3,none⟩ (.int .i64 s.p.sort)).setCell ⟨a,o+4,none⟩ (.string s.q.d9)).setCell ⟨a,o+5,none⟩ (.int .i64 s.q.pos)).setCell ⟨a,o+6,none⟩ (.int .i64 s.q.sort)).setCell ⟨a,o+7,none⟩ (.int .i64 s.field)).setCell ⟨a,o+8,none⟩ b).setCell ⟨a,o+9,none⟩ (.int .i64 s.f8)).setCell ⟨a,o+10,none⟩ c).setCell ⟨a,o+11,none⟩ d).setCell ⟨a,o+12,none⟩ (.int .i64 s.br)).setCell ⟨a,o+13,none⟩ (.int .i64 s.y8)).setCell ⟨a,o+14,none⟩ (.int .i64 s.r9):=rfl
theorem Aq.c7{b a t w}(h:Aq b a t w):w.cell? ⟨b,0,none⟩=a[0]? ∧w.cell? ⟨b,1,none⟩=a[1]? ∧w.cell? ⟨b,2,none⟩=a[2]? ∧w.cell? ⟨b,3,none⟩=a[3]? ∧w.cell? ⟨b,4,none⟩=a[4]? ∧w.cell? ⟨b,5,none⟩=a[5]? ∧w.cell? ⟨b,6,none⟩=a[6]? ∧∀i,w.frozen? ⟨b,i,none⟩=false:=
 ⟨h.cell 0,h.cell 1,h.cell 2,h.cell 3,h.cell 4,h.cell 5,h.cell 6,h.frozen⟩
theorem L8(H:Array Value)(a:H.size=15)(b c i k m n o p q r d e f g h:Value):((((((((((((((H.setIfInBounds 0 b).setIfInBounds 1 c).setIfInBounds 2 i).setIfInBounds 3 k).setIfInBounds 4 m).setIfInBounds 5 n).setIfInBounds 6 o).setIfInBounds 7 p).setIfInBounds 8 q).setIfInBounds 9 r).setIfInBounds 10 d).setIfInBounds 11 e).setIfInBounds 12 f).setIfInBounds 13 g).setIfInBounds 14 h=#[b,c,i,k,m,n,o,p,q,r,d,e,f,g,h]:=by obtain ⟨l⟩:=H;simp only [List.size_toArray] at a;rcases l with _ | ⟨s,_ | ⟨t,_ | ⟨F,_ | ⟨L,_ | ⟨M,_ | ⟨N,_ | ⟨O,_ | ⟨P,_ | ⟨Q,_ | ⟨R,_ | ⟨u,_ | ⟨v,_ | ⟨w,_ | ⟨x,_ | ⟨z,_ | ⟨B,l⟩⟩⟩⟩⟩⟩⟩⟩⟩⟩⟩⟩⟩⟩⟩⟩<;>first | (simp at a;done) | (simp at a;omega) | simp
def Hl(f:Nat)(W:List UInt8→Prop):Prop:=∀(y C g n D B a:Nat) (U:Nat→Prop) (j:List Tk) (G sv:Value) (x:St) (A:List FS) (w:World),Ax y C g n D x.i9 x.l6 w→AA g n D j w→Bj C G sv x.pl x.ca w→A2 B U w sv A→B≤w.heap.size→(Ai j (n-1)).sort=0→Fq n x A.length→x.l6=none→2*(n-x.i9)≤f→W (AB (Ai j x.i9))→
 Calls Tryz.prog 47 #[.pointer (some ⟨y,0,none⟩),.int .i64 a] w fun e K=>Jy y C g n D B U j G sv w (AO j f a x A) e K
end Go.Proofs.YtmaankfbhhbeoaaGreatDoor
