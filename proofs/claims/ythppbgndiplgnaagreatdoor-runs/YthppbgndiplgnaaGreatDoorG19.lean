/- One of the texts of the proof of runs_card_holds: RdL0. -/
import Derived.Test.YthppbgndiplgnaaGreatDoorG18
namespace Go.Proofs.YthppbgndiplgnaaGreatDoor
open Go.RowKit
abbrev RowQ:=TypeId×Nat×Value×Nat×List Value
def RowQ.ok(B:Nat)(w:World)(q:RowQ):Prop:=(q.1=3∨q.1=64)∧w.ownsRow B q.1 q.2.1 q.2.2.1 q.2.2.2.1 q.2.2.2.2
theorem RowQ.ok.f8{B:Nat}{w w':World}{X:Nat→Prop}{q:RowQ}(h:q.ok B w)(f:Ab X w w')(d:∀(k:Nat) (a:Array Value) (t:TypeId) (b:Nat×Nat),X k→w.heap[k]? =some (.cells a t b)→t≠3∧t≠64):q.ok B w':=
 ⟨h.1,Am h.2 f (fun k a b c e=>h.1.elim (d k a _ b c e).1 (d k a _ b c e).2)⟩
theorem J9{w b a t}(h:Ar b a t w)(g:t≠3∧t≠64)(k c u d)(f:k=b)(e:w.heap[k]? =some (.cells c u d)):u≠3∧u≠64:=by subst f;unfold Ar at h;rw [e] at h;simp only [bA,bH] at h;rw [h.2.1];exact g
structure SG(y C I g n D B:Nat)(U:Nat→Prop)(j:List Tk)(G J sv:Value)(x:St)(A:List FS)(H:Array Value)(L:List RowQ)(E w:World):Prop where
 s:SF y C I g n D B U j G sv x A H w
 f:EW y C J sv E w
 b:E.heap.size≤I
 c:x.s9<n
 z:(Ai j (n-1)).sort=0
 r:∀q∈L,RowQ.ok B w q
 m:B≤E.heap.size
section
variable {y C I g n D B : Nat} {U : Nat → Prop} {j : List Tk} {G J sv : Value} {x : St} {A : List FS} {H : Array Value} {L : List RowQ} {E w w' : World}
theorem SG.quiet(h:SG y C I g n D B U j G J sv x A H L E w)(a:Ab (fun _=>False) w w'):SG y C I g n D B U j G J sv x A H L E w':=
 ⟨h.s.quiet a,h.f.trans (EW.Yu (a.mono (fun _ _ q=>q.elim))),h.b,h.c,h.z,fun q b=>(h.r q b).f8 a (fun _ _ _ _ q=>q.elim),h.m⟩
theorem SG.Yo(h:SG y C I g n D B U j G J sv x A H L E w)(i u):SG y C I g n D B U j G J sv x A (H.setIfInBounds i u) L E (w.setCell ⟨I,i,none⟩ u):=
 ⟨h.s.Yo i u,h.f.Yc i u h.b,h.b,h.c,h.z,fun q a=>(h.r q a).f8 ((Ab.refl _ _).p7 i u) (J9 h.s.sx (by decide)),h.m⟩
theorem SG.cast{a}(h:SG y C I g n D B U j G J sv x A H L E w)(e:H=a):SG y C I g n D B U j G J sv x A a L E w:=e▸h
theorem SG.one{q}(h:SG y C I g n D B U j G J sv x A H (q::L) E w):SG y C I g n D B U j G J sv x A H [q] E w:=
 ⟨h.s,h.f,h.b,h.c,h.z,fun p a=>h.r p (by rw [bO.1 a];exact .head _),h.m⟩
theorem SG.i8(h:SG y C I g n D B U j G J sv x A H L E w)(v l)(a:v.toList=l):
 Calls Tryz.prog 65 #[.pointer (some ⟨y,0,none⟩),.string v] w fun e w'=>e=.returned (.bool (Bn x.Ya (Ai j x.s9) l))∧dJ (SG y C I g n D B U j G J sv x A H L E w'):=
 (PH y C g n D x.s9 x.Ya j v l a w h.s.rd h.s.tk h.c).mono (fun _ _ q=>⟨q.1,h.quiet q.2⟩)
theorem SG.YD(h:SG y C I g n D B U j G J sv x A H L E w)(v l)(b:v.toList=l):
 Calls Tryz.prog 33 #[.pointer (some ⟨y,0,none⟩),.string v] w fun e w'=>∃a,dJ (Au j l x=a)∧e=.returned (.tuple #[])∧dJ (SG y C I g n D B U j G J sv a A H L E w'):=
 (Ik y C g n D x.s9 x.Ya j v l b w h.s.rd h.s.tk h.c).mono (fun _ _ q=>⟨_,rfl,q.1,h.s.YD rfl q.2.2 q.2.1,h.f.tr q.2.2,h.b,Ca rfl h.z h.c,h.z,fun p c=>(h.r p c).f8 q.2.2 (J9 h.s.rd.l9 (by decide)),h.m⟩)
theorem SG.get(h:SG y C I g n D B U j G J sv x A H L E w)(k:Nat)(b:k≠0):
 Calls Tryz.prog 34 #[.pointer (some ⟨y,0,none⟩),.int .i64 k] w fun e w'=>∃q a,dJ (Bq j k x=(q,a))∧e=.returned (HJ q)∧dJ (SG y C I g n D B U j G J sv a A H L E w'):=
 (JR y C g n D x.s9 k x.Ya j w h.s.rd h.s.tk h.c).mono (fun _ _ q=>⟨_,_,rfl,q.1,h.s.get rfl q.2.2 q.2.1,h.f.tr q.2.2,h.b,Eg rfl b h.z h.c,h.z,fun p c=>(h.r p c).f8 q.2.2 (J9 h.s.rd.l9 (by decide)),h.m⟩)
theorem SG.value(h:SG y C I g n D B U j G J sv x A H L E w)(s)(u:s.args=[])(F:x.pl≤4001)(v:x.ca≤4001):
 Calls Tryz.prog 89 #[.pointer (some ⟨y,0,none⟩),.agg (AS s A0 A0 A0)] w fun e w'=>∃b r a l c,dJ (Dh j x s=(b,r))∧e=.returned (.agg (AS b (.slice a l c) A0 A0))∧
  dJ (SG y C I g n D B U j G J sv r A H ((64,3,.slice a l c,b.args.length,BC b.args)::L) E w')∧dJ (∀k,Value.ownBlock (.slice a l c)=some k→E.heap.size≤k):=by
 refine (SX y C g n D j G sv x s w h.s.rd h.s.tk h.s.pr h.c h.z u F v).mono ?_;rintro e w' ⟨N,rfl,i,K,M,z,f⟩;obtain ⟨a,l,c,rfl⟩:=Ad i;have O:=h.f.f8.size;refine ⟨_,_,a,l,c,rfl,rfl,⟨h.s.value K M z f,h.f.trans (EW.Yu f),h.b,OR h.z x s h.c,h.z,?_,h.m⟩,fun k d=>by have:=(i.lt k d).1;omega⟩;intro q m;rcases cM.1 m with rfl | m
 ·exact ⟨.inr rfl,Ax i (by have:=h.m;omega)⟩
 ·exact (h.r q m).f8 f (fun k o t p d=>d.elim (J9 h.s.rd.l9 (by decide) k o t p) (J9 h.s.pr.l9 (by decide) k o t p))
theorem SG.block{f inn:Nat}(h:SG y C I g n D B U j G J sv x A H L E w)(ih:∀k,k≤f→Hl k)(T:H7 n x A.length)(Y:x.Ya=none→2*(n-x.s9)≤f):
 Calls Tryz.prog 36 #[.pointer (some ⟨y,0,none⟩),.int .i64 inn] w fun e w'=>∃p o x' v r s t F K M m,dJ ((Ai j x.s9).pos=p∧(Az j f inn (Au j [123] x) A []).1=o∧Au j [125] (Az j f inn (Au j [123] x) A []).2.1=x'∧(Az j f inn (Au j [123] x) A []).2.2=v)∧
  e=.returned (.tuple #[.int .i64 p,.slice r s t])∧dJ (SG y C I g n D B m j G J (.slice F K M) x' v H ((3,1,.slice r s t,o.length,o.map fun i:Nat=>Value.int .i64 (i:Int))::L) E w')∧
  dJ ((∀k,U k→m k)∧(∀k,m k→U k∨E.heap.size≤k)∧∀k,Value.ownBlock (.slice r s t)=some k→E.heap.size≤k)∧dJ (H7 n x' v.length∧A.length≤v.length∧(x'.Ya=none→x.s9+1≤x'.s9)):=by
 have X:(Au j [123] x).s9<n:=Ca rfl h.z h.c;have R:=Bb j [123] x;obtain ⟨Q,q2,q3⟩:=(DG h.z f).1 inn (Au j [123] x) A [] (T.YB R X);have S:=Bb j [125] (Az j f inn (Au j [123] x) A []).2.1;have a4:=h.f.f8.size;have a3:I<w.heap.size:=Ae h.s.sx;have Z:=h.m;have V:=h.s.YP;refine (LF f ih y C g n D B inn (fun k=>U k∧k<w.heap.size) j G sv x A w h.s.rd h.s.tk h.s.pr h.s.st.below (fun k b=>b.2) (by omega) h.z T Y).mono ?_;rintro e w' ⟨a2,bv,m,a5,a1,a6,rfl,P,hr,u,hp,W,z⟩;obtain ⟨r,s,t,rfl⟩:=Ad P;obtain ⟨F,K,M,rfl⟩:∃a l c,a2=.slice a l c:=by obtain ⟨_,q,_⟩:=W;exact Ad q
 refine ⟨_,_,_,_,r,s,t,F,K,M,fun k=>m k∨U k,⟨rfl,rfl,rfl,rfl⟩,rfl,⟨⟨hr,u,hp,h.s.sx.f8 z.f8 ?_,W.more (fun _=>.inl),?_⟩,h.f.trans z,h.b,Ca rfl h.z Q.1,h.z,?_,Z⟩,⟨fun k=>.inr,fun k q=>q.elim (fun q=>(a1 k q).imp (fun q=>q.1) (fun q=>by omega)) .inl,fun k b=>by have:=(P.lt k b).1;omega⟩,Q.YB S (Ca rfl h.z Q.1),q3,fun e=>by have:=S.2.2.2 e;have:=R.1;omega⟩
 ·rintro (q | q | q)
  ·exact V.2.2.1 q
  ·exact V.2.2.2.2.1 q
  ·exact h.s.nb _ q rfl
 ·intro k b;rcases z.own k b with q | q
  ·exact h.s.nb k q
  ·omega
 ·intro q d;rcases cM.1 d with rfl | d
  ·exact ⟨.inl rfl,Ax P (by omega)⟩
  ·obtain ⟨_,a0,_⟩:=h.s.st;have d:=h.r q d;refine ⟨d.1,Am d.2 z.f8 (fun k N O b=>?_)⟩;have u:q.1≠110∧q.1≠62∧q.1≠119:=by rcases d.1 with e | e<;>rw [e]<;>decide
   rcases b with b | b | b
   ·exact CR h.s.rd.l9 (Ne.symm u.1) k N O b
   ·exact CR h.s.pr.l9 (Ne.symm u.2.1) k N O b
   ·exact GS a0 (Ne.symm u.2.2) k N O b
structure SE(y C I g n D B:Nat)(U V:Nat→Prop)(j:List Tk)(G J sv:Value)(x:St)(A:List FS)(H:Array Value)(L:List RowQ)(E w:World)(i:Nat)(S:FS)(av bv ov:Value):Prop where
 g:SG y C I g n D B V j G J sv x A H L E w
 u:(∀k,U k→V k)∧∀k,V k→U k∨E.heap.size≤k
 l:i<A.length
 a:DO B w av S.args
 d:AD B w bv S.Yd
 e:AD B w ov S.other
 o:∀k,(av.ownBlock=some k∨bv.ownBlock=some k∨ov.ownBlock=some k)→E.heap.size≤k
theorem SE.post{V:Nat→Prop}{i d l c S a b e r}(h:SE y C I g n D B U V j G J (.slice (some ⟨d,0,none⟩) l c) x A H L E w i S a b e)(p:r=(i,x,A.set i S)):
 Qp y C g n D B U j G J E r (.returned (.int .i64 i)) (KQ w d (i*15) (AS S a b e).toList).drew:=by
 subst p;have F:=(h.g.s.st.more (U':=fun k=>V k∨(a.ownBlock=some k∨b.ownBlock=some k∨e.ownBlock=some k)) (fun _=>.inl)).put h.l ⟨a,b,e,rfl,h.a,h.d,h.e,fun _=>.inr⟩;have O:=KI w d (i*15) (AS S a b e).toList;obtain ⟨s,t,v⟩:=h.g.s.YX d rfl;have o:g≠d:=by obtain ⟨_,q,_⟩:=h.g.s.st;obtain ⟨u,m⟩:=BO q;exact h.g.s.tk.ne m (by decide)
 have f:∀W:World,Ab (fun _=>False) W W.drew:=fun W=>(Ab.refl _ W).drew
 exact ⟨_,_,fun k q=>.inl (h.u.1 k q),fun k q=>q.elim (h.u.2 k) (fun q=>.inr (h.o k q)),rfl,(h.g.s.rd.f8 O (fun q=>s q.symm)).f8 (f _) (fun q=>q),(h.g.s.tk.f8 O o).f8 (f _) (fun q=>q),(h.g.s.pr.l9.f8 O (fun q=>t q.symm)).f8 (f _) (fun q=>q),F.f8 (f _) (fun _ _ q=>q) (fun _ _ _ _ q=>q.elim),(h.g.f.put rfl O).drew⟩
end
theorem Jh(w a o s b c d):KQ w a o (AS s b c d).toList=((((((((((((((w.setCell ⟨a,o,none⟩ (.int .i64 s.kind)).setCell ⟨a,o+1,none⟩ (.string s.p.i6)).setCell ⟨a,o+2,none⟩ (.int .i64 s.p.pos)).setCell ⟨a,o+3,none⟩ (.int .i64 s.p.sort)).setCell ⟨a,o+4,none⟩ (.string s.q.i6)).setCell ⟨a,o+5,none⟩ (.int .i64 s.q.pos)).setCell ⟨a,o+6,none⟩ (.int .i64 s.q.sort)).setCell ⟨a,o+7,none⟩ (.int .i64 s.field)).setCell ⟨a,o+8,none⟩ b).setCell ⟨a,o+9,none⟩ (.int .i64 s.i9)).setCell ⟨a,o+10,none⟩ c).setCell ⟨a,o+11,none⟩ d).setCell ⟨a,o+12,none⟩ (.int .i64 s.br)).setCell ⟨a,o+13,none⟩ (.int .i64 s.YT)).setCell ⟨a,o+14,none⟩ (.int .i64 s.Yh):=rfl
theorem Ar.c7{b a t w}(h:Ar b a t w):w.cell? ⟨b,0,none⟩=a[0]? ∧w.cell? ⟨b,1,none⟩=a[1]? ∧w.cell? ⟨b,2,none⟩=a[2]? ∧w.cell? ⟨b,3,none⟩=a[3]? ∧w.cell? ⟨b,4,none⟩=a[4]? ∧w.cell? ⟨b,5,none⟩=a[5]? ∧w.cell? ⟨b,6,none⟩=a[6]? ∧∀i,w.frozen? ⟨b,i,none⟩=false:=
 ⟨h.cell 0,h.cell 1,h.cell 2,h.cell 3,h.cell 4,h.cell 5,h.cell 6,h.frozen⟩
theorem W6(H:Array Value)(a:H.size=15)(b c i k m n o p q r d e f g h:Value):((((((((((((((H.setIfInBounds 0 b).setIfInBounds 1 c).setIfInBounds 2 i).setIfInBounds 3 k).setIfInBounds 4 m).setIfInBounds 5 n).setIfInBounds 6 o).setIfInBounds 7 p).setIfInBounds 8 q).setIfInBounds 9 r).setIfInBounds 10 d).setIfInBounds 11 e).setIfInBounds 12 f).setIfInBounds 13 g).setIfInBounds 14 h=#[b,c,i,k,m,n,o,p,q,r,d,e,f,g,h]:=by obtain ⟨l⟩:=H;simp only [List.size_toArray] at a;rcases l with _ | ⟨s,_ | ⟨t,_ | ⟨F,_ | ⟨K,_ | ⟨L,_ | ⟨M,_ | ⟨N,_ | ⟨O,_ | ⟨P,_ | ⟨Q,_ | ⟨u,_ | ⟨v,_ | ⟨w,_ | ⟨x,_ | ⟨z,_ | ⟨B,l⟩⟩⟩⟩⟩⟩⟩⟩⟩⟩⟩⟩⟩⟩⟩⟩<;>first | (simp at a;done) | (simp at a;omega) | simp
def My(f:Nat)(W:List UInt8→Prop):Prop:=∀(y C g n D B a:Nat) (U:Nat→Prop) (j:List Tk) (G sv:Value) (x:St) (A:List FS) (w:World),AM y C g n D x.s9 x.Ya w→AP g n D j w→Cr C G sv x.pl x.ca w→BA B U w sv A→B≤w.heap.size→(Ai j (n-1)).sort=0→H7 n x A.length→x.Ya=none→2*(n-x.s9)≤f→W (AJ (Ai j x.s9))→
 Calls Tryz.prog 67 #[.pointer (some ⟨y,0,none⟩),.int .i64 a] w fun e w'=>Qp y C g n D B U j G sv w (AQ j f a x A) e w'
end Go.Proofs.YthppbgndiplgnaaGreatDoor
