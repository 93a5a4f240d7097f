/- Part of the proof. -/
import Derived.Test.YtbkhmmeecjnnkaaGreatDoorG13
import Derived.Test.YtbkhmmeecjnnkaaGreatDoorShelf
import Derived.Sort.OwnSorted
set_option maxRecDepth 100000
set_option maxHeartbeats 40000000
namespace Go.Proofs.YtbkhmmeecjnnkaaGreatDoor
open Go.RowKit Go.Proofs.Tryz Go.Maps Go.Sort
open Option renaming none->Z,some->T
open Value renaming int->G,slice->Y,pointer->Z',string->Y',tuple->P',bool->O',agg->N',ownBlock->L'
open IntKind renaming i64->A
open Ending renaming returned->T'
open Obj renaming cells->R'
open List renaming length->L
open World renaming cell?->K',ownsRow->J'
open Go renaming World->I',Value->H',Calls->F',maxLen->E',Addr->A',results->zz
open Go.Proofs.Tryz renaming prog->zy
open Go.RowKit renaming Below->zx,intOf->zm
open _root_ renaming Nat->M,Int->zw,rfl->Q,decide->zu
open Bool renaming true->zt,false->zr
open Or renaming inl->zo,inr->zn
variable {u4:Act}{z5:Array Oper}{q1:Cg}{u0:Cd}{t0:FS}{q8:Int}{n0:Cc}{x1:C8}{q2:Cf}{U:CQ}{o0:Dd}{y1:Ci}{s1:Ls}{u2:Mc}{B C R X o1 p0 p4 s2 s3 v0:Nat}{z1:Nat->Prop}{p3:Oper}{z9:Type}{n8 q0:TypeId}{V s0 u1 v2 x2 z0:Value}{P v1 y0:World}
def qZ:M->M->Cd->Cd
 |0,_,s=>s
 |k+1,n,s=>if n=0 then s else qZ k (n / 10) (s++strOfNums [65+(n:zw) % 10])
def Z0(n:M):Cd:=qZ n n ⟨#[109]⟩
theorem jJ(k s):qZ k 0 s=s:=by cases k<;>simp[qZ]
theorem ZW(a:M)(B:a<=100000000000000)(w):
 F' zy 28 #[a] w λe o=>e=(Z0 a)/\O Cb w o:=by
 have⟨X,k⟩:=Dv<|Z0 a;rw[k];have b:D<|qZ a a ⟨#[109]⟩=X:=k;go_in;go_wp2_with fail;go_loopw[0,3] (λi v wr=>∃(n f:M) (x:Cd),n<=a/\n<=f/\i=G A n/\v=Y' x/\x+n<=a+1/\D (qZ f n x=X)/\O Cb w wr) (λi _ _=>(zm i).toNat);exact⟨a,a,_,by omega,by omega,Q,Q,by show 1+a<=a+1;omega,b,oq⟩;obtain⟨n,f,x,z,s,rfl,rfl,F,b,h⟩:=hrel;by_cases u:0<n
 .have m:=LH (p:=(0:zw)<n) (by omega);have E:(n:zw).tmod 10=((n % 10:M):zw):=by rw[Int.tmod_eq_emod_of_nonneg<|by omega];omega
  have C:(n:zw).tdiv 10=((n / 10:M):zw):=by rw[Int.tdiv_eq_ediv_of_nonneg<|by omega];omega
  obtain⟨f,rfl⟩:∃g,f=g+1:=⟨f-1,by omega⟩;have d:D<|qZ f (n / 10) (x++strOfNums [65+(n:zw) % 10])=X:=by have:=b.o;rw[qZ,Ba<|by omega]at this;exact this
  go_wp2_with fail;have l:=run_convert_bytes_arg (P:=zy) (wr.alloc<|R' #[.int .u8<|65+(n:zw) % 10] 5) 126 5 Q Q wr 0 1 1 [65+(n:zw) % 10] Q (λi t=>by
   obtain rfl:i=0:=by omega
   exact(W.new wr #[.int .u8<|65+(n:zw) % 10] 5).z 0) 9 Q
  rw[l];have⟨y,c⟩:=Dv<|strOfNums [65+(n:zw) % 10];rw[c];rw[c]at d;have H:y.size=1:=by rw[<-c];rfl
  have j:=h.alloc<|R' #[.int .u8<|65+(n:zw) % 10] 5;generalize wr.alloc (R' #[.int .u8<|65+(n:zw) % 10] 5)=q at j|-;have r:¬(9223372036854775807<x.size+y):=by omega
  go_wp2_with fail;go_roundw;exact⟨n / 10,f,x++y,by omega,by omega,by go_num,Q,by rw[ByteArray.size_append];omega,d,j⟩;simp[zm];omega
 .have m:=Hz (p:=(0:zw)<n) (by omega);obtain rfl:n=0:=by omega
  have e:=b.o;rw[jJ]at e;subst e;go_wp2_with fail;go_ret;exact⟨Q,h⟩
theorem jW(c:zw)(m:M)(w:I')(j: -9223372036854775808<=c)(k:c<=9223372036854775807)(n:0<m)(q:m<=9223372036854775807):
 F' zy 16 #[c,m] w λe i=>∃p:M,p<m/\e=p/\i=w:=by
 have d:∀a:zw,0<=a->D (∃p:M,p<m/\a.tmod m=p):=λa h=>⟨(a % m).toNat,by
  have:=Int.emod_lt_of_pos a (b:=(m:zw)) (by omega);have:=Int.emod_nonneg a (b:=(m:zw)) (by omega);omega,by
  rw[Int.tmod_eq_emod_of_nonneg h];have:=Int.emod_nonneg a (b:=(m:zw)) (by omega);omega⟩
 have o:(m:zw)≠0:=by omega
 by_cases l:c<0;have g:=LH (p:=c<0) (by omega);have⟨p,f,e⟩:=d (-(c+1)) (by omega);rotate_left;have g:=Hz (p:=c<0) (by omega);have⟨p,f,e⟩:=d c (by omega);all_goals
  clear d;go_in;go_wp2;go_ret;exact⟨p,f,Q,Q⟩
def Zp(w:I')(X:Ce):Prop:=∀k,X k->∃a t b,w.heap[k]? =T (R' a t b)/\(t=29\/t=36\/t=45\/t=40\/t=47)
theorem Zp.ne(h:Zp P z1){a}(d:P.heap[B]? =T (R' q1 q0 a))(f:q0≠29/\q0≠36/\q0≠45/\q0≠40/\q0≠47):¬z1 B:=λq=>by obtain⟨b,g,c,e,r⟩:=h B q;grind
theorem Zp.own(h:Zp P z1)(d:J' P B q0 C V R y1)(i:q0≠29/\q0≠36/\q0≠45/\q0≠40/\q0≠47):∀k,L' V=T k->¬z1 k:=λk b=>by
 obtain⟨a,l,c,rfl⟩:=CA d;cases a with
 |none=>cases b
 |some a=>
  rcases d.2 with⟨q,_⟩|⟨g,_,j,q,_,f,_⟩
  .cases q
  .cases q;cases b;exact h.ne f i
theorem Zp.str(h:Zp P z1)(b:O z1 P y0)(a:CK B P V n0):CK B y0 V n0:=Cx a b<|h.own a<|by decide
theorem Hg.law(h:Hg U B C R X P)(a:O z1 P y0)(f:Zp P z1)(K:¬z1 0):Hg U B C R X y0:=by
 have⟨H,N,F,S,k,b⟩:=h;have p:∀{x d c},P.heap[x]? =T (.map d c)->¬z1 x:=λe q=>by obtain⟨_,_,_,r,_⟩:=f _ q;grind
 have i:∀{x m},DV x m P->¬z1 x:=λg=>by have⟨d,c,e⟩:=g.xJ;exact p e
 have o:∀{x y},En Mj Mi x y P->¬z1 x:=λg=>by have⟨d,c,e⟩:=g.xJ;exact p e
 have⟨u,l,z,s⟩:=b.pm;have⟨v,n,E,t⟩:=b.em;refine⟨H,N,F,S,k.j a<|f.ne k<|by decide,⟨b.pl.j a λj V t' fz I q=>?_,⟨u,l.j a<|o l,z,λc x q=>(s c x q).j a<|i<|s c x q⟩,⟨v,n.j a<|o n,E,λc x q=>(t c x q).j a<|i<|t c x q⟩,b.rs.j a<|i b.rs,b.tb.j a K b.tl,Av b.tl a.size⟩⟩;have⟨_,_,_,r,e⟩:=f _ I;grind
theorem KO.law{d:Ce}(h:KO B C z1 V z0 o0 x1 R X P)(f:O d P y0)(c:Zp P d):KO B C z1 V z0 o0 x1 R X y0:=by
 have i:∀(k:M) (a:Cg) (u:TypeId) (b:M×M),d k->P.heap[k]? =T (R' a u b)->u≠3/\u≠104/\u≠9:=λk a u b e q=>by have⟨_,_,_,r,e⟩:=c _ e;grind
 refine⟨?_,h.fn.j f ?_ i,h.st.j f ?_ (λk a u b j l=>⟨(i k a u b j l).1,(i k a u b j l).2.1⟩)⟩;have:=h.r;unfold EB at this|-;rw[f.block B (Cz this)<|c.ne this<|by decide];exact this;have⟨m,g,_⟩:=h.fn;exact c.own g (by decide);have⟨m,g,_⟩:=h.st;exact c.own g<|by decide
theorem JJ.law(h:JJ B C R V z0 s0 n0 s1 P)(a:O z1 P y0)(b:Zp P z1)(f:∀k,z1 k->L' z0≠T k/\L' s0≠T k):JJ B C R V z0 s0 n0 s1 y0:=by
 have g:∀{v d},GO B P v d->(∀k,L' v=T k->¬z1 k)->GO B y0 v d:=fun{v d} q z=>by have⟨o,e,n,m⟩:=q;exact⟨o,e,Cx n a z,λj i l=>b.str a<|m j i l⟩
 exact⟨h.bx.j a<|b.ne h.bx<|by decide,b.str a h.nr,h.nl,g h.cl λk c q=>(f k q).1 c,g h.V λk c q=>(f k q).2 c,h.sb,h.ne,h.ln,h.sh⟩
def Mg(w:I')(v:H')(x:Cd):Prop:=∃a l c,v=Y a l c/\l<=2000000/\(0<l->∃g b d,a=T ⟨g,0,Z⟩/\w.heap[g]? =T (R' b 9 d)/\∀k,k<l->b[k]? =Y' x)
theorem Mg.j{w w' x}{X:Ce}(h:Mg w V x)(o:O X w w')(p:∀k b d,X k->w.heap[k]? ≠T (R' b 9 d)):Mg w' V x:=by have⟨a,l,c,e,n,q⟩:=h;refine⟨a,l,c,e,n,λm=>?_⟩;have⟨g,b,d,i,f,j⟩:=q m;exact⟨g,b,d,i,by rw[o.block g (Cz f) λz=>p g b d z f];exact f,j⟩
theorem Mg.law{x}(h:Mg P V x)(b:O z1 P y0)(a:Zp P z1):Mg y0 V x:=h.j b λ_ _ _ q e=>a.ne e (by decide) q
theorem Mg.own{x}(h:J' P B 9 1 V C y1)(d:C<=2000000)(j:∀k,k<C->y1[k]? =Y' x):Mg P V x:=by
 rcases h.2 with⟨rfl,e⟩|⟨g,a,b,rfl,_,c,_,_,_,i⟩
 exact⟨Z,0,0,Q,by omega,λq=>Bm q<|by omega⟩;refine⟨_,C,a,Q,d,λ_=>⟨g,b,_,Q,c,λk f=>?_⟩⟩;grind
structure wF(P:CQ)(mn pn cn:M)(rf:Dd)(fs:C8)(rp sb pb Bp B:M)(U:Ce)(fv sv nv cv ev:H')(s:Ls)(w:I'):Prop where
 rs:Hg P mn pn cn rp w
 ls:JJ B sb pb nv cv ev (Lu P pn) s w
 li:TQ P pn cn s
 le:(least P).le<|RY P pn s
 ru:KO pb Bp U fv sv rf fs pn cn w
 K:OS P mn pn cn rf fs
 vs:∀f (h:f<rf.length),rf[f].y=(CO P f).y
 mb:DB P mn=DF
def aX(g:H')(n o j:M)(w:I'):Prop:=∃P h l d m e c B U f p i a b s,wF P h l d m e n o j c B U f p i a b s w/\∀k,L' g=T k->L' a≠T k/\L' b≠T k
theorem aX.law(h:aX V B C R P)(m:O z1 P y0)(i:Zp P z1)(K:¬z1 0)(N:∀k x I,z1 k->P.heap[k]? =T (R' x 47 I)->L' V=T k)(d:∀k,L' z0=T k->L' V=T k\/P.heap.size<=k):aX z0 B C R y0:=by
 have⟨t,S,pn,u,rf,F,r,n,U,H,sv,nv,y,E,s,b,j⟩:=h;have f:∀{v p k},GO n P v p->L' v=T k->k<(P:M)/\(z1 k->L' V=T k):=fun{v p k} q e=>by
  obtain⟨us,_,o,_⟩:=q;obtain⟨a,l,c,rfl⟩:=CA o;cases a with
  |none=>cases e
  |some a=>
   rcases o.2 with⟨q,_⟩|⟨g,_,a0,q,_,d,_⟩
   cases q;cases q;cases e;exact⟨Cz d,λz=>N _ _ _ z d⟩
 refine⟨t,S,pn,u,rf,F,r,n,U,H,sv,nv,y,E,s,⟨b.rs.law m i K,b.ls.law m i λk q=>⟨λe=>(j k<|(f b.ls.cl e).2 q).1 e,λe=>(j k<|(f b.ls.V e).2 q).2 e⟩,b.li,b.le,b.ru.law m i,b.K,b.vs,b.mb⟩,λk q=>?_⟩;rcases d k q with q|q
 exact j k q;exact⟨λe=>by have:=(f b.ls.cl e).1;omega,λe=>by have:=(f b.ls.V e).1;omega⟩
theorem bH{P:Program}(S:M)(t C:TypeId)(i:TypeInfo)(z:H')(R:P.underlying t=T (.slice 9))(H:P.info? 9=i)(hz:i.zero=z)
 (v:H')(n:M)(E:Ci)(B:J' y0 S 9 i.size v n E)
 (a:A')(m c:M)(d:Ci)(y:L d=m*i.size)(I:∀j z0,d[j]? =T z0->y0 (a.add j)=T z0)(h1:∀z0∈d,z0.oneCell'=zt)
 (a6:n+m<=E')(a0:(n+m)*i.bytes<=140737488355328)(N:(Builtin.append_ #[t,t] C #[v,Y (T a) m c]).run P y0=.ok V v1)(f:y0.grownBy v1<|L' v)
 (hN:∀z0∈d,z0=Y' u0)(h:Mg y0 z0 u0):Mg v1 z0 u0:=by
 have a7:n+m<=9223372036854775807:=by grind[E']
 rcases B.2 with⟨rfl,rfl⟩|⟨g,r,p,rfl,a8,hg,b1,a9,a1,b2⟩
 exact h.j (X:=Cb) ⟨f.os,f.tape,f.output,f.size,λk hk _=>f.block k hk<|by simp[L']⟩ λ_ _ _ q=>q.elim;by_cases K:n+m<=r;have a2:n*i.size+d<=p:=by rw[y,a1,<-Nat.add_mul];exact Nat.mul_le_mul_right _ K
 have o:=run_append_room (P:=P) y0 t C 9 i R H g n r p hg a m c d y I h1 K a2;rw[N]at o;simp only[Result.ok.injEq]at o;have b0:L (p.toList.take<|n*i.size)=n*i.size:=by grind
 have hh:v1.heap[g]? =T (R' (p.toList.take (n*i.size)++d++p.toList.drop (n*i.size+d)).toArray 9 (0,0)):=by grind[World.setRow]
 have⟨b,l,U,e,a4,q⟩:=h;refine⟨b,l,U,e,a4,λh0=>?_⟩;have⟨s,cs,fz,e1,F,e3⟩:=q h0;by_cases a3:s=g;grind[List.getElem_mem];exact⟨s,cs,fz,e1,by rw[f.block s (Cz F) λz=>a3<|by grind[L']];exact F,e3⟩;have a5:∀j z0,E[j]? =T z0->y0 ((g:A').add j)=T z0:=B.cells (g:=g) Q;have o:=run_append_grow (P:=P) y0 t C 9 i z R H hz g n r E B.1 a5 a m c d y I (by omega) (by omega)<|growslice_fits (by omega) a0;rw[N]at o;simp only[Result.ok.injEq]at o;rw[o.2];exact h.j (((CT Cb y0).drew).alloc _) λ_ _ _ q=>q.elim
theorem It{P}(w){p}{k:Exit->Act->I'->Prop}(E:p3.guard=Z)(s x t)
 (N:p3.op=.call {callee:=.builtin .append,args:=#[s,x],argTypes:=#[t,t]})
 (d i)(X:P.underlying t=T (.slice 9))(F:P.info? 9=T i)(hz:i.zero=T (Y' ByteArray.empty))
 (V:i.size=1)(C:i.bytes=16)
 (v n e)(U:u4.eval s=v)(R:J' w d 9 1 v n e)
 (g m c y)(hx:u4.eval x=Y (T g) m c)(I:∀j u,(List.replicate m<|Y' y)[j]? =T u->w (g.add j)=T u)
 (hn:n+m<=2000000)(B:d<=w.heap.size)
 (h:∀f b,J' b d 9 1 f (n+m) (e++List.replicate m (Y' y))->w.grownBy b (L' v)->J' b d 9 1 v n e->(∀u,Mg w u y->Mg b u y)->wpList P z5 k p (u4.put p3.dst f) b):wpList P z5 k (p3::p) u4 w:=
 wpList_plain E λK z=>by
  have H:(List.replicate m<|Y' y)=m*1:=by simp
  have q:∀u∈List.replicate m (Y' y),u.oneCell'=zt:=λu l=>by rw[List.eq_of_mem_replicate l];rfl
  have r:n+m<=maxLen:=by grind[E']
  obtain⟨f,b,S,r1,r2,_⟩:=run_append_own (P:=P) w d t p3.type 9 i (Y' ByteArray.empty) 1 16 X F hz V C Q (by decide) v n e R g m c _ H I q r (by omega) B;have r3:J' b d 9 1 v n e:=by grind[XL]
  have r4:∀u,Mg w u y->Mg b u y:=λu l=>by grind[bH]
  unfold Oper.wp;simp[execOp,N,resolve,invoke,builtin,U,hx,S,Result.andThen];exact z _ _<|h f b r1 r2 r3 r4
structure TP(w1:I')(B0 wb:M)(rv lv pv h0:H')(us:Ci)(w:I'):Prop where
 o:O (λk=>k=wb\/h0.ownBlock=T k) w1 w
 hd:∃hv,W wb #[rv,lv,pv,hv] 29 w/\w.ownsRow B0 47 1 hv us us/\∀k,hv.ownBlock=T k->h0.ownBlock=T k\/(w1:M)<=k
theorem TP.t8(h:TP P B C V z0 s0 u1 y1 y0)(k:O Cb y0 v1):TP P B C V z0 s0 u1 y1 v1:=
 have⟨d,a,b,c⟩:=h.hd
 ⟨h.o.xV k,d,a.j k id,Cx b k Ed,c⟩
theorem TP.row{l}(h:TP P B C V z0 s0 u1 y1 y0)(c:J' y0 P 9 1 x2 R l)(k:O (λk=>L' x2=T k) y0 v1):TP P B C V z0 s0 u1 y1 v1/\Sz y0 v1:=
 have⟨i,d,e,g⟩:=h.hd
 ⟨⟨h.o.thn k λj f q=>by have:=(c.lt j q).1;omega,i,d.j k λq=>CL c d (by decide) _ q Q,Cx e k λj f=>GW e c (by decide) j f,g⟩,λb n t _ a _ q=>q.j k λz=>CL c q a _ z Q⟩
theorem TP.app{b o}(h:TP P B C V z0 s0 u1 y1 y0)(a:J' y0 P 9 1 x2 R b)(g:(y0.alloc o).grownBy v1<|L' x2):TP P B C V z0 s0 u1 y1 v1/\Sz y0 v1:=h.row a<|O.xA ((CT _ y0).alloc o) g λ_ q=>zo q
theorem TP.push{Wz u}(h:TP P B C V z0 s0 u1 y1 y0)(c:W C #[V,z0,s0,x2] 29 y0)(d:J' y0 B 47 1 x2 y1 y1)(n:∀k,L' x2=T k->L' u1=T k\/P.heap.size<=k)(k:O Cb y0 Wz)(g:Wz.grownBy v1<|L' x2)(r:J' v1 B 47 1 v2 (L y1+1)<|y1++[u])(s:∀k,L' v2=T k->L' x2=T k\/Wz.heap.size<=k):
 TP P B C V z0 s0 u1 (y1++[u]) (v1.setCell (C,3) v2)/\Sz y0 (v1.setCell (C,3) v2)/\W C #[V,z0,s0,x2] 29 v1/\∀u x,Mg y0 u x->Mg (v1.setCell (C,3) v2) u x:=by
 have f:O (λk=>L' x2=T k) y0 v1:=(k.mono λ_ _ q=>q.elim).xA g λ_ q=>zo q;have a:W C #[V,z0,s0,x2] 29 v1:=c.j f λq=>CL d c nofun _ q Q;have i:O (λk=>k=C) v1<|v1.setCell (C,3) v2:=(CT _ v1).wS 3 _;have o:O (λk=>k=C\/L' x2=T k) y0<|v1.setCell (C,3) v2:=(f.mono λ_ _ q=>zn q).trans<|i.mono λ_ _ q=>zo q;refine⟨⟨h.o.thn o λj v q=>q.imp id λq=>(n j q).elim id λq=>Bm v<|by omega,v2,a.set 3 _,by rw[Ah];exact Cx r i<|CL r a nofun,λj q=>?_⟩,λb E t y _ p q=>(q.j f λz=>CL d q p _ z Q).j i λz=>by grind[W],a,λ_ _ q=>q.j o λj l m z e=>z.elim (λz=>Fp c (by decide) j l m z e) λz=>Ht d (by decide) j l m z e⟩
 rcases s j q with q|q
 exact n j q;exact zn (by have:=k.size;have:=h.o.size;omega)
structure NT(B0:M)(w00:I')(wb m:M)(rv lv pv hv:H')(us:Ci)(w:I'):Prop where
 lo:zx B0 w00 w
 gl:0<B0
 wl:B0<=wb
 bx:W wb #[rv,lv,pv,hv] 29 w
 rr:∃xs ys zs,w.ownsRow B0 36 1 rv m xs/\w.ownsRow B0 45 1 lv m ys/\w.ownsRow B0 40 1 pv m zs/\∀i,i<m->∃rp sb pb,xs[i]? =T (Z'<|T ⟨rp,0,Z⟩)/\ys[i]? =T (Z'<|T ⟨sb,0,Z⟩)/\zs[i]? =T (Z'<|T ⟨pb,0,Z⟩)/\aX hv rp sb pb w
 hd:w.ownsRow B0 47 1 hv us us
 kp:∀i v,us[i]? =T v->Mg w v (Z0<|i / 4)
theorem NT.begin(h:NT B P C R V z0 s0 u1 y1 y0)(k:O Cb y0 v1):TP y0 B C V z0 s0 u1 y1 v1:=
 ⟨k.mono λ_ _ q=>q.elim,u1,h.bx.j k id,Cx h.hd k Ed,λ_ q=>zo q⟩
theorem NT.step{j}(h:NT B P C R V z0 s0 u1 y1 y0)(H:TP y0 B C V z0 s0 u1 j v1)(F:∀i v,j[i]? =T v->y1[i]? =T v\/Mg v1 v (Z0<|i / 4)):∃a,NT B P C R V z0 s0 a j v1:=by
 have⟨a,b,r,q⟩:=H.hd;have l:Zp y0 λk=>k=C\/L' u1=T k:=by
  rintro k (rfl|e);exact⟨_,_,_,h.bx,zo Q⟩;rcases h.hd.2 with⟨z,_⟩|⟨g,_,a0,z,_,y,_⟩
  rw[z]at e;cases e;rw[z]at e;cases e;exact⟨_,_,_,y,zn<|zn<|zn<|zn Q⟩
 have n:∀k,k=C\/L' u1=T k->B<=k:=λk z=>z.elim (λz=>z▸h.wl) λz=>(h.hd.lt k z).1
 have⟨U,X,zs,c,d,f,I⟩:=h.rr;refine⟨a,h.lo.trans<|H.o.xL (by have:=Cz h.bx;have:=h.wl;omega) n,h.gl,h.wl,b,⟨U,X,zs,Cx c H.o ?_,Cx d H.o ?_,Cx f H.o ?_,λi E=>?_⟩,r,λi v e=>?_⟩;exact λk e z=>z.elim (CL c h.bx nofun k e)<|GW c h.hd nofun k e
 exact λk e z=>z.elim (CL d h.bx nofun k e)<|GW d h.hd nofun k e
 exact λk e z=>z.elim (CL f h.bx nofun k e)<|GW f h.hd (by decide) k e
 have⟨N,S,K,s,t,u,o⟩:=I i E;exact⟨N,S,K,s,t,u,o.law H.o l (λz=>by have:=n _ z;have:=h.gl;omega) (λk p x z e=>z.elim (λz=>Bm e<|Fp h.bx (by decide) k p x z) id) q⟩;rcases F i v e with e|e
 exact(h.kp i v e).law H.o l;exact e
theorem NT.t8(h:NT B P C R V z0 s0 u1 y1 y0)(k:O Cb y0 v1):∃a,NT B P C R V z0 s0 a y1 v1:=h.step (h.begin k) λ_ _ e=>zo e
theorem Yh(h:∀j,j<B->y1[j]? =u0)(b:y1=B)(a:R<B+C):(y1++List.replicate C (Y' u0))[R]? =Y' u0:=by grind
theorem oO{r1:Ch}{l1:Ch}{p1:Ch}(h:TP P B C (Y r1 R v0) (Y l1 p0 o1) (Y p1 s2 p4) V y1 y0)(hB:B<=P)(hu:L y1=4*s3)(hn:96*(s3+1)<=140737488355328)(hL:CK P y0 z0 n0)(hl:L n0<=1000000):
 F' zy 15 #[Z' C,z0] y0 λe w'=>e=P' #[]/\(∃a b c d,TP P B C (Y r1 R v0) (Y l1 p0 o1) (Y p1 s2 p4) V (y1++[a]++[b]++[c]++[d]) w'/\Mg w' a (Z0 s3)/\Mg w' b (Z0 s3)/\Mg w' c (Z0 s3)/\Mg w' d (Z0 s3))/\Sz y0 w':=by
 obtain⟨i0,b2,b3,b4,b5⟩:=Bx Tryz.infoStr;obtain⟨i1,a8,a9,b0,b1⟩:=Bx Tryz.infoRowS;obtain⟨a1,a3,rfl⟩:=CB hL;obtain⟨hv,f,z,_⟩:=h.hd;obtain⟨h1,U,rfl⟩:=CB z;have c3:=f.z;have lb:=Cz f;have e4:((L y1:M):zw).tdiv 4=(s3:zw):=by rw[Int.tdiv_eq_ediv_of_nonneg<|by omega];omega
 have S:=J hu;have hq:L y1<=4*s3:=by omega
 have HL:J' y0 P 9 1 (Y a1 (L n0) a3) (L n0)<|n0.map Y':=hL;have HM:=ZW s3 (by omega);obtain⟨x,K⟩:=Dv<|Z0 s3;rw[K]at HM|-;have b6:D<|L (n0.map Y')=L n0:=AG _;clear hL f z K hu;go_in;go_wp2_with fail;apply(HM y0).mono;rintro e w2 ⟨rfl,o2⟩;have l:=h.t8 o2;have m:=Sz.of o2;have t:=Cx HL o2 Ed;clear h HL o2 c3 lb e4 HM;go_wp2_with fail;go_loopw[5] (λi wr=>∃(k:M) (ls:Ci),k<=L n0/\i=G A k/\D (L ls=L n0)/\D (∀j,j<k->ls[j]? =x)/\TP P B C (Y r1 R v0) (Y l1 p0 o1) (Y p1 s2 p4) V y1 wr/\Sz y0 wr/\J' wr P 9 1 (Y a1 (L n0) a3) (L n0) ls) (λi _=>L n0-(zm i).toNat);exact⟨0,_,by omega,Q,b6,λj q=>Bm q<|by omega,l,m,t⟩;clear l m t b6;obtain⟨k,ls,hk,rfl,HU,HX,l,m,t⟩:=hrel;by_cases c4:k<L n0
 .have tk:=LH (p:=(k:zw)<L n0) (by omega);obtain⟨g,rfl⟩:=CH t (by omega);have lg:=(t.lt g Q).2;have fz:=t.frozenAt k;have cu:=t.cellAt k (by omega);obtain⟨s1,b8⟩:=t.stored k<|Y' x;obtain⟨o,r⟩:=l.row t<|O.xA (X:=λk=>L' (Y g (L n0) a3)=T k) (CT _ wr) b8 λ_ q=>zo q;obtain⟨u0,b7⟩:∃u,ls[k]? =T u:=⟨_,Ag<|by have:=HU.o;omega⟩;rw[b7]at cu;have W3:=o;have N3:=m.trans r;have c0:D (∀j,j<k+1->(ls.set k<|Y' x)[j]? =x):=λj hj=>by
   have:=HU.o;by_cases q:j=k
   .subst q;rw[List.getElem?_set_self<|by omega]
   .rw[List.getElem?_set_ne<|by omega];exact HX.o j<|by omega
  have b9:D<|L (ls.set k<|Y' x)=L n0:=(Bi ..).trans HU.o;clear l m t b8 o r b7 HU HX;go_wp2_with fail;go_roundw;exact⟨k+1,_,by omega,by go_num,b9,c0,W3,N3,s1⟩;simp[zm];omega
 .have tk:=Hz (p:=(k:zw)<L n0) (by omega);obtain rfl:k=L n0:=by omega
  have hz:=l.o.size;have v:=Mg.own (x:=x) t (by omega) HX.o;clear c4 hk;go_upto_region 8 with(first
   |(at_builtin;refine It _ Q _ _ 47 Q P i0 underlying47 b2 b3 b4 b5 _ _ _ Q (t.alloc _) _ 1 1 x Q (C3 (by simp) _ _) (by omega) (by simp;omega) ?_;intro v5 w5 a4 a5 a7 a6;obtain⟨d5,e5,f5,rfl⟩:=CA a4;obtain⟨o,r⟩:=l.app t a5;have t:=a7;have l:=o;have m:=m.trans r;have hz:=l.o.size;have KK:=λu (q:Mg _ u x)=>a6 u<|q.j ((CT Cb _).alloc _) λ_ _ _ q=>q.elim;have K1:=Mg.own (x:=x) a4 (by omega) λk hk=>Yh HX.o HU.o hk;have v:=KK _ v;have E:=K1;clear K1;clear a4 a5 a7 a6 o r KK)
   |(at_builtin;refine It _ Q _ _ 47 Q P i0 underlying47 b2 b3 b4 b5 _ _ _ Q (t.alloc _) _ 2 2 x Q (C3 (by simp) _ _) (by omega) (by simp;omega) ?_;intro v6 w6 a4 a5 a7 a6;obtain⟨d6,e6,f6,rfl⟩:=CA a4;obtain⟨o,r⟩:=l.app t a5;have t:=a7;have l:=o;have m:=m.trans r;have hz:=l.o.size;have KK:=λu (q:Mg _ u x)=>a6 u<|q.j ((CT Cb _).alloc _) λ_ _ _ q=>q.elim;have K2:=Mg.own (x:=x) a4 (by omega) λk hk=>Yh HX.o HU.o hk;have v:=KK _ v;have E:=KK _ E;have H:=K2;clear K2;clear a4 a5 a7 a6 o r KK)
   |(at_builtin;refine It _ Q _ _ 47 Q P i0 underlying47 b2 b3 b4 b5 _ _ _ Q (t.alloc _) _ 3 3 x Q (C3 (by simp) _ _) (by omega) (by simp;omega) ?_;intro v7 w7 a4 a5 a7 a6;obtain⟨d7,e7,f7,rfl⟩:=CA a4;obtain⟨o,r⟩:=l.app t a5;have t:=a7;have l:=o;have m:=m.trans r;have hz:=l.o.size;have KK:=λu (q:Mg _ u x)=>a6 u<|q.j ((CT Cb _).alloc _) λ_ _ _ q=>q.elim;have K3:=Mg.own (x:=x) a4 (by omega) λk hk=>Yh HX.o HU.o hk;have v:=KK _ v;have E:=KK _ E;have H:=KK _ H;have N:=K3;clear K3;clear a4 a5 a7 a6 o r KK))
  clear HX HU t;obtain⟨_,f,z,U⟩:=l.hd;obtain⟨_,_,rfl⟩:=CB z;have c3:=f.z;have lb:=Cz f;have B2:=f;have F:=z;have H3:=U;clear f z U;go_upto_region 9 with(at_builtin;refine Dp _ Q _ _ 27 Q B 47 i1 (Y Z 0 0) 1 24 underlying27 a8 a9 b0 b1 Q (by decide) _ _ _ Q (F.alloc _) _ 1 1 [Y a1 (L n0) a3] Q Q (C3 (by simp) _ _) (λx K=>by simp at K;subst K;rfl) (by decide) (by unfold E';omega) (by omega) (by simp;omega) ?_;intro v8 w8 I a2 a0;obtain⟨_,_,_,rfl⟩:=CA I;obtain⟨o,r,f,s⟩:=l.push B2 F H3 oq a2 I a0;have c8:=f.z;have f8:=f.wV 3;have l8:=Cz f;have l:=o;have m:=m.trans r;have hz:=l.o.size;have v:=s _ _ v;have E:=s _ _ E;have H:=s _ _ H;have N:=s _ _ N;clear I a2 a0 o r s f B2 F H3 c3 lb);clear c8 f8 l8;generalize World.setCell w8 _ _=c7 at l m hz v E H N|-;obtain⟨y1,y⟩:=Dv<|y1++[Y a1 (L n0) a3];have S:D<|L y1=4*s3+(8-7):=by show L y1=_;rw[<-y,Ah,S.o];rfl
  have hq:L y1<=4*s3+4:=by have:=S.o;omega
  rw[y]at l;have U8:=J y;clear y;obtain⟨_,f,z,U⟩:=l.hd;obtain⟨_,_,rfl⟩:=CB z;have c3:=f.z;have lb:=Cz f;have B2:=f;have F:=z;have H3:=U;clear f z U;go_upto_region 10 with(at_builtin;refine Dp _ Q _ _ 27 Q B 47 i1 (Y Z 0 0) 1 24 underlying27 a8 a9 b0 b1 Q (by decide) _ _ _ Q (F.alloc _) _ 1 1 [Y d5 e5 f5] Q Q (C3 (by simp) _ _) (λx K=>by simp at K;subst K;rfl) (by decide) (by unfold E';omega) (by omega) (by simp;omega) ?_;intro v8 w8 I a2 a0;obtain⟨_,_,_,rfl⟩:=CA I;obtain⟨o,r,f,s⟩:=l.push B2 F H3 oq a2 I a0;have c8:=f.z;have f8:=f.wV 3;have l8:=Cz f;have l:=o;have m:=m.trans r;have hz:=l.o.size;have v:=s _ _ v;have E:=s _ _ E;have H:=s _ _ H;have N:=s _ _ N;clear I a2 a0 o r s f B2 F H3 c3 lb);clear c8 f8 l8;generalize World.setCell w8 _ _=c9 at l m hz v E H N|-;obtain⟨y1,y⟩:=Dv<|y1++[Y d5 e5 f5];have S:D<|L y1=4*s3+(9-7):=by show L y1=_;rw[<-y,Ah,S.o];rfl
  have hq:L y1<=4*s3+4:=by have:=S.o;omega
  rw[y]at l;have U9:=J y;clear y;obtain⟨_,f,z,U⟩:=l.hd;obtain⟨_,_,rfl⟩:=CB z;have c3:=f.z;have lb:=Cz f;have B2:=f;have F:=z;have H3:=U;clear f z U;go_upto_region 11 with(at_builtin;refine Dp _ Q _ _ 27 Q B 47 i1 (Y Z 0 0) 1 24 underlying27 a8 a9 b0 b1 Q (by decide) _ _ _ Q (F.alloc _) _ 1 1 [Y d6 e6 f6] Q Q (C3 (by simp) _ _) (λx K=>by simp at K;subst K;rfl) (by decide) (by unfold E';omega) (by omega) (by simp;omega) ?_;intro v8 w8 I a2 a0;obtain⟨_,_,_,rfl⟩:=CA I;obtain⟨o,r,f,s⟩:=l.push B2 F H3 oq a2 I a0;have c8:=f.z;have f8:=f.wV 3;have l8:=Cz f;have l:=o;have m:=m.trans r;have hz:=l.o.size;have v:=s _ _ v;have E:=s _ _ E;have H:=s _ _ H;have N:=s _ _ N;clear I a2 a0 o r s f B2 F H3 c3 lb);clear c8 f8 l8;generalize World.setCell w8 _ _=c5 at l m hz v E H N|-;obtain⟨y1,y⟩:=Dv<|y1++[Y d6 e6 f6];have S:D<|L y1=4*s3+(10-7):=by show L y1=_;rw[<-y,Ah,S.o];rfl
  have hq:L y1<=4*s3+4:=by have:=S.o;omega
  rw[y]at l;have c1:=J y;clear y;obtain⟨_,f,z,U⟩:=l.hd;obtain⟨_,_,rfl⟩:=CB z;have c3:=f.z;have lb:=Cz f;have B2:=f;have F:=z;have H3:=U;clear f z U;go_wp2_with(at_builtin;refine Dp _ Q _ _ 27 Q B 47 i1 (Y Z 0 0) 1 24 underlying27 a8 a9 b0 b1 Q (by decide) _ _ _ Q (F.alloc _) _ 1 1 [Y d7 e7 f7] Q Q (C3 (by simp) _ _) (λx K=>by simp at K;subst K;rfl) (by decide) (by unfold E';omega) (by omega) (by simp;omega) ?_;intro v8 w8 I a2 a0;obtain⟨_,_,_,rfl⟩:=CA I;obtain⟨o,r,f,s⟩:=l.push B2 F H3 oq a2 I a0;have c8:=f.z;have f8:=f.wV 3;have l8:=Cz f;have l:=o;have m:=m.trans r;have hz:=l.o.size;have v:=s _ _ v;have E:=s _ _ E;have H:=s _ _ H;have N:=s _ _ N;clear I a2 a0 o r s f B2 F H3 c3 lb);clear c8 f8 l8;generalize World.setCell w8 _ _=c6 at l m hz v E H N|-;obtain⟨y1,y⟩:=Dv<|y1++[Y d7 e7 f7];have S:D<|L y1=4*s3+(11-7):=by show L y1=_;rw[<-y,Ah,S.o];rfl
  have hq:L y1<=4*s3+4:=by have:=S.o;omega
  rw[y]at l;have c2:=J y;clear y;go_end0;refine⟨Q,⟨_,_,_,_,?_,v,E,H,N⟩,m⟩;rw[U8.o,U9.o,c1.o,c2.o];exact l
theorem Fs.xC(a:I')(B:M)(d:H')(e f c:M)(b:Cd)(m:B<=a):
 Fs ((a:M)+1+1) a ((a:M)+1) B d e f c ⟨⟨[],b.data.toList,[],[]⟩,[],1⟩ (Y Z 0 0) (Y Z 0 0) b (((a.alloc<|.map #[] 0).alloc<|.map #[] 0).alloc<|R' #[d,e,f,c,b,Y Z 0 0,Y Z 0 0,G A 1,.map<|T a,.map<|T<|(a:M)+1] 179):=by
 have h:Hh 242 lK a []<|a.alloc<|.map #[] 0:=Hh.none _ _ a;have i:Hh 245 gZ ((a:M)+1) []<|(a.alloc<|.map #[] 0).alloc<|.map #[] 0:=by have:=Hh.none 245 gZ<|a.alloc<|.map #[] 0;simpa using this
 have k:=((CT Cb<|a.alloc<|.map #[] 0).alloc<|.map #[] 0).alloc<|R' #[d,e,f,c,b,Y Z 0 0,Y Z 0 0,G A 1,.map a,.map<|T<|(a:M)+1] 179;have l:=(CT Cb<|(a.alloc<|.map #[] 0).alloc<|.map #[] 0).alloc<|R' #[d,e,f,c,b,Y Z 0 0,Y Z 0 0,G A 1,.map a,.map<|T<|(a:M)+1] 179;have g:=W.new ((a.alloc<|.map #[] 0).alloc<|.map #[] 0) #[d,e,f,c,b,Y Z 0 0,Y Z 0 0,G A 1,.map a,.map<|T<|(a:M)+1] 179;have j:((a.alloc<|.map #[] 0).alloc (.map #[] 0):M)=(a:M)+1+1:=by simp
 rw[j]at g;exact⟨g,Q,An _ _ _ _,An _ _ _ _,h.j k id,i.j l id,by omega,by omega⟩
theorem iP(h:B=0\/(DQ U 41 u2).s≠1):Mh U B u2=(DQ U 41 u2,B):=by
 cases B with
 |zero=>rfl
 |succ B=> unfold Mh;rw[Ba<|h.resolve_left<|by omega]
theorem jL(B fv c u s P o h w)(hp:Ds B w fv P)(F:Jd P)(hB:B<=w.heap.size)(hm:c<L P)(d0:Cc->List (Tg×Tg)->List (M×M)->Prop)
 (d7:∀(mb pm em:M) (m:Mc) (b:I'),FH mb pm em B fv c u s m b->Ds B b fv P->EA P 0 m->IK P m.c->(∀k,k<B->b.heap[k]? =w.heap[k]?)->F' zy 77 #[Z'<|T ⟨mb,0,Z⟩] b λe w'=>∃v l,e=T' v/\CK (b:M) w' v l/\d0 l m.c.x m.c.xG/\O Cb b w'):
 F' zy 39 #[N' #[fv,G A c,G A u,G A s],Y' o,G A h] w λe w'=>∃v l,e=T' (N' #[G A (WZ P c (Ff h) o.data.toList).1.s,G A ((Ff h-(WZ P c (Ff h) o.data.toList).2:M):zw),v])/\CK B w' v l/\d0 l (WZ P c (Ff h) o.data.toList).1.c.x (WZ P c (Ff h) o.data.toList).1.c.xG/\zx B w w':=by
 have b7:=IK.run F (Uo h) hm o.data.toList;unfold WZ at b7|-;obtain⟨E,C,rfl,f6⟩:=hp.form (by omega);have⟨m0,a3⟩:=Dv<|Ef P ⟨⟨[],o.data.toList,[],[]⟩,[],1⟩ c [] 0;have⟨V,hV⟩:=Dv<|Mh P (Ff h) m0;rw[a3,hV]at b7;rw[a3,hV];have N:=J hV;have f0:=@run_makeMap zy;have e9:=Uo h;have f4:min (max h 0) 5000=((Ff h:M):zw):=by unfold Ff;split<;>(try split)<;>omega
 have⟨d4,a2⟩:=EA.xC F (n:=Ff h) (f:=c) (ch:=o.data.toList) e9 hm;have⟨b,z⟩:=Dv<|(w.alloc<|R' #[Y E P C,c,u,s] 86).alloc<|R' #[G A 0,G A 0,Y Z 0 0] 49;have d1:(b:M)=w+1+1:=by rw[<-z];simp
 have a0:=Fs.xC b B (Y E P C) c u s o (by omega);have hO:O Cb w<|((b.alloc<|.map #[] 0).alloc<|.map #[] 0).alloc<|R' #[Y E P C,c,u,s,o,Y Z 0 0,Y Z 0 0,G A 1,.map b,.map<|T<|(b:M)+1] 179:=by rw[<-z];exact oq
 have d2:W ((w:M)+1) #[G A 0,G A 0,Y Z 0 0] 49 b:=by rw[<-z];have:=W.new (w.alloc<|R' #[Y E P C,c,u,s] 86) #[G A 0,G A 0,Y Z 0 0] 49;simpa using this
 have c2:=W.j (X:=Cb) (w':=(((b.alloc<|.map #[] 0).alloc<|.map #[] 0).alloc<|R' #[Y (T ⟨E,0,Z⟩) (L P) C,G A c,G A u,G A s,Y' o,Y Z 0 0,Y Z 0 0,G A 1,.map<|T (b:M),.map<|T<|(b:M)+1] 179)) d2 oq id;have a8:=hp.t8 hO;rw[a3]at a2;have b5:=(MJ ((b:M)+1+1) b ((b:M)+1) B _ c u s P (Ff h) ⟨⟨[],o.data.toList,[],[]⟩,[],1⟩ c 0 0 [] (Y Z 0 0) _ ⟨_,_,_,a0⟩ a8 F d4 (by simp) hm (λv hv=>Bm hv AE) (by simp)<|An _ _ _ _);rw[a3]at b5;have a9:FH ((b:M)+1+1) b ((b:M)+1) B _ c u s ⟨⟨[],o.data.toList,[],[]⟩,[],1⟩ _:=⟨_,_,_,a0⟩;subst z;rw[d1]at*;clear a0 d2 hp d4 d1 a3 hV;generalize Ff h=t at*;go_in;go_wp2_with fail;apply b5.mono;rintro e w2 ⟨rfl,x,g⟩;clear f0 b5;have a6:=g.yW a9 a8;have b8:=g.p a9 c2 (by decide) (by decide) (by decide);have c3:=(E8.wW hO).trans g;have a1:=Q0 _ _ _ B _ c u s P t _ w2 x a6 F a2;have c6:=a2.norm 41;have b3:=x;have d9:=J a2.u;clear x g a9 a8 c2 hO a2;go_wp2_with fail;apply a1.mono;rintro e w3 ⟨rfl,x,g⟩;have c7:=g.yW b3 a6;have b9:=g.p b3 b8 (by decide) (by decide) (by decide);have c4:=c3.trans g;have c8:=x;clear x g b3 a6 b8 c3 a1;have d3:L m0.v<=40:=d9;go_wp2_with fail;go_loopw[9] (λi wr=>∃(k:M) (d:Mc),k<=t/\L d.v<=40/\i=G A k/\FH ((w:M)+1+1+1+1) ((w:M)+1+1) ((w:M)+1+1+1) B (Y E P C) c u s (DQ P 41 d) wr/\EA P (t-k) (DQ P 41 d)/\D (Mh P (t-k) d=V)/\Ds B wr (Y E P C) P/\W ((w:M)+1) #[G A 0,G A 0,Y Z 0 0] 49 wr/\E8 ((w:M)+1+1+1+1) ((w:M)+1+1) ((w:M)+1+1+1) B w wr) (λi _=>t-(zm i).toNat);exact⟨0,m0,by omega,d3,Q,c8,c6,N,c7,b9,c4⟩;clear c8 c6 N c7 b9 c4 d3;obtain⟨k,d,hk,f2,rfl,K,HI,N,HP,HB,I⟩:=hrel;have f1:wr ((w:M)+1+1+1+1,7)=(DQ P 41 d).s/\w+1+1+1+1<(wr:M):=by have⟨_,_,_,q⟩:=K;have r7:=q.p.j7;exact⟨r7,Cz q.p⟩
 have⟨r7,lm⟩:=f1;by_cases a5:(DQ P 41 d).s=1/\k<t
 .have⟨he,f3⟩:=a5;obtain⟨f,r,hf⟩:∃f r,(DQ P 41 d).v=f::r:=by
   cases hq:(DQ P 41 d).v with
   |nil=>exact Bm hq<|HI.run he
   |cons f r=>exact⟨f,r,Q⟩
  have b6:=Oz 41 d (by omega) he f r hf;obtain⟨j,H⟩:∃j,t-k=j+1:=⟨t-k-1,by omega⟩;have hI:=HI;rw[H]at hI;have c9:=cS ((w:M)+1+1+1+1) ((w:M)+1+1) ((w:M)+1+1+1) B _ c u s P j (DQ P 41 d) f r wr K HP F hI hf b6;have a4:=hI.step F hf b6;have y:=N.o;rw[H]at y;unfold Mh at y;rw[Bb he]at y;have e5:=J y;have e8:j=t-(k+1):=by omega
  rw[he]at r7;generalize Kn P (DQ P 41 d)=m2 at*;clear y hI he hf b6 N HI;go_wp2_with fail;apply c9.mono;rintro e w4 ⟨rfl,x,g⟩;have a7:=g.yW K HP;have c0:=g.p K HB (by decide) (by decide) (by decide);have c5:=I.trans g;have a1:=Q0 _ _ _ B _ c u s P j _ w4 x a7 F a4;have b4:=x;clear x g c9 K HP HB I;go_wp2_with fail;apply a1.mono;rintro e w5 ⟨rfl,x,g⟩;have e3:=g.yW b4 a7;have d8:=g.p b4 c0 (by decide) (by decide) (by decide);have e0:=c5.trans g;have e4:=x;have e1:=a4.norm 41;have e7:=a4.u;clear x g b4 a7 c0 c5 a1 a4;subst e8;go_wp2_with fail;go_roundw;exact⟨k+1,m2,by omega,e7,by go_num,e4,e1,e5,e3,d8,e0⟩;simp[zm];omega
 .have y:=N.o;have a0:t-k=0\/(DQ P 41 d).s≠1:=by
   by_cases q:(DQ P 41 d).s=1;left;have:=λp=>a5 ⟨q,p⟩
   omega;exact zn q
  rw[iP a0]at y;subst y;have e6:(((DQ P 41 d).s:zw)==1)=zr\/((((DQ P 41 d).s:zw)==1)=zt/\k=t):=by
   by_cases q:(DQ P 41 d).s=1;right;have:=λp=>a5 ⟨q,p⟩
   exact⟨by simp[q],by omega⟩;left;simp;omega
  clear a0 a5;have d6:∀j,j<B->wr.heap[j]? =w.heap[j]? :=λj H=>I.block j (by omega)<|by rintro(q|q|q|⟨q,_⟩)<;>omega
  have HC:=λ(b:I') (z:O Cb wr b)=>d7 _ _ _ _ b (K.t8 z) (HP.t8 z) (HI.less<|Ar _) b7 λj H=>by rw[z.block j (by have:=I.size;omega) id];exact d6 j H
  have d5:t-(t-k)=k:=by omega
  have e2:=J d5;have f5:=I.size;clear d5 d7;rcases e6 with c1|⟨c1,rfl⟩
  all_goals
   go_wp2_with fail;apply(HC _ oq).mono;rintro e w6 ⟨v6,l6,rfl,u1,u2,u3⟩;obtain⟨ya,yl,yc,rfl⟩:=CA u1;have U3:=O.trans (X:=Cb) (a:=wr) oq u3;have U1:=CN u1 (show B<=_ by omega);have f7:w6 ((w:M)+1+1+1+1,7)=(DQ P 41 d).s:=(Ae<|U3.block _ lm id).trans r7;have bx:=W.j HB U3 id;have⟨b0,b1,b2⟩:=bx.k3;have bz:=bx.wV;have lb:=Cz bx;clear u1 u3;go_wp2_with fail;have U:O (λk=>k=(w:M)+1) w6<|((w6.setCell ⟨(w:M)+1,0,Z⟩ (DQ P 41 d).s).setCell ((w:M)+1,1) k).setCell ⟨(w:M)+1,2,Z⟩<|Y ya yl yc:=(((CT _ w6).wS 0 _).wS 1 _).wS 2 _;refine Ak (v:=N' #[(DQ P 41 d).s,k,Y ya yl yc]) (by simp[zz,results39,go_sem,b0,b1,b2]) Q ⟨_,by first|rfl|rw[e2.o],l6,Cx U1 U<|CL U1 bx<|by decide,u2,?_⟩;have R:=I;have S:=U3;refine⟨U.os.trans<|S.os.trans R.os,U.tape.trans<|S.tape.trans R.tape,U.output.trans<|S.output.trans R.output,As R.size<|As S.size U.size,λj H=>?_⟩;rw[U.block j (by have:=R.size;have:=S.size;omega)<|by omega,S.block j (by have:=R.size;omega) id];exact d6 j H
theorem O.grow{X:Ce}(w b):O X w<|grow w b:=
 ⟨Q,Q,Q,by simp,λk a _=>heap_grow_old _ _ a⟩
theorem uT(w)(a:Lib.TabIs zy w "internal/strconv.uint64pow10" .u64 Lib.pow10Tab):Mf w:=by
 intro n b i f;have h:Lib.TabIs zy b "internal/strconv.uint64pow10" .u64 Lib.pow10Tab:=by
  unfold Lib.TabIs World.var? at a|-;cases c:Tryz.prog.globalNamed "internal/strconv.uint64pow10" with
  |none=>grind
  |some g=>
   rw[c]at a;simp only[Option.bind_some]at a|-;have d:g<w:=by grind
   rw[f.block g d id];exact a
 apply(Tryz.strconv_Itoa (n:zw) (by omega) (by omega) b h).mono;rintro e l ⟨rfl,k,j,rfl⟩;refine⟨?_,((CT _ b).drewN k).trans<|O.grow _ _⟩;have:Lib.itoa (n:zw)=Lib.decDigits n:=by grind[Lib.itoa]
 rw[this];rfl
theorem lQ:fV:=by
 intro B g c l d C U;have⟨V,z⟩:=C;rcases z with⟨q,_⟩|⟨N,F,H,q,u,f,P,p,r,R⟩
 cases q;cases q;have a0:(l.map λb=>b.data.toList).map encStr=l.map Y':=by grind[List.map_congr_left]
 have i:L (l.map λb=>b.data.toList)=l:=by simp
 have t:Holds encStr d g 0 (l.map λb=>b.data.toList).toArray:=holds_of_block f (by grind);have v:g<d:=lt_of_block f;have m:=Tryz.slices_Sort_string g 0 c (l.map λb=>b.data.toList) d t v (by omega);rw[i]at m;apply m.mono;rintro e w' ⟨rfl,n,o,rfl⟩;have⟨a,E⟩:=Dv<|(l.map λb=>b.data.toList).mergeSort λx y=>zu<|x<=y;have j:a.Perm<|l.map λb=>b.data.toList:=by grind[List.mergeSort_perm]
 have X:a.Pairwise λx y=>zu (x<=y)=zt:=by grind[List.pairwise_mergeSort]
 rw[E];refine⟨Q,a.map λs=>⟨s.toArray⟩,?_,?_,?_,O.xA (CT _ d) (grownBy_sorted _) λk S=>by grind⟩;have h:=ownsRow_sorted (w:=d) (base:=B) (n:=n) (os:=o) (ts:=a) (ss:=l.map λb=>b.data.toList) j.length_eq u f (by omega) p r;rw[i]at h;unfold CK;have I:L (a.map λs=>(⟨s.toArray⟩:Cd))=l:=by rw[AG,j.length_eq,i]
 have K:(a.map λs=>(⟨s.toArray⟩:Cd)).map Y'=a.map encStr:=by rw[List.map_map];rfl
 grind;have h:=j.map λs=>(⟨s.toArray⟩:Cd);rw[List.map_map]at h;have e:l.map ((λs=>(⟨s.toArray⟩:Cd)) ∘ λb=>b.data.toList)=l:=by
  conv=>rhs;rw[<-List.map_id l]
  exact List.map_congr_left λb _=>by simp
 grind;grind[Kq]
abbrev qF:Cg:=#[G A 0,G A 0,Y Z 0 0]
def Zm(b:M)(c:I'):Prop:=∀a:I',(∀k,k<b->a.heap[k]? =c.heap[k]?)->Mf a
theorem kC(s c:Cd)(k:zw)(a p:M)(w:I')(h:F' zy 29 #[s] (w.alloc<|R' qF 49) λe f=>e=P' #[Y Z 0 0,fE,a,p]/\zx (w.alloc<|R' qF 49) (w.alloc<|R' qF 49) f)(t:a≠0):
 F' zy 12 #[s,c,k] w λe f=>e=P' #[N' #[G A 0,G A 0,Y Z 0 0],a,p]/\zx w w f:=by
 have u:=qO a 0 (by omega);have i:=J h;clear h;go_in;go_wp2_with fail;apply i.o.mono;rintro e g ⟨rfl,d⟩;have o:=d;simp at o;have n:zx w w g:=((Below.refl _ _).alloc (Ad _) _).trans (d.mono<|by simp);have b:W w #[G A 0,G A 0,Y Z 0 0] 49 g:=by show g.heap[(w:M)]? =_;rw[d.block _<|by simp];exact BB w _
 have⟨j,l,m⟩:=b.k3;have r:=b.wV;have q:=Cz b;clear d b i;go_wp2;refine Ak (v:=P' #[N' #[G A 0,G A 0,Y Z 0 0],a,p]) (by simp[zz,results12,go_sem,j,l,m,q]) Q ⟨Q,?_⟩;exact(((n.setCell (p:=w) (Ad _) _).setCell (p:=(w,1)) (Ad _) _).setCell (p:=(w,2)) (Ad _) _).alloc (by simp;omega) _
theorem cQ(h:M)(z:I')(P:Zm h z)(a:Df)(d:Fi a)(B:M)(f:H')(n i:M)(b:Cd)(c:zw)(w:I')(V:Ds B w f<|Du (DN a) a 0 0)(N:B<=w)(a1:h<=B)(hG:∀k,k<h->w.heap[k]? =z.heap[k]?):
 F' zy 39 #[N' #[f,(vx (DN a) DF:M),n,i],b,c] w λe g=>∃v l,e=N' #[((Jz (KV a 0 0) (DN a) (vx (DN a) DF) (Ff c) b.data.toList).s:M),((Jz (KV a 0 0) (DN a) (vx (DN a) DF) (Ff c) b.data.toList).f:M),v]/\CK B g v l/\
  Sw (Du (DN a) a 0 0) l (Jz (KV a 0 0) (DN a) (vx (DN a) DF) (Ff c) b.data.toList).c.x (Jz (KV a 0 0) (DN a) (vx (DN a) DF) (Ff c) b.data.toList).c.xG/\(Jz (KV a 0 0) (DN a) (vx (DN a) DF) (Ff c) b.data.toList).c.x+L (Jz (KV a 0 0) (DN a) (vx (DN a) DF) (Ff c) b.data.toList).c.xG<=140000/\zx B w g:=by
 have a2:=GH (fn:=DN a) a 0 0;have U:vx (DN a) DF<Du (DN a) a 0 0:=by have:=(EF (l:=DN a) (s:=DF) d.xZ.main).1;grind[DN]
 refine(jL B f (vx (DN a) DF) n i (Du (DN a) a 0 0) b c w V d.zM N U (λl y p=>Sw (Du (DN a) a 0 0) l y p/\y+L p<=140000) λX pm C m o R S x j hk=>?_).mono ?_;refine(cR X pm C B f _ n i (Du (DN a) a 0 0) m o R S d.zM d.az (P o λk q=>by grind) lQ j.X j.V (by have:=x.pl;omega)<|by omega).mono ?_;rintro e g ⟨v,l,ks,es,rfl,r,t,u,E,F,H,I,K⟩;exact⟨v,l,Q,r,⟨pV d.cx j t u E F H I,by have:=x.pl;omega⟩,K⟩;rintro e g ⟨v,l,rfl,r,t,u⟩;have⟨a0,r1,r2⟩:=pU d.px (vx (DN a) DF) (Ff c) b.data.toList;grind
theorem dK(r:M)(R:I')(hI:Zm r R)(s m:Cd)(o:zw)(b:Df)(P:M)(B:Fi b)(hT:∀t,t∈b->∀u,u∈t.i->Sx 4000 u)(w:I')(hG:zx r R w)(hB:r<=w)
 (hR:F' zy 29 #[s] (w.alloc<|R' qF 49) λe p=>∃(g n a1:M) (a:Ch) (l c:M) (U:Ce),e=P' #[Y g n a1,N' #[Y a l c,P],G A 0,G A 0]/\Gt 4000 U p (Y a l c) b/\(∀k,U k->k<(p:M))/\zx (w.alloc<|R' qF 49) (w.alloc<|R' qF 49) p):
 F' zy 12 #[s,m,o] w λe p=>∃d h f l,e=P' #[N' #[((Jz (KV b 0 0) (DN b) (vx (DN b) DF) (Ff o) m.data.toList).s:M),((Jz (KV b 0 0) (DN b) (vx (DN b) DF) (Ff o) m.data.toList).f:M),Y d h f],G A 0,G A 0]/\CK w p (Y d h f) l/\
  Sw (Du (DN b) b 0 0) l (Jz (KV b 0 0) (DN b) (vx (DN b) DF) (Ff o) m.data.toList).c.x (Jz (KV b 0 0) (DN b) (vx (DN b) DF) (Ff o) m.data.toList).c.xG/\(Jz (KV b 0 0) (DN b) (vx (DN b) DF) (Ff o) m.data.toList).c.x+L (Jz (KV b 0 0) (DN b) (vx (DN b) DF) (Ff o) m.data.toList).c.xG<=140000/\zx w w p:=by
 obtain⟨X,HG,HI,b3,b5⟩:=Ix hR hG hI B<|B.bd hT;clear hR hG hI B hT;obtain⟨S,F⟩:=Dv<|Jz (KV b 0 0) (DN b) (vx (DN b) DF) (Ff o) m.data.toList;rw[F];have HS:=J F;clear F;generalize a6:(λ(e:Ending) (p:I')=>∃d h f l,e=T' (P' #[N' #[G A (S.s:M),G A (S.f:M),Y d h f],G A 0,G A 0])/\CK (w:M) p (Y d h f) l/\Sw (Du (DN b) b 0 0) l S.c.x S.c.xG/\L S.c.x+L S.c.xG<=140000/\zx (w:M) w p)=Po;have HP:=J a6;clear a6;go_in;go_wp2_with fail;apply X.o.mono;rintro e V ⟨g,n,a1,a,l,c,U,rfl,a7,hu,z⟩;have hz:=z.size;simp at hz;have a2:=J (((Below.refl (w:M) w).alloc (Ad _)<|R' qF 49).trans<|z.mono<|by simp);have E:W (w:M) qF 49 V:=by show V.heap[(w:M)]? =_;rw[z.block _<|by simp];exact BB w _
 obtain⟨a9,b6,b8,i⟩:=F8 E a7 hu<|(CT Cb V).alloc<|R' #[Y a l c,G A P] 81;have l2:=Cz E;clear z E X a7 hu;go_wp2_with(first
  |(go_at_call 31;refine(aB 4000 U (Y a l c) b P _ (b6.o.j i.o Ed) (λk I=>by have:=b8.o k I;have:=i.o.size;omega) b5.o).mono ?_;rintro e w4 ⟨fv,rfl,a5,a4⟩;have b4:=J a5;have y:=J a4;clear a5 a4)
  |(go_at_call 39;refine(cQ r R HI.o b b3.o _ fv _ _ m o w4 b4.o y.o.size (by have:=i.o.size;omega) λk I=>by rw[y.o.block k (by have:=i.o.size;omega) id,i.o.block k (by omega) id,a2.o.block k<|by omega];exact HG.o.block k I).mono ?_;rw[HS.o];rintro e j ⟨v,ll,rfl,K,a8,a3,H⟩;have b2:=J a3;clear a3;obtain⟨d,h,f,rfl⟩:=CA K;obtain⟨a0,b7,b1⟩:=Dq K a8 H;have x:W (w:M) qF 49 j:=(by show j.heap[(w:M)]? =_;rw[H.block _<|by have:=i.o.size;omega];exact(a9.o.j i.o id).j y.o id);have C:=J x;have b0:=x.z;have bf:=x.wV;clear K a8 H x))
 have c0:W (w:M) #[G A (S.s:M),G A 0,Y Z 0 0] 49<|j.setCell ⟨(w:M),0,Z⟩<|G A (S.s:M):=C.o.set 0 _;have c1:W (w:M) #[G A (S.s:M),G A (S.f:M),Y Z 0 0] 49<|(j.setCell ⟨(w:M),0,Z⟩<|G A (S.s:M)).setCell ((w:M),1)<|G A (S.f:M):=c0.set 1 _;have c2:W (w:M) #[G A (S.s:M),G A (S.f:M),Y d h f] 49<|((j.setCell ⟨(w:M),0,Z⟩<|G A (S.s:M)).setCell ((w:M),1)<|G A (S.f:M)).setCell ((w:M),2)<|Y d h f:=c1.set 2 _;have N:O (λk=>k=(w:M)) j<|((j.setCell (w:M)<|G A (S.s:M)).setCell ((w:M),1)<|G A (S.f:M)).setCell ((w:M),2)<|Y d h f:=(((CT _ j).wS 0 _).wS 1 _).wS 2 _;obtain⟨e0,e1,e2⟩:=c2.k3;have R9:D<|CK (w:M) (((j.setCell (w:M)<|G A (S.s:M)).setCell ((w:M),1)<|G A (S.f:M)).setCell ((w:M),2)<|Y d h f) (Y d h f) ll:=Cx (CN a0.o<|by have:=i.o.size;omega) N (CL a0.o C.o<|by decide);have F9:D<|zx (w:M) w<|((j.setCell (w:M)<|G A (S.s:M)).setCell ((w:M),1)<|G A (S.f:M)).setCell ((w:M),2)<|Y d h f:=(a2.o.trans<|(i.o.xL (by omega) λ_ q=>q.elim).trans<|(y.o.xL (by have:=i.o.size;omega) λ_ q=>q.elim).trans<|b1.o.mono<|by have:=i.o.size;omega).trans (N.xL (by have:=Cz C.o;omega) λ_ q=>by omega);clear c0 c1 c2 N b0 bf;generalize (((j.setCell (w:M)<|G A (S.s:M)).setCell ((w:M),1)<|G A (S.f:M)).setCell ((w:M),2)<|Y d h f)=W9 at*;apply Ak (v:=P' #[N' #[G A (S.s:M),G A (S.f:M),Y d h f],G A 0,G A 0]) (by simp[zz,results12,go_sem,e0,e1,e2]) Q;cases HP.o;exact⟨d,h,f,ll,Q,R9.o,b7.o,b2.o,F9.o⟩
theorem lD(l B v r u s n p o w)(b:CK B w (Y r u s) l)(c:CK v w (Y n p o) l)(K:L l<=1000000):
 F' zy 14 #[Y r u s,Y n p o] w λe H=>e=O' zt/\O Cb w H:=by
 have C:=CU b;have E:=CU c;subst C;subst E;have g:=J b;have h:=J c;clear b c;go_in;go_wp2;go_loopw[5] (λi wr=>∃k:M,k<=l/\i=G A k/\D (O Cb w wr)) (λi _=>l-(zm i).toNat);exact⟨0,by omega,Q,CT _ _⟩;obtain⟨k,I,rfl,a⟩:=hrel;by_cases z:k<l
 .obtain⟨x,rfl⟩:=CH g.o (by omega);obtain⟨y,rfl⟩:=CH h.o (by omega);have d:=Cx g.o a.o λ_ _ q=>q;have f:=Cx h.o a.o λ_ _ q=>q;have j:=d.cellAt k (by omega);have m:=f.cellAt k (by omega);rw[AI,Ag z]at j m;simp only[BA]at j m;have N:=(d.lt x Q).2;have P:=(f.lt y Q).2;clear d f;generalize l[k]=t at*;have F:=J<|a.o.drew;go_wp2_with fail;go_region;all_goals
   go_wp2_with fail;go_round;exact⟨k+1,by omega,by go_num,F⟩;simp[zm];omega
 .have e:k=l:=by omega
  subst e;go_wp2;go_ret;exact⟨Q,a.o⟩
theorem Ju(n:zw)(w:I'):F' zy 10 #[n] w λe a=>e=n/\a=w:=by go_in;go_wp2;go_ret;exact⟨Q,Q⟩
def Sd(s:I')(r l:M)(i g h u:H')(f:Ci)(n:M)(e:I'):Prop:=∃a b c d,TP s r l i g h u (f++[a]++[b]++[c]++[d]) e/\Mg e a (Z0 n)/\Mg e b (Z0 n)/\Mg e c (Z0 n)/\Mg e d (Z0 n)
theorem NT.kept{r I l m p g o x f w n B}(h:NT r I l m p g o x f w)(t:L f=4*n)(k:Sd w r l p g o x f n B):∃y z,L z=4*(n+1)/\NT r I l m p g o y z B:=by
 have⟨a,b,c,d,H,k1,k2,k3,k4⟩:=k;have⟨y,S⟩:=h.step H λi v e=>by
  rw[Bh,Bh,Bh]at e;by_cases q:i<f;grind;rw[Bc<|by omega]at e;right;have⟨j,V⟩:=Dv<|i-f;have hi:i=4*n+j:=by omega
  rw[V]at e;match j,e with
  |0,e=>grind
  |1,e=>cases e;rw[show i / 4=n by omega];exact k2
  |2,e=>cases e;rw[show i / 4=n by omega];exact k3
  |3,e=>cases e;rw[show i / 4=n by omega];exact k4
  |j+4,e=>cases e
 grind
section
variable{s:I'}{r l:M}{X:Ch}{r2 r3:M}{C:Ch}{F N:M}{P:Ch}{R U:M}{u:H'}{f:Ci}{n:M}{w:I'}(h:TP s r l (Y X r2 r3) (Y C F N) (Y P R U) u f w)(K:r<=s)(t:L f=4*n)(E:96*(n+1)<=140737488355328)
include h K t E
theorem PW{va:H'}{Lk:Cc}(b:CK s w va Lk)(c:L Lk<=1000000):
 F' zy 15 #[Z' l,va] w λe a=>e=P' #[]/\Sd s r l (Y X r2 r3) (Y C F N) (Y P R U) u f n a/\Sz w a:=oO h K t E b c
theorem Qe(g i B a)(b:CK s w g a)(d:CK B w i a)(x:L a<=20000):
 F' zy 19 #[Z' l,g,G A 0,i,O' zt] w λe c=>e=O' zt/\Sd s r l (Y X r2 r3) (Y C F N) (Y P R U) u f n c/\Sz w c:=by
 have p:=eA s B g i a w b d x;have o:=λc (k:O Cb w c)=>PW (h.t8 k) K t E (Cx b k Ed)<|by omega
 obtain⟨z,v,H,rfl⟩:=CA b;obtain⟨I,S,V,rfl⟩:=CA d;clear b d h t;rcases Nat.eq_zero_or_pos v with rfl|hp
 all_goals
  go_in;go_upto_region 3 with(go_at_call 10;apply FC<|Ju _ _);go_wp2_with fail;apply p.mono;rintro e w2 ⟨rfl,m⟩;go_wp2_with fail;apply(o _ m).mono;rintro e w3 ⟨rfl,y,j⟩;have q:=(Sz.of m).trans j;clear j;go_wp2_with fail;go_ret;exact⟨Q,y,q⟩
theorem RO(d g i):F' zy 19 #[Z' l,Y Z 0 0,G A 8,Y d g i,O' zr] w λe a=>e=O' zt/\Sd s r l (Y X r2 r3) (Y C F N) (Y P R U) u f n a/\Sz w a:=by
 have b:=PW h K t E (va:=Y Z 0 0) (Lk:=[]) (An _ _ _ _) (by decide);go_in;go_wp2_with(first
  |(go_at_call 10;apply FC<|Ju _ _)
  |(go_at_call 15;apply b.mono;rintro e j ⟨rfl,c⟩))
 go_ret;exact⟨Q,c⟩
end
theorem Zb{r a5 l m rv lv pv hv f w n}(h:NT r a5 l m rv lv pv hv f w)(t:L f=4*n)(E:96*n<=140737488355328):
 F' zy 7 #[Z' l] w λe w'=>e=O' zt/\O Cb w w':=by
 obtain⟨d,HB,HK⟩:=Dq h.hd h.bx h.kp;obtain⟨h1,h3,rfl⟩:=CB h.hd;have hq:L f<=4*n:=by omega
 have HM:=ZW;have y:D (∀V,O Cb w V->V (l,3)=Y h1 f h3/\l<V):=λV o=>by have b:=HB.j o id;exact⟨b.z 3,Cz b⟩
 go_in;go_wp2_with fail;go_loopw[3] (λi wr=>∃k:M,k<=f/\i=G A k/\O Cb w wr) (λi _=>f-(zm i).toNat);exact⟨0,by omega,Q,oq⟩;obtain⟨k,hk,rfl,q⟩:=hrel;have⟨c0,l0⟩:=y.o wr q;by_cases S:k<f
 .have tk:=LH (p:=(k:zw)<f) (by omega);have e4:(k:zw).tdiv 4=((k / 4:M):zw):=by rw[Int.tdiv_eq_ediv_of_nonneg<|by omega];omega
  have⟨x,hx⟩:=Dv<|Z0<|k / 4;have z:=HM (k / 4) (by omega);have B:=HK k f[k]<|Ag S;rw[hx]at z B;obtain⟨g,rfl⟩:=CH d (by omega);have v:=d.cellAt k (by omega);rw[Ag S]at v;have⟨ka,c,kc,ke,a6,a4⟩:=B;rw[ke]at v;have a0:=J v;have lg:=(d.lt g Q).2;have a1:=J a4;go_wp2_with fail;refine(z wr).mono ?_;rintro e w2 ⟨rfl,o2⟩;have a:=q.trans o2;have HG:D (∀V,O Cb w V->V (g,k)=Y ka c kc/\g<V):=λV o=>⟨(Ae<|o.block g lg id).trans a0.o,Av lg o.size⟩
  go_wp2_with fail;go_loopw[5] (λi wr=>∃j:M,j<=c/\i=G A j/\O Cb w wr) (λi _=>c-(zm i).toNat);exact⟨0,by omega,Q,a⟩;obtain⟨j,hj,rfl,a⟩:=hrel;have⟨c0,l0⟩:=y.o _ a;have⟨c1,C⟩:=HG.o _ a;by_cases a3:j<c
  .have tj:=LH (p:=(j:zw)<c) (by omega);obtain⟨b,cs,fz,rfl,H,a2⟩:=a1.o (by omega);have I:wr.heap[b]? =T (R' cs 9 fz):=(a.block b (Cz H) id).trans H;have c2:=(Jh I j).trans<|a2 j a3;have F:=Cz I;go_wp2_with fail;go_roundw;exact⟨j+1,by omega,by go_num,a⟩;simp[zm];omega
  .have tj:=Hz (p:=(j:zw)<c) (by omega);go_wp2_with fail;go_roundw;exact⟨k+1,by omega,by go_num,a⟩;simp[zm];omega
 .have tk:=Hz (p:=(k:zw)<f) (by omega);go_wp2_with fail;go_ret;exact⟨Q,q⟩
def Sh(l m:Cc):Bool:=l.any λx=>zu<|0<=D9 m x 0
theorem JJ.short(h:JJ B C R V z0 s0 n0 s1 P)(x):L (Zy n0 s1.cells x)<=20000:=by
 unfold Zy;split;grind;cases q:s1.cells[(D9 n0 x 0).toNat]? with
 |none=>grind
 |some l=>exact(h.sh l<|BH q).1
theorem XI(h:JJ B C R V z0 s0 n0 s1 P)(a b:Cd):
 F' zy 27 #[Z' C,a,b] P λe m=>e=(Sh (Zy n0 s1.cells a)<|Zy n0 s1.cells b)/\O Cb P m:=by
 have n:=Jt B C R V z0 s0 n0 s1 P h a;have o:=Jt B C R V z0 s0 n0 s1 P h b;have a2:=h.short a;have s2:=h.short b;generalize Zy n0 s1.cells a=c at n a2|-;generalize Zy n0 s1.cells b=d at o s2|-;clear h;have HF:=λ(v:H') (x:Cd) (N:I') (q:CK B N v d)=>Jn B v d x N q s2
 have E:D (∀k (h:k<L c),0<=D9 d c[k] 0->Sh c d=zt):=λk h q=>by unfold Sh;rw[List.any_eq_true];exact⟨_,Am h,by simpa using q⟩
 have I:D<|(∀k (h:k<L c),D9 d c[k] 0<0)->Sh c d=zr:=λq=>by unfold Sh;rw[List.any_eq_false];intro x hx;obtain⟨i,hi,rfl⟩:=AC.1 hx;have:=q i hi;simp;omega
 generalize Sh c d=a4 at E I|-;go_in;go_wp2_with fail;refine n.mono ?_;rintro e m ⟨⟨va,rfl,u⟩,l⟩;cases l.symm;obtain⟨a1,a3,rfl⟩:=CB u;clear n;go_wp2_with fail;refine o.mono ?_;rintro e m ⟨⟨vb,rfl,a0⟩,l⟩;cases l.symm;obtain⟨b1,b2,b3,rfl⟩:=CA a0;clear o;go_wp2_with fail;go_loopw[9] (λi wr=>∃k:M,k<=c/\i=G A k/\(∀j (h:j<L c),j<k->D9 d c[j] 0<0)/\O Cb P wr) (λi _=>c-(zm i).toNat);exact⟨0,by omega,Q,λ_ _ q=>Bm q<|by omega,oq⟩;obtain⟨k,hk,rfl,t,f⟩:=hrel;by_cases X:k<c
 .have tk:=LH (p:=(k:zw)<L c) (by omega);obtain⟨g,rfl⟩:=CH u (by omega);have y:=Cx u f Ed;have S:=y.cellAt k (by omega);rw[AI,Ag X]at S;simp only[BA]at S;have lg:=(y.lt g Q).2;have H:=HF _ c[k] wr<|Cx a0 f Ed;have F:=J<|E.o k X;have K:D9 d c[k] 0<0->∀j (h:j<L c),j<k+1->D9 d c[j] 0<0:=λq j h z=>by by_cases e:j=k;subst e;exact q;exact t j h<|by omega
  have⟨r,hr⟩:=Dv<|D9 d c[k] 0;have U:=(Et d c[k] 0).2;rw[hr]at H F K U;have⟨a5,a6⟩:=U;generalize c[k]=x at*;clear y hr t;go_wp2_with fail;refine H.mono ?_;rintro e m ⟨rfl,l⟩;cases l.symm;by_cases hp:0<=r
  .have tr:=LH (p:=(0:zw)<=r) (by omega);cases F.o hp;go_wp2_with fail;go_ret;exact⟨Q,f⟩
  .have tr:=Hz (p:=(0:zw)<=r) (by omega);have HQ:=K (by omega);go_wp2_with fail;go_roundw;exact⟨k+1,by omega,by go_num,HQ,f⟩;simp[zm];omega
 .have tk:=Hz (p:=(k:zw)<c) (by omega);have hV:=I.o λj h=>t j h<|by omega
  subst hV;go_wp2_with fail;go_ret;exact⟨Q,f⟩
theorem XJ(N:aT U)(f:K9 U B C R)(j:TQ U C R s1)(h:(least U).le<|RY U C s1)(g:Dh U C X)(k:Dh U C v0):
 Sh (KW U C s1 X) (KW U C s1 v0)=zt↔∃x,(least U).I X x/\(least U).I v0 x:=by
 have m:∀{e},Dh U C e->∀x,x∈KW U C s1 e↔∃t,(least U).I e t/\x=EC U t:=λl x=>⟨λq=>Ub N f j l q,fun⟨t,a,b⟩=>by rw[b];exact(h.i _ t a).2⟩
 unfold Sh;rw[List.any_eq_true];constructor;rintro⟨x,n,q⟩;have⟨t,a,e⟩:=(m g x).1 n;have⟨u,b,i⟩:=(m k x).1 ((Et _ x 0).1.1<|by simpa using q);obtain rfl:=IJ N f (Ft f.ok a).2 (Ft f.ok b).2<|e.symm.trans i;grind;rintro⟨t,a,b⟩;exact⟨_,(m g _).2 ⟨t,a,Q⟩,by grind[Et]⟩
def qS(s:Ls)(u:FS)(y:Cd):Prop:=(u.e=8/\y=u.q.a)\/(u.e=9/\y∈KZ s u.t9)
theorem Ul{k:M}(h:FK k=8\/FK k=9):k+1=FK k:=by grind[FK]
structure Zr(P:CQ)(m:M)(n:C8)(s:Ls)(G:Cf)(i:M):Prop where
 hd:G[0]? =m
 nd:G.Pairwise (·≠ ·)
 re:∀g,g∈G->Iz P (least P) m g/\g<P.length
 il:i<=G
 dn:∀(j f:M),j<i->G[j]? =f->∀(k:M) (u:FS) (y:Cd),n[k]? =u->u.l=f->qS s u y->y∈G.map (DB P)
section
variable{P:CQ}{m v w:M}{B:Dd}{n:C8}{s:Ls}(K:OS P m v w B n)
include K
theorem Zr.len{a i}(h:Zr P m n s a i):L a<=12:=As (GA P a h.nd λx b=>(h.re x b).2) K.hy.ok.xE
theorem Zr.ini:Zr P m n s [m] 0:=⟨Q,List.pairwise_singleton _ _,λg a=>by rw[Ay.1 a];exact⟨Iz.rf _ _ _,K.hy.mn⟩,Ar _,λj _ b=>Bm b<|by omega⟩
omit K in
theorem Zr.q{a i f}(h:Zr P m n s a i)(c:a[i]? =T f)(d:∀(k:M) (u:FS) (y:Cd),n[k]? =T u->u.l=f->qS s u y->y∈a.map (DB P)):Zr P m n s a<|i+1:=⟨h.hd,h.nd,h.re,(Bz.1 c).1,λj b g e=>by
 by_cases q:j=i
 .grind
 .exact h.dn j b (by omega) e⟩
omit K in
theorem Zr.push{l i f g}(h:Zr P m n s l i)(r:f∈l)(c:Kv P (least P) f g)(t:g<P)(F:g∉l):Zr P m n s (l++[g]) i:=⟨by
 have:=h.hd;grind,List.pairwise_append.2 ⟨h.nd,List.pairwise_singleton _ _,λa C b E=>by grind⟩,λx z=>(AJ.1 z).elim (h.re x) λq=>by rw[Ay.1 q];exact⟨(h.re f r).1.step c,t⟩,by rw[Ah];exact As h.il<|Nat.le_add_right _ _,λj p o e k u y a b d=>by
 rw[Be<|Av o h.il]at e;rw[Bn];exact BN _<|h.dn j p o e k u y a b d⟩
theorem pB{a:Cf}(e:∀g,g∈a->g<L P){g:M}(f:g<L P)(h:DB P g∈a.map (DB P)):g∈a:=by have⟨b,c,d⟩:=AS.1 h;have:=K.nm.inj b g (e b c) f d;grind
theorem uI(d:(least P).le<|RY P v s){f g:M}(i:f<P)(c:Kv P (least P) f g):∃(k:M) (u:FS),n[k]? =u/\u.l=f/\qS s u (DB P g):=by
 have⟨t,l,h⟩:=c;rcases K.stmt ⟨f,t⟩ ⟨i,l⟩with q|⟨k,u,j,a⟩
 grind;refine⟨k,u,j,a.l,?_⟩;have b:u.e=FK t.e:=a.e;rcases h with⟨h,rfl⟩|⟨h,e⟩
 exact zo ⟨by rw[b,h];rfl,a.g<|zn h⟩;exact zn ⟨by rw[b,h];rfl,by rw[a.pl<|zn h];exact d.e _ _ e⟩
theorem uK(o:TQ P v w s){k:M}{u:FS}(i:n[k]? =u){y:Cd}(h:qS s u y):∃g,y=DB P g/\g<L P/\Kv P (least P) u.l g:=by
 rcases K.rule k u i with q|⟨r,a⟩
 rcases h with⟨h,_⟩|⟨h,_⟩<;>omega
 have d:r.f<P:=a.rl.1;have i:=a.e;rcases h with⟨h,e⟩|⟨h,e⟩
 have b:r.s.e=7:=by grind[Ul]
 have c:Kv P (least P) u.l r.s.n:=⟨r.s,by rw[a.l];exact a.rl.2,zo ⟨b,Q⟩⟩;exact⟨_,e.trans (a.g<|zn b).symm,c.lt K.hy.ok (Sy.le.rf _)<|by rw[a.l];exact d,c⟩;have b:r.s.e=8:=by grind[Ul]
 have p:=((K.hy.ok.c r.f d r.s a.rl.2).2.1 b).1;rw[<-a.pl (zn b)]at p;unfold KZ at e;cases q:s.P[u.t9-1]? with
 |none=>grind
 |some l=> rw[q]at e;have⟨g,f,j⟩:=o.ei _ l q y e;rw[show u.t9-1+1=u.t9 by omega,a.pl<|zn b]at f;have c:Kv P (least P) u.l g:=⟨r.s,by rw[a.l];exact a.rl.2,zn ⟨b,f⟩⟩;exact⟨g,j,c.lt K.hy.ok (Sy.le.rf _)<|by rw[a.l];exact d,c⟩
theorem YH(z:(least P).le<|RY P v s){i}(h:Zr P m n s i i){l o:Cc}(H:Zw (DB P) (Iz P (least P) m) l)(R:bA o)(hm:∀x,x∈o↔x∈i.map (DB P)):l=o:=by
 have⟨U,ns,V,y,X⟩:=H;have p:∀g,Iz P (least P) m g↔g∈i:=λg=>⟨λq=>q (λg=>g∈i) (BH h.hd) λf g r c=>by have⟨j,F,e⟩:=AC.1 r;have t:=(h.re f r).2;have⟨k,u,a,b,d⟩:=uI K z t c;exact pB K (λx S=>(h.re x S).2) (c.lt K.hy.ok (Sy.le.rf _) t)<|h.dn j f F (by grind) k u _ a b d,λq=>(h.re g q).1⟩
 have I:l.Nodup:=by rw[X.nodup_iff];refine List.pairwise_map.2<|(List.Pairwise.and_mem.1 V).imp ?_;rintro a b ⟨C,E,N⟩ e;exact N<|K.nm.inj a b (h.re a<|(p a).1<|(y a).1 C).2 (h.re b<|(p b).1<|(y b).1 E).2 e
 refine ID (IC U I) R λx=>?_
 grind
end
structure fT(P:CQ)(mn:M)(fs:C8)(s:Ls)(w:I')(G:Cf)(k:M)(v:H')(wz:I'):Prop where
 q:Zr P mn fs s G k
 r:CK w wz v<|G.map<|DB P
 o:O Cb w wz
theorem fT.form(h:fT U B x1 s1 P q2 C V y0):∃a c,V=Y a q2 c:=by obtain⟨a,l,c,rfl⟩:=CA h.r;have:=CU h.r;grind
theorem fT.t8(h:fT U B x1 s1 P q2 C V y0)(o:O Cb y0 v1):fT U B x1 s1 P q2 C V v1:=⟨h.q,Cx h.r o Ed,h.o.trans o⟩
theorem OK(h:CK B P (Y (T ⟨C,0,Z⟩) R X) n0){k:M}(a:k<L n0):K' P ⟨C,k,Z⟩=T (Y' n0[k]):=by have:=CU h;grind[LD]
theorem VM:∀(l:Cc) (x:Cd),L (EP l x)<=l+1
 |[],x=>by simp[EP]
 |a::l,x=>by have:=VM l x;grind[EP]
def mX(P:CQ)(b:C8)(s:Ls)(f j:M)(a:Cf):Prop:=∀(k:M) (u:FS) (y:Cd),k<j->b[k]? =u->u.l=f->qS s u y->y∈a.map (DB P)
theorem mX.app(h:mX U x1 s1 B C q2)(g):mX U x1 s1 B C<|q2++[g]:=λk u y a b c d=>by rw[Bn];exact BN _<|h k u y a b c d
theorem mX.q(h:mX U x1 s1 B C q2)(l:x1[C]? =t0)(i:t0.l=B->∀y,qS s1 t0 y->y∈q2.map (DB U)):mX U x1 s1 B (C+1) q2:=λk g y a b c d=>by
 by_cases e:k=C
 .grind
 .exact h k g y (by omega) b c d
theorem jX(K:OS U B C R o0 x1)(b:x1[X]? =t0)(h:t0.e=9):1<=t0.t9/\t0.t9<=R:=by
 rcases K.rule X t0 b with q|⟨r,a⟩
 omega;have b:=a.e;have d:r.s.e=8:=by grind[Ul]
 have c:=(K.hy.ok.c r.f a.rl.1 r.s a.rl.2).2.1 d;rw[<-a.pl (zn d)]at c;exact c
theorem YG(K:OS U B C R o0 x1)(hI:TQ U C R s1)(j4:DB U B=DF)(hw:JJ v0 p0 o1 s0 u1 x2 (Lu U C) s1 P)(hp:KO o1 X z1 V z0 o0 x1 C R P):
 F' zy 25 #[Z' p0] P λe w'=>∃v d o,e=T' v/\Zr U B x1 s1 d d/\CK P w' v o/\bA o/\(∀x,x∈o↔x∈d.map (DB U))/\O Cb P w':=by
 obtain⟨i0,f6,g1,g2,g3⟩:=Bx Tryz.infoStr;obtain⟨ea,ec,rfl⟩:=hw.V.form;obtain⟨fa,fl,fc,rfl⟩:∃a l c,V=Y a l c:=by obtain⟨_,F,_⟩:=hp.fn;exact CA F
 obtain⟨sa,sl,sc,rfl⟩:∃a l c,z0=Y a l c:=by obtain⟨_,F,_⟩:=hp.st;exact CA F
 have b3:fl=L o0:=by obtain⟨_,F,_⟩:=hp.fn;exact CU F
 have c7:sl=L x1:=by obtain⟨_,F,_⟩:=hp.st;exact CU F
 subst b3;subst c7;have l0:=K.xE;have m0:L o0<=12:=by have:=K.len;have:=K.hy.ok.xE;omega
 have HC:D (∀a0,O Cb P a0->K' a0 ⟨p0,0,Z⟩=T (Z'<|T ⟨o1,0,Z⟩)/\K' a0 ⟨p0,3,Z⟩=T (Y ea (L s1.P) ec)/\K' a0 ⟨o1,0,Z⟩=T (Y fa (L o0) fc)/\K' a0 ⟨o1,1,Z⟩=T (Y sa (L x1) sc)/\p0<(a0:M)/\o1<(a0:M)):=λa0 o=>by have b:=hw.bx.j o id;have p:=hp.r.p.j o id;exact⟨b.z 0,b.z 3,p.z 0,p.z 1,Cz b,Cz p⟩
 obtain⟨HW,HP,HK,HI⟩:=F8 hw hp K hI;clear hw hp K hI;go_enter func25,ntmps25;go_wp2_with fail;have R0:D<|fT U B x1 s1 P [B] 0 (Y (T ⟨(P:M),0,Z⟩) [B].length 1)<|P.alloc<|R' #[Y' ⟨#[109,97,105,110]⟩] 9:=⟨Zr.ini HK.o,⟨Q,zn ⟨(P:M),1,_,Q,Ad _,BB P _,by simp,by decide,Q,by rw[List.map_singleton,List.map_singleton,j4];rfl⟩⟩,(CT _ P).alloc _⟩;change Code.wp _ _ _ _ (P.alloc<|R' #[Y' ⟨#[109,97,105,110]⟩] 9);generalize P.alloc (R' #[Y' ⟨#[109,97,105,110]⟩] 9)=W0 at R0|-;go_loopw[3,4] (λv i wr=>∃(k:M) (d:Cf) (a:Ch) (c:M),k<=12/\v=Y a (L d) c/\i=G A k/\D (fT U B x1 s1 P d k (Y a (L d) c) wr)) (λ_ i _=>13-(zm i).toNat);exact⟨0,[B],_,1,by omega,Q,Q,R0⟩;clear R0;obtain⟨k,d,a,c,hk,rfl,rfl,E⟩:=hrel;have d5:=E.o.q.len HK.o;by_cases f8:k<L d
 .have tk:zu ((k:zw)<(L d:zw))=zt:=by simp;omega
  obtain⟨f,hf⟩:∃f,d[k]? =T f:=⟨_,Ag f8⟩;have i7:=(E.o.q.re f<|BH hf).2;have H:=J hf;have D0:D<|mX U x1 s1 f 0 d:=λ_ _ _ q=>Bm q<|by omega
  clear hf;go_wp2_with fail;go_loopw[3,5] (λv i wz=>∃(j:M) (d:Cf) (a:Ch) (c:M),j<=L x1/\v=Y a (L d) c/\i=G A j/\D (d[k]? =T f)/\D (mX U x1 s1 f j d)/\D (fT U B x1 s1 P d k (Y a (L d) c) wz)) (λ_ i _=>L x1-(zm i).toNat);exact⟨0,d,a,c,by omega,Q,Q,H,D0,E⟩;clear E H D0 d5 tk f8;obtain⟨j,d,a,c,hj,rfl,rfl,H,a1,E⟩:=hrel;obtain⟨b9,p1,p2,p3,l1,l2⟩:=HC.o wr E.o.o;by_cases c3:j<L x1
  .have tj:zu ((j:zw)<(L x1:zw))=zt:=by simp;omega
   obtain⟨sg,j5⟩:∃g,sa=T ⟨g,0,Z⟩:=by obtain⟨_,F,_⟩:=HP.o.st;exact CH F<|by omega
   subst j5;obtain⟨av,bv,ov,e3,h1,h2,h3⟩:=HP.o.st.get c3;obtain⟨a5,a6,a7,rfl⟩:=CA h1;obtain⟨a9,b0,b1,rfl⟩:=CA h2;obtain⟨b5,b7,b8,rfl⟩:=CA h3;have c7:sg<(P:M):=by obtain⟨_,F,_⟩:=HP.o.st;exact(F.lt sg Q).2
   obtain⟨u,hu⟩:=Dv<|x1[j];have HU:D<|x1[j]? =T u:=by rw[Ag c3,hu];rfl
   rw[hu]at e3;have f7:=HK.o.l j u HU.o;have I:∀i,i<15->K' wr ⟨sg,j*15+i,Z⟩=(Dc u (Y a5 a6 a7) (Y a9 b0 b1)<|Y b5 b7 b8)[i]? :=λi hi=>(Ae<|E.o.o.block sg c7 id).trans<|e3 i hi
   have g4:=I 0 (by omega);have g5:=I 1 (by omega);have s2:=I 2 (by omega);have s3:=I 3 (by omega);have s4:=I 4 (by omega);have s5:=I 5 (by omega);have s6:=I 6 (by omega);have s7:=I 7 (by omega);have s8:=I 8 (by omega);have s9:=I 9 (by omega);have g6:=I 10 (by omega);have g7:=I 11 (by omega);have g8:=I 12 (by omega);have g9:=I 13 (by omega);have h0:=I 14 (by omega);have j9:sg<(wr:M):=Av c7 E.o.o.size;simp only[Dc,Ac,Aa,Ab,Au]at g4 g5 s2 s3 s4 s5 s6 s7 s8 s9 g6 g7 g8 g9 h0;clear e3 I h1 h2 h3 hu;go_upto_region 9 with fail;have AL:=J<|(CT Cb wr).alloc<|R' (Dc u (Y a5 a6 a7) (Y a9 b0 b1)<|Y b5 b7 b8) 114;have B3:=J<|W.new wr (Dc u (Y a5 a6 a7) (Y a9 b0 b1)<|Y b5 b7 b8) 114;have R1:=J<|E.o.t8 AL.o;change Code.wp _ _ _ _ (wr.alloc<|R' (Dc u (Y a5 a6 a7) (Y a9 b0 b1)<|Y b5 b7 b8) 114);generalize wr.alloc (R' (Dc u (Y a5 a6 a7) (Y a9 b0 b1)<|Y b5 b7 b8) 114)=W1 at AL B3 R1|-;generalize (wr:M)=b6 at B3|-;clear E AL g4 g5 s2 s3 s4 s5 s6 s7 s8 s9 g6 g7 g8 g9 h0 b9 p1 p2 p3 l1 l2 j9;obtain⟨b9,p1,p2,p3,l1,l2⟩:=HC.o W1 R1.o.o;obtain⟨x0,-,-,-,x4,-,-,-,-,x9,-,-,-,-,k2⟩:=B3.o.k15;have lb:=Cz B3.o;obtain⟨fg,i8⟩:∃g,fa=T ⟨g,0,Z⟩:=by obtain⟨_,F,_⟩:=HP.o.fn;exact CH F<|by omega
   subst i8;obtain⟨_,_,_,f3,_,_,_⟩:=HP.o.fn.get f7;have b3:fg<(P:M):=by obtain⟨_,F,_⟩:=HP.o.fn;exact(F.lt fg Q).2
   have f0:=(Ae<|R1.o.o.block fg b3 id).trans (f3 0<|by omega);have j7:fg<(W1:M):=Av b3 R1.o.o.size;simp only[J5,Ac,Aa,Au]at f0;rw[HK.o.I u.l f7]at f0;have j2:k<L d:=(Bz.1 H.o).1;obtain⟨ig,j0⟩:=CH R1.o.r (by rw[AG];omega);subst j0;have c5:=OK R1.o.r (k:=k) (by rw[AG];exact j2);have j8:=(R1.o.r.lt ig Q).2;rw[AT,(Bz.1 H.o).2]at c5;have i1:(u.l:zw)<(L o0:zw):=by omega
   have i2:(k:zw)<(L d:zw):=by omega
   have l5:=HK.o.hy.ok.xE;clear f3 b3;by_cases e0:u.l=f
   .subst e0;generalize DB U u.l=d4 at f0 c5;have tn:(d4.toList==d4.toList)=zt:=by simp
    go_quiet(fail);go_upto_region 10 with fail;generalize e7:World.drewN W1 _=W2;have O2:O Cb W1 W2:=e7▸(CT _ W1).drewN _;have N:=J<|R1.o.t8 O2;have B4:=J<|B3.o.j O2 id;clear R1 B3 O2 e7 b9 p1 p2 p3 l1 l2 x0 x4 x9 k2 lb f0 j7 c5 j8 tn i1;obtain⟨b9,p1,p2,p3,l1,l2⟩:=HC.o W2 N.o.o;obtain⟨x0,-,-,-,x4,-,-,-,-,x9⟩:=B4.o.k10;have lb:=Cz B4.o;have hz:=N.o.o.size;have HB:D (∀a0,O Cb W2 a0->K' a0 ⟨b6,0,Z⟩=T (G A u.e)/\b6<(a0:M)):=λa0 o=>by have b:=B4.o.j o id;exact⟨b.z 0,Cz b⟩
    rcases(by omega:u.e=8\/u.e=9\/(u.e≠8/\u.e≠9))with q8|q9|⟨q8,q9⟩
    case' inl=>
     have k8:((u.e:zw)==8)=zt:=by simp;omega
     have k9:((u.e:zw)==9)=zr:=by simp;omega
     have HL:D (∀y,y∈[u.q.a]↔qS s1 u y):=λy=>by rw[Ay];exact⟨λe=>zo ⟨q8,e⟩,λe=>e.elim (λe=>e.2) λe=>by omega⟩
     have hL:[u.q.a].length<=20000:=by simp
     clear q8;go_upto_block 4 with(at_builtin;refine Dp _ Q _ _ 47 Q (P:M) 9 i0 (Y' ByteArray.empty) 1 16 underlying47 f6 g1 g2 g3 Q (by decide) _ _ _ Q (An _ _ _ _) _ 1 1 [Y' u.q.a] Q Q (C3 (by simp) _ _) (λx hx=>by simp at hx;subst hx;rfl) (by decide) (by decide) (by decide) (by simp;omega) ?_;intro v8 w8 a2 b4 b2;obtain⟨la,lc,rfl⟩:=CB a2;have LS:D<|CK (P:M) w8 (Y la 1 lc) [u.q.a]:=a2;have O8:=O.xA (((CT Cb W2).alloc _)) b4 (λk q=>by cases q);have NE:D (∀b,L' (Y la 1 lc)=T b->b≠ig):=(λb q e=>by subst e;have z:=(N.o.r.lt b Q).2;exact(b2 b q).elim (λq=>by cases q) (λq=>by simp at q;omega));have R3:=J<|N.o.t8 O8;obtain⟨y0,ly⟩:=HB.o w8 O8;clear a2 b4 b2 O8);clear y0 ly;rw[show Y la 1 lc=Y la [u.q.a].length lc from Q];have LS:D<|CK (P:M) w8 (Y la [u.q.a].length lc) [u.q.a]:=LS;have NE:D (∀b,L' (Y la [u.q.a].length lc)=T b->b≠ig):=NE;generalize [u.q.a]=t at*
    case' inr.inl=>
     have k8:((u.e:zw)==8)=zr:=by simp;omega
     have k9:((u.e:zw)==9)=zt:=by simp;omega
     have HL:D (∀y,y∈KZ s1 u.t9↔qS s1 u y):=λy=>⟨λe=>zn ⟨q9,e⟩,λe=>e.elim (λe=>by omega) λe=>e.2⟩
     obtain⟨l7,l9⟩:=jX HK.o HU.o q9;have c6:u.t9-1<L s1.P:=by rw[HI.o.el];omega
     obtain⟨eg,la,lc,i5,d7,_,_,e4,c2⟩:=HW.o.V.get c6;subst i5;have d6:KZ s1 u.t9=s1.P[u.t9-1]:=by unfold KZ;rw[Ag c6];rfl
     rw[<-d6]at d7 c2;have hL:L (KZ s1 u.t9)<=20000:=by rw[d6];have:=TQ.eshort HK.o.hy HI.o<|Am c6;omega
     have i6:=(Ae<|N.o.o.block eg e4 id).trans d7;have m1:=Av e4 N.o.o.size;have NE:D (∀b,L' (Y la (L<|KZ s1 u.t9) lc)=T b->b≠ig):=λb q e=>by subst e;have:=(c2.lt b q).2;have:=(N.o.r.lt b Q).1;omega
     have e6:=J<|Cx c2 N.o.o λ_ _ q=>q;obtain⟨n1,f9⟩:=Dv<|u.t9-1;rw[f9]at i6 c6;have l3:(u.t9:zw)-1=(n1:zw):=by omega
     have k4:L s1.P<=4001:=by rw[HI.o.el];exact HK.o.hy.ok.lc
     have k5:IntKind.i64.wrap (n1:zw)=(n1:zw):=by rw[BI];omega
     have e2:(n1:zw)<(L s1.P:zw):=by omega
     clear q9 d7 c2 d6 f9 e4;generalize KZ s1 u.t9=t at*;go_upto_region 14 with fail;go_quiet(fail);go_upto_block 4 with fail;generalize e9:World.drewN W2 _=W3;have O3:O Cb W2 W3:=e9▸(CT _ W2).drewN _;have LS:D<|CK v0 W3 (Y la (L t) lc) t:=Cx e6.o O3 λ_ _ q=>q;have R3:=J<|N.o.t8 O3;clear O3 e9 e6
    case inr.inr=>
     have k8:((u.e:zw)==8)=zr:=by simp;omega
     have k9:((u.e:zw)==9)=zr:=by simp;omega
     have D2:=J<|a1.o.q HU.o λ_ y q=>q.elim (λq=>Bm q.1 q8) λq=>Bm q.1 q9;go_wp2_with fail;go_loopw[3,8] (λv i wz=>v=Y (T ⟨ig,0,Z⟩) (L d) c/\i=G A 0/\wz=W2) (λ_ _ _=>0);exact⟨Q,Q,Q⟩;obtain⟨rfl,rfl,j6⟩:=hrel;subst j6;go_wp2_with fail;go_roundw;exact⟨j+1,d,_,c,by omega,Q,by go_num,H,D2,N⟩;simp[zm];omega
    all_goals
     clear N B4 HB b9 p1 p2 p3 l1 l2 x0 x4 x9 lb k8 k9 hz;go_wp2_with fail;go_loopw[3,8] (λv i wz=>∃(n:M) (d:Cf) (a:Ch) (c:M),n<=L t/\v=Y a (L d) c/\i=G A n/\D (d[k]? =T u.l)/\D (mX U x1 s1 u.l j d)/\D (∀m (h:m<L t),m<n->t[m]∈d.map (DB U))/\D (fT U B x1 s1 P d k (Y a (L d) c) wz)/\D (∃B',CK B' wz (Y la (L t) lc) t)/\D (∀b,L' (Y la (L t) lc)=T b->L' (Y a (L d) c)≠T b)) (λ_ i _=>L t-(zm i).toNat);exact⟨0,d,_,c,by omega,Q,Q,H,a1,λ_ _ q=>Bm q<|by omega,R3,⟨_,LS.o⟩,λb q e=>NE.o b q<|by cases e;rfl⟩;clear R3 LS NE a1 H;obtain⟨n,d,a,c,hn,rfl,rfl,H,a1,HM,R3,LS,NE⟩:=hrel;have d5:=R3.o.q.len HK.o;by_cases e2:n<L t
     .have k1:zu ((n:zw)<(L t:zw))=zt:=by simp;omega
      obtain⟨B',a3⟩:=LS.o;obtain⟨lg,j3⟩:=CH a3 (by omega);subst j3;have c1:=OK a3 e2;have ll:=(a3.lt lg Q).2;have c9:=J (Jn (P:M) _ _ t[n] wr R3.o.r<|by rw[AG];omega);have d8:=Et (d.map<|DB U) t[n] 0;have f1:=(HL.o t[n]).1<|Am e2;obtain⟨g,d9,i9,f4⟩:=uK HK.o HI.o HU.o f1;have c0:D (∀G':Cf,(∀x,x∈d.map (DB U)->x∈G'.map (DB U))->t[n]∈G'.map (DB U)->∀m (h:m<L t),m<n+1->t[m]∈G'.map (DB U)):=λG' h1 h2 m h h3=>by
       by_cases e:m=n
       .subst e;exact h2
       .exact h1 _<|HM.o m h<|by omega
      obtain⟨y,hy⟩:=Dv<|t[n];rw[hy]at c1 c9 d8 d9 c0;obtain⟨r,F⟩:=Dv<|D9 (d.map<|DB U) y 0;rw[F]at c9 d8;obtain⟨f2,k6,k7⟩:=d8;obtain⟨e5,d0,h5⟩:=Dq f2 d9 f4;clear f1 hy F HM f2 d9 f4 LS;go_wp2_with fail;refine c9.o.mono ?_;rintro e w' ⟨rfl,hw⟩;cases hw.symm;by_cases g0:0<=r
      .have tr:zu (r<0)=zr:=by simp;omega
       have h7:=J<|c0.o d (λ_ q=>q)<|e5.o.1 g0;go_wp2_with fail;go_roundw;exact⟨n+1,d,a,c,by omega,Q,by go_num,H,a1,h7,R3,⟨B',a3⟩,NE⟩;simp[zm];omega
      .have tr:zu (r<0)=zt:=by simp;omega
       have f5:g∉d:=λq=>g0<|e5.o.2<|by rw[d0.o];exact AS.2 ⟨g,q,Q⟩
       have h9:=J<|R3.o.q.push (BH H.o) h5.o i9 f5;have hz:=R3.o.o.size;have d1:=J a3;clear a3 f5;go_wp2_with(at_builtin;refine Dp _ Q _ _ 47 Q (P:M) 9 i0 (Y' ByteArray.empty) 1 16 underlying47 f6 g1 g2 g3 Q (by decide) _ _ _ Q (World.ownsRow.alloc R3.o.r _) _ 1 1 [Y' y] Q Q (C3 (by simp) _ _) (λx hx=>by simp at hx;subst hx;rfl) (by decide) (by rw[AG];unfold E';omega) (by rw[AG];omega) (by simp;omega) ?_;intro v8 w8 a2 b4 b2;obtain⟨N8,G8,B8⟩:=Dq a2 b4 b2;obtain⟨a8,l8,c8,rfl⟩:=CA a2;have e8:=CU a2;rw[AG]at e8;subst e8;clear a2 b4 b2);have c4:L (d++[g])=L d+1:=by simp
       have O8:D<|O (λk=>L' (Y a (L d) c)=T k) wr w8:=O.xA ((CT _ wr).alloc _) G8.o λ_ q=>zo q;have R8:D<|fT U B x1 s1 P (d++[g]) k (Y a8 (L<|d++[g]) c8) w8:=⟨h9.o,by rw[c4];unfold CK;rw[Bn,Bn,Ah,AG,List.map_singleton,List.map_singleton,<-d0.o];have:=N8.o;rw[AG]at this;exact this,R3.o.o.thn O8.o λb hb q=>by have:=(R3.o.r.lt b q).1;omega⟩
       have i3:=J<|Cx d1.o O8.o λb q e=>NE.o b q e;have i4:D (∀b,L' (Y (T ⟨lg,0,Z⟩) (L t) lc)=T b->L' (Y a8 (L<|d++[g]) c8)≠T b):=λb q e=>by
        rcases B8.o b (by rw[c4]at e;exact e)with z|z
        .exact NE.o b q z
        .have:=(d1.o.lt b q).2;simp at z;omega
       have h4:D<|(d++[g])[k]? =T u.l:=by show(d++[g])[k]? =_;rw[Be (Bz.1 H.o).1];exact H.o
       have D8:=J<|a1.o.app g;have h8:=J (c0.o (d++[g]) (λx q=>by rw[Bn];exact BN _ q)<|by rw[d0.o,Bn];exact Bs _<|Ay.2 Q);clear N8 G8 B8 O8 R3 d1 NE H a1 c0;rw[show Y a8 (L d+1) c8=Y a8 (L<|d++[g]) c8 by rw[c4]];clear c4;go_wp2_with fail;go_roundw;exact⟨n+1,d++[g],a8,c8,by omega,Q,by go_num,h4,D8,h8,R8,⟨_,i3.o⟩,i4⟩;simp[zm];omega
     .have k1:zu ((n:zw)<(L t:zw))=zr:=by simp;omega
      have D2:=J<|a1.o.q HU.o λ_ y q=>by obtain⟨m,hm,rfl⟩:=AC.1<|(HL.o y).2 q;exact HM.o m hm<|by omega
      go_wp2_with fail;go_roundw;exact⟨j+1,d,a,c,by omega,Q,by go_num,H,D2,R3⟩;simp[zm];omega
   .have tn:((DB U u.l).toList==(DB U f).toList)=zr:=by rw[AZ];exact λe=>e0<|HK.o.nm.inj _ _ (by have:=HK.o.len;omega) i7<|EQ e
    generalize DB U u.l=d4 at f0 tn
    generalize DB U f=k3 at c5 tn
    have D2:=J<|a1.o.q HU.o λe=>Bm e e0
    go_quiet(fail)
    go_wp2_with fail
    go_roundw
    exact⟨j+1,d,_,c,by omega,Q,by go_num,H,D2,R1.o.t8<|(CT _ _).drewN _⟩
    simp[zm];omega
  .have tj:zu ((j:zw)<(L x1:zw))=zr:=by simp;omega
   have N:D<|fT U B x1 s1 P d (k+1) (Y a (L d) c) wr:=⟨E.o.q.q H.o λk' u y q=>a1.o k' u y (by have:=(Bz.1 q).1;omega) q,E.o.r,E.o.o⟩;have j1:=N.o.q.il;have d5:=N.o.q.len HK.o;go_wp2_with fail;go_roundw;exact⟨k+1,d,a,c,by omega,Q,by go_num,N⟩;simp[zm];omega
 .have tk:zu ((k:zw)<(L d:zw))=zr:=by simp;omega
  have j1:=E.o.q.il;obtain rfl:k=L d:=by omega
  obtain⟨HQ,HR,HO⟩:=Dq E.o.q E.o.r E.o.o;have h6:D<|L (d.map<|DB U)=L d:=AG _;clear E;go_wp2_with fail;go_loopw[9,10] (λv i wz=>∃(j:M) (o:Cc),j<=L d/\i=G A j/\D (CK (P:M) wz v o)/\D (bA o)/\D (∀x,x∈o↔x∈(d.map<|DB U).take j)/\L o<=j/\D (O Cb wr wz)) (λ_ i _=>L d-(zm i).toNat);exact⟨0,[],by omega,Q,An _ _ _ _,List.Pairwise.nil,λx=>by simp,by simp,CT _ _⟩;obtain⟨j,o,hj,rfl,S,d3,d2,l6,a4⟩:=hrel;obtain⟨k0,o2,o3,ho⟩:=CA S.o;subst ho;by_cases c3:j<L d
  .have tj:zu ((j:zw)<(L d:zw))=zt:=by simp;omega
   obtain⟨g,rfl⟩:=CH HR.o (by rw[AG];omega);have r1:=Cx HR.o a4.o λ_ _ q=>q;have e1:j<L (d.map<|DB U):=by rw[AG];exact c3
   have c1:=OK r1 e1;have lg:=(r1.lt g Q).2;have T2:D<|bA<|EP o (d.map<|DB U)[j]:=GE _ o d3.o;have M2:D (∀x,x∈EP o (d.map<|DB U)[j]↔x∈(d.map<|DB U).take (j+1)):=λx=>by rw[Gz,d2.o,AK e1,AJ,Ay];exact⟨λq=>q.elim zn zo,λq=>q.elim zn zo⟩
   have HN:=J (Jp (P:M) (Y k0 o2 o3) o (d.map<|DB U)[j] wr S.o<|by omega);have l4:L (EP o (d.map<|DB U)[j])<=L o+1:=VM _ _;generalize (d.map<|DB U)[j]=x at*;clear r1 S d3 d2 e1;go_wp2_with fail;refine HN.o.mono ?_;rintro e w8 ⟨v8,rfl,s8,o8⟩;obtain⟨q1,q2,q3,rfl⟩:=CA s8;have S8:=J<|CN s8<|As HO.o.size a4.o.size;have O8:=J<|a4.o.trans o8;clear s8 o8 HN a4;go_wp2_with fail;go_roundw;exact⟨j+1,_,by omega,by go_num,S8,T2,M2,by omega,O8⟩;simp[zm];omega
  .have tj:zu ((j:zw)<(L d:zw))=zr:=by simp;omega
   have M2:D (∀x,x∈o↔x∈d.map (DB U)):=λx=>by have:=d2.o x;rw[BJ<|by have:=h6.o;omega]at this;exact this
   have O2:=J<|HO.o.trans a4.o;go_wp2_with fail;go_ret;exact⟨_,d,o,Q,HQ.o,S.o,d3.o,M2.o,O2.o⟩
theorem En.miss{R:H'->Option (Cm×List MemPlace)}{f:z9->Cm}{g:M->Option z9}(h:En R f B g P)(l:Tryz.prog.underlying q0=T (.map 3 n8))(m:(zeroValue n8).run zy P=.ok V P)(K: -9223372036854775808<=q8)(N:q8<=9223372036854775807)(H:∀n:M,n<20000->(n:zw)=q8->g n=Z)(c):
 (Instr.lookup q0 (.map<|T B) q8 c).run zy P=.ok (if c then P' #[V,O' zr]else V) P:=by
 have⟨o,i,s,u,v,x⟩:=h;obtain⟨r,p,j,F,_,rfl⟩:=i;rcases Maps.fit_look c Fz l m j F (keyOf_int_mk underlying3<|WalkArith.wf_i64 (n:=q8)<|by omega)with⟨d,I,a⟩|⟨q,y,_,_,d,C,a,_⟩
 exact d;have E:=Maps.has_true_of_atKey a;grind[kI]
theorem pW(m:H')(C:∃a l c,m=Y a l c)(g b d i f j:M)(w:I')(n k:zw)(h:n<1\/(b:zw)<n\/k<0\/4<=k):
 F' zy 44 #[N'<|Hv m g b d i f j,n,k] w λe F=>e=P' #[Y Z 0 0,O' zr]/\O Cb w F:=by
 have z:O Cb w<|w.alloc<|R' (Hv m g b d i f j) 91:=(CT _ w).alloc _;have p:=W.new w (Hv m g b d i f j) 91;obtain⟨r,t,s,rfl⟩:=C;go_in;go_upto_region 1 with fail;change Code.wp _ _ _ _ (w.alloc<|R' (Hv (Y r t s) g b d i f j) 91);generalize w.alloc (R' (Hv (Y r t s) g b d i f j) 91)=H at*;have I:=p.j2;have N:=Cz p;rcases(by omega:n<1\/(¬n<1/\(b:zw)<n)\/(¬n<1/\¬(b:zw)<n/\k<0)\/(¬n<1/\¬(b:zw)<n/\¬k<0/\4<=k))with q|⟨x,y⟩|⟨x,y,E⟩|⟨x,y,E,P⟩
 have o:zu (n<1)=zt:=by simp;omega
 rotate_left;have o:zu (n<1)=zr:=by simp;omega
 have u:zu ((b:zw)<n)=zt:=by simp;omega
 rotate_left;have o:zu (n<1)=zr:=by simp;omega
 have u:zu ((b:zw)<n)=zr:=by simp;omega
 have B:zu (k<0)=zt:=by simp;omega
 rotate_left;have o:zu (n<1)=zr:=by simp;omega
 have u:zu ((b:zw)<n)=zr:=by simp;omega
 have B:zu (k<0)=zr:=by simp;omega
 have K:zu (4<=k)=zt:=by simp;omega
 all_goals
  go_wp2_with fail;refine Ak (v:=P' #[Y Z 0 0,O' zr]) (by simp[zz,results44,go_sem]) Q ⟨Q,z⟩
theorem sY(P o f i b g d j w)(h:Gg P (least P) o f i b g d j w)(n)(B: -9223372036854775808<=n)(C:n<=9223372036854775807)(R:n<1\/(b:zw)<n):
 F' zy 45 #[N'<|Hv o f i b g d j,n] w λe I=>e=P' #[Y Z 0 0,O' zr]/\O Cb w I:=by
 have r:O Cb w<|w.alloc<|R' (Hv o f i b g d j) 91:=(CT _ w).alloc _;have p:=W.new w (Hv o f i b g d j) 91;obtain⟨s,u,t,E⟩:∃a l c,o=Y a l c:=by have⟨N,q,_⟩:=h.pl;exact CA q
 subst E;go_in;go_upto_region 1 with fail;change Code.wp _ _ _ _ (w.alloc<|R' (Hv (Y s u t) f i b g d j) 91);generalize w.alloc (R' (Hv (Y s u t) f i b g d j) 91)=x at*;have K:=p.j5;have S:=Cz p;have⟨y,H,z,U⟩:=(h.t8 r).em;have F:=H.miss underlying87 (Ez x) B C (λm _ e=>by
  cases q:y m with
  |none=>rfl
  |some k=>exact Bm ((z m).1 ⟨k,q⟩)<|by omega) zt
 simp only[BD]at F;go_wp2_with fail;refine Ak (v:=P' #[Y Z 0 0,O' zr]) (by simp[zz,results45,go_sem]) Q ⟨Q,r⟩
theorem pO(P j d f m w)(h:Hg P j d f m w)(n k:zw)(g:n<1\/(d:zw)<n\/k<0\/4<=k):
 F' zy 21 #[Z' m,n,k] w λe C=>e=P' #[Y Z 0 0,G A 8]/\O Cb w C:=by
 have⟨u,z,p,B,b,i⟩:=h;obtain⟨r,t,s,x⟩:∃a l c,u=Y a l c:=by have⟨E,q,_⟩:=i.pl;exact CA q
 subst x;have⟨H,I,K,N,R,S,U⟩:=b.k7;have F:=Cz b;have o:=pW (Y r t s) ⟨_,_,_,Q⟩ j d f z p B w n k g;clear i b g;go_in;go_wp2_with(first
  |(go_at_call 44;refine o.mono ?_;rintro e V ⟨rfl,y⟩)
  |(go_at_call 41;refine FC (OB Z 0 0 _) ?_))
 refine Ak (v:=P' #[Y Z 0 0,G A 8]) (by simp[zz,results21,go_sem]) Q ⟨Q,y⟩
theorem kR(P i j b k w)(h:Hg P i j b k w)(n)(u: -9223372036854775808<=n)(x:n<=9223372036854775807)(g:n<1\/(b:zw)<n):
 F' zy 23 #[Z' k,n] w λe E=>e=P' #[Y Z 0 0,G A 8]/\O Cb w E:=by
 have⟨t,B,o,C,d,f⟩:=h;obtain⟨p,s,r,y⟩:∃a l c,t=Y a l c:=by have⟨F,q,_⟩:=f.pl;exact CA q
 subst y;have⟨I,K,N,R,S,U,V⟩:=d.k7;have H:=Cz d;have m:=sY P (Y p s r) i j b B o C w f n u x g;clear f d g;go_in;go_wp2_with(first
  |(go_at_call 45;refine m.mono ?_;rintro e X ⟨rfl,z⟩)
  |(go_at_call 41;refine FC (OB Z 0 0 _) ?_))
 refine Ak (v:=P' #[Y Z 0 0,G A 8]) (by simp[zz,results23,go_sem]) Q ⟨Q,z⟩
theorem YM(z:Hm)(P i j f o w)(d:K9 P i j f)(h:Hg P i j f o w)(y:Mf w)(a b)(k:Gv P a b 0=Z):
 F' zy 17 #[Z' o,a,b] w λe H=>e=P' #[Y Z 0 0,G A 8]/\O Cb w H:=by
 have⟨x,E,r,F,g,n⟩:=h;obtain⟨s,u,t,B⟩:∃a l c,x=Y a l c:=by have⟨I,q,_⟩:=n.pl;exact CA q
 subst B;have⟨N,R,S,U,V,X,q6⟩:=g.k7;have K:=Cz g;have p:=J k;clear g k;go_in;go_wp2_with fail;refine(Mu z P (Y s u t) i j f E r F w d.ok d.pn d.nm n y (BM (Ar _) d.mn) a b).mono ?_;rintro e w2 ⟨_,m⟩;obtain⟨rfl,C⟩:=m p.o;clear m;go_wp2_with(go_at_call 41;refine FC (OB Z 0 0 _) ?_);refine Ak (v:=P' #[Y Z 0 0,G A 8]) (by simp[zz,results17,go_sem]) Q ⟨Q,C⟩
theorem iB(h:u0∈n0):∃k,∃h:k<L n0,D9 n0 u0 0=(k:zw)/\n0[k]=u0:=by have⟨a,b⟩:=EF h;have c:=MS h ByteArray.empty;grind
theorem T6(K:OS U B C R o0 x1)(x:∀f (h:f<L o0),o0[f].y=(CO U f).y)(S a):
 (∃c,Gv U S a 0=T c/\QR o0 S a=zt/\Dh U C c/\S++⟨#[46]⟩++a=EC U c)\/(Gv U S a 0=Z/\QR o0 S a=zr):=by
 cases q:Gv U S a 0 with
 |some c=>
  refine zo ⟨c,Q,?_,LL q,?_⟩;all_goals
   obtain⟨f,i,b,w,e,d,rfl⟩:=Uc U 0 c q;have m:f<o0:=by rw[K.len];exact b
   have u:CO U f=U[f]:=by unfold CO;rw[Ag b];rfl
   have t:a∈U[f].y:=(Et _ a 0).1.1 (by rw[d];omega);have⟨k,r,n,o⟩:=iB t;have s:k=i:=by omega
   subst s;have l:S=DB U f:=by unfold DB;rw[u];exact(EQ e).symm
  have:=sE K m (v:=k) (by grind);rw[K.I f m,<-l]at this;grind;have j:k<(CO U f).y:=by grind
  have g:a=K7 U f k:=by grind[K7]
  rw[l,g,AM];exact Qf K.hy b j
 |none=>
  refine zn ⟨Q,?_⟩;cases z:QR o0 S a with
  |false=>rfl
  |true=>
   unfold QR at z;simp only[Bool.and_eq_true,A7]at z;have⟨f,b,e,d⟩:=iB<|(Et _ S 0).1.1 z.1;rw[AG]at b;rw[AT]at d;rw[e,Int.toNat_natCast,Ag b]at z;simp only[BA,BK]at z;have⟨k,r,n,o⟩:=iB<|(Et _ a 0).1.1 z.2;have p:f<U:=by rw[<-K.len];exact b
   have j:k<(CO U f).y:=by grind
   have:=nX K.nm p j;have g:K7 U f k=a:=by grind[K7]
   rw[<-K.I f b,d,g,q]at this;cases this
abbrev Wp(c b N K:zw)(S a U V:Cd):Cg:=#[c,b,N,K,S,a,U,V]
structure tX(at_ N K:zw)(S T U V:Cd):Prop where
 a: -9223372036854775808<=at_/\at_<=9223372036854775807
 n: -9223372036854775808<=N/\N<=9223372036854775807
 k: -9223372036854775808<=K/\K<=9223372036854775807
 s:S.size<=140737488355328/\T.size<=140737488355328/\U.size<=140737488355328/\V.size<=140737488355328
theorem gF(S0:NT B P C R V z0 s0 u1 y1 y0)(hm:0<R)(g7:R<=9223372036854775807)(hu:L y1=4*v0)(hn:96*(v0+1)<=140737488355328)(g5:∀f,zx B P f->Mf f)(b8:Hm)(kd a8 N K S E U a1)(ok:tX a8 N K S E U a1)(g6:kd=2\/kd=3\/kd=4\/kd=5\/kd=6):
 F' zy 6 #[Z' C,N'<|Wp kd a8 N K S E U a1] y0 λe j=>e=O' zt/\(Sd y0 B C V z0 s0 u1 y1 v0 j\/O Cb y0 j):=by
 have⟨xs,ys,zs,r1,r2,r3,hr⟩:=S0.rr;obtain⟨ra,m1,rc,rfl⟩:=CA r1;obtain⟨la,m2,lc,rfl⟩:=CA r2;obtain⟨pa,m3,pc,rfl⟩:=CA r3;have q1:=(CU r1).symm;have q2:=(CU r2).symm;have F:=(CU r3).symm;subst q1;subst q2;subst F;obtain⟨ra,rfl⟩:=CH r1 hm;obtain⟨la,rfl⟩:=CH r2 hm;obtain⟨pa,rfl⟩:=CH r3 hm;have hB:B<=y0:=by have:=Cz S0.bx;have:=S0.wl;omega
 have A0:=(CT Cb y0).alloc<|R' (Wp kd a8 N K S E U a1) 32;have BO:=W.new y0 (Wp kd a8 N K S E U a1) 32;have HR:=J hr;have HU:=J hu;clear hr hu;go_in;go_upto_region 1 with fail;change Code.wp _ _ _ _ (y0.alloc<|R' (Wp kd a8 N K S E U a1) 32);generalize y0.alloc (R' (Wp kd a8 N K S E U a1) 32)=f at A0 BO|-;generalize (y0:M)=b3 at BO|-;have bx:=S0.bx.j A0 id;have x1:=BO.z;have l3:=Cz BO;have d9:=bx.j0;have m0:=Cz bx;clear bx;go_region_held3(λj=>j (b3,1)=a8/\j C=Y ra R rc) (go_keep) (first|(go_at_call 16;apply(jW a8 R _ ok.a.1 ok.a.2 hm g7).mono;rintro e j ⟨p,hp,rfl,I⟩;cases I.symm));go_upto_region 2 with fail;have A1:=J A0.drew;have B1:W b3 (Wp kd a8 N K S E U a1) 32 f.drew:=BO;clear A0 BO x1 l3 d9 m0;generalize f.drew=a6 at A1 B1|-;have⟨rp,sb,pb,e1,e2,e3,RS⟩:=HR.o p hp;have⟨a0,mn,u,cn,rf,fs,Bp,a7,Un,fv,sv,nv,cv,ev,s,a4,e6⟩:=RS;have f4:=J e6;clear e6;have HD:∀a3,O Cb y0 a3->wF a0 mn u cn rf fs rp sb pb Bp a7 Un fv sv nv cv ev s a3/\Mf a3:=λa3 o=>⟨⟨a4.rs.t8 o,a4.ls.t8 o,a4.li,a4.le,a4.ru.t8 o,a4.K,a4.vs,a4.mb⟩,g5 a3<|S0.lo.trans<|o.xL (by have:=Cz S0.bx;have:=S0.wl;omega) λ_ q=>q.elim⟩
 obtain⟨y,b0,b2,b5,f3⟩:=Ix a4.K a4.li a4.le a4.vs a4.mb;have bx:=S0.bx.j A1 id;have⟨d9,g8,y2⟩:=bx.k3;have m0:=Cz bx;have t1:=Cx r1 A1 Ed;have t2:=Cx r2 A1 Ed;have t3:=Cx r3 A1 Ed;have c1:=(t1.cellAt p<|by omega).trans e1;have c2:=(t2.cellAt p<|by omega).trans e2;have c3:=(t3.cellAt p<|by omega).trans e3;have l1:=(t1.lt ra Q).2;have l2:=(t2.lt la Q).2;have l4:=(t3.lt pa Q).2;have x0:=B1.z;have l3:=Cz B1;have ip:(p:zw)<(R:zw):=by omega
 clear bx t1 t2 t3 e1 e2 e3 a4 HR;go_upto_block 0 with fail;clear d9 g8 y2 c1 c2 c3 l1 l2 l4 x0 l3 m0 r1 r2 r3;have HH:=S0.begin A1;have HX:D (∀a3,O Cb a6 a3->a3 (b3,2)=N/\a3 (b3,3)=K/\a3 (b3,4)=S/\a3 (b3,5)=E/\a3 (b3,6)=U/\a3 (b3,7)=a1/\b3<a3):=λa3 o=>by have h:=B1.j o id;exact⟨h.z 2,h.z 3,h.z 4,h.z 5,h.z 6,h.z 7,Cz h⟩
 have⟨x2,x3,x4,x5,x6,x7,l3⟩:=HX.o a6 oq;have⟨DY,IY⟩:=HD a6 A1;rcases g6 with rfl|rfl|rfl|rfl|rfl
 .have HO:=ok.s;have z1:¬(9223372036854775807<S.size+1):=by omega
  have z2:¬(9223372036854775807<S.size+1+E.size):=by omega
  have b1:L rf<=4001:=by have:=y.len;have:=y.hy.ok.xE;omega
  have e0:∀g,g∈rf->L g.y<=20000:=λg hg=>by obtain⟨i,hi,rfl⟩:=AC.1 hg;have:=y.hy.ok.ok.y i;rw[b5.o i hi];omega
  clear HO;rcases T6 y b5.o S E with⟨c,c1,c2,c3,c4⟩|⟨c1,c2⟩
  .have H:=WQ b8 a0 mn u cn rp a6 y.hy DY.rs IY S E c c1;have d0:=J c2;have e9:=J c4;have e8:=c3;clear DY IY c1 c2 c3 c4;go_wp2_with fail;apply H.mono;rintro e l ⟨⟨v2,l2,rfl,k2,t2,n2⟩,t⟩;obtain⟨g1,g2,g3,rfl⟩:=CA k2;have e2:=ZT y.nm y.hy b0 b2 e8 t2;have e3:Zy (Lu a0 u) s.cells (S++⟨#[46]⟩++E)=l2:=by rw[e2,e9.o];rfl
   have D2:=(HD l<|A1.trans t).1;have⟨x2,x3,x4,x5,x6,x7,l3⟩:=HX.o l t;have a5:=QP D2.ru b1 e0 D2.ls.bx S E;have b9:=Jt a7 sb pb nv cv ev (Lu a0 u) s l D2.ls<|S++⟨#[46]⟩++E;rw[d0.o]at a5;rw[e3]at b9;have HT:=λvb (a2:CK a7 l vb l2)=>Qe (HH.t8 t) hB HU.o hn _ vb _ l2 (CN k2 A1.size) a2<|by omega
   clear k2 t2 t e2 e3 H D2 b1;go_wp2_with(first
    |(go_at_call 18;apply a5.mono;rintro e j ⟨rfl,I⟩;cases I.symm)
    |(go_at_call 20;apply b9.mono;rintro e j ⟨⟨vb,rfl,a2⟩,I⟩;cases I.symm;obtain⟨k1,k2,k3,rfl⟩:=CA a2;have HV:=a2;clear a2)
    |(go_at_call 19;apply(HT _ HV).mono;rintro e w3 ⟨rfl,F,_⟩;have Q3:=F;clear F))
   go_ret;exact⟨Q,zo Q3⟩
  .have H:=YM b8 a0 mn u cn rp a6 y.hy DY.rs IY S E c1;have d0:=J c2;clear DY IY c1 c2;go_wp2_with fail;apply H.mono;rintro e l ⟨rfl,t⟩;have D2:=(HD l<|A1.trans t).1;have⟨x2,x3,x4,x5,x6,x7,l3⟩:=HX.o l t;have a5:=QP D2.ru b1 e0 D2.ls.bx S E;have b9:=Jt a7 sb pb nv cv ev (Lu a0 u) s l D2.ls<|S++⟨#[46]⟩++E;rw[d0.o]at a5;have HT:=RO (HH.t8 t) hB HU.o hn;clear t H D2 b1;go_wp2_with(first
    |(go_at_call 18;apply a5.mono;rintro e j ⟨rfl,I⟩;cases I.symm)
    |(go_at_call 20;apply b9.mono;rintro e j ⟨⟨vb,rfl,a2⟩,I⟩;cases I.symm;obtain⟨k1,k2,k3,rfl⟩:=CA a2;clear a2)
    |(go_at_call 19;apply(HT _ _ _).mono;rintro e w3 ⟨rfl,F,_⟩;have Q3:=F;clear F))
   go_ret;exact⟨Q,zo Q3⟩
 .have p2:=W.j2 DY.ru.r;have lp:=Cz DY.ru.r;have b4:D (∀V',O Cb a6 V'->V' (pb,2)=u/\pb<V'):=λV' o=>⟨(Ae<|o.block pb lp id).trans p2,Av lp o.size⟩
  have i2:=y.hy.pn;have d6:=ok.n;have h7:=ok.k;clear p2 lp;by_cases d8:1<=N/\N<=u/\0<=K/\K<4
  .have⟨h1,h2,h3,h4⟩:=d8;obtain⟨k,rfl⟩:∃k:M,K=k:=⟨K.toNat,by omega⟩;obtain⟨N,rfl⟩:∃k:M,N=k:=⟨N.toNat,by omega⟩;have H:=YJ b8 a0 mn u cn rp a6 y.hy DY.rs IY N k (by omega) (by omega) (by omega);clear DY IY;go_upto_region 12 with(go_at_call 21;apply H.mono;rintro e l ⟨⟨v2,l2,rfl,k2,t2,n2⟩,t⟩;obtain⟨g1,g2,g3,rfl⟩:=CA k2;have K2:=k2;have T2:=t2;have x:=t;clear k2 t2 t);have e2:=ZT y.nm y.hy b0 b2 (zn ⟨N,k,by omega,by omega,by omega,Q⟩) T2;have⟨y2,y3,_,_,_,_,y8⟩:=HX.o l x;have⟨z7,z8⟩:=b4.o l x;have f6:=Hz (p:=(N:zw)<1) (by omega);have f7:=Hz (p:=(u:zw)<N) (by omega);have h5:zu ((k:zw)<0)=zr:=by simp
   have h6:=Hz (p:=(4:zw)<=k) (by omega);have f8:¬u<N:=by omega
   have f9:¬4<=k:=by omega
   clear H x2 x3 x4 x5 x6 x7 l3;go_region_held3(λj=>j (b3,2)=N/\j (b3,3)=k/\j (pb,2)=u) (go_keep) (fail);go_upto_region 14 with fail;obtain⟨dz,b6⟩:∃dz:zw->Cd,dz=λz=>QG z.toNat:=⟨_,Q⟩
   have f0:∀(z:zw) (f:I'),0<=z->z<=4001->F' zy 22 #[z] f λe j=>e=dz z/\O Cb f j:=λz f h1 h2=>by obtain⟨a,rfl⟩:∃a:M,z=a:=⟨z.toNat,by omega⟩;rw[b6];exact(Jx a (by omega) f).mono λ_ _ ⟨q1,R,q2⟩=>⟨q1,by rw[q2];exact(CT _ _).drewN R⟩
   have i4:(dz (N:zw)).size<=5:=by rw[b6];exact Jk N<|by omega
   have i5:(dz (k:zw)).size<=5:=by rw[b6];exact Jk k<|by omega
   have hX:dz (N:zw)++⟨#[46]⟩++dz (k:zw)=EC a0 (pN N k):=by rw[b6];exact UM a0 (by omega)<|by omega
   have e3:Zy (Lu a0 u) s.cells (dz (N:zw)++⟨#[46]⟩++dz (k:zw))=l2:=by rw[e2,hX];rfl
   clear b6;have HO:∀f,O Cb l f->F' zy 20 #[Z' sb,(dz (N:zw)++⟨#[46]⟩++dz (k:zw))] f λe j=>(∃v,e=T' v/\CK a7 f v l2)/\j=f:=λf o=>by have h:=Jt a7 sb pb nv cv ev (Lu a0 u) s f (HD f<|A1.trans<|x.trans o).1.ls<|dz (N:zw)++⟨#[46]⟩++dz (k:zw);rw[e3]at h;exact h
   have HT:∀f vb,O Cb l f->CK a7 f vb l2->F' zy 19 #[Z' C,Y g1 g2 g3,G A 0,vb,O' zt] f λe j=>e=O' zt/\Sd y0 B C (Y ra R rc) (Y la R lc) (Y pa R pc) u1 y1 v0 j/\Sz f j:=λf vb o a2=>Qe (HH.t8<|x.trans o) hB HU.o hn _ vb a7 l2 (Cx (CN K2 A1.size) o Ed) a2<|by omega
   have f5:D (∀f,O Cb l f->f (b3,2)=N/\f (b3,3)=k):=λf o=>⟨(HX.o f<|x.trans o).1,(HX.o f<|x.trans o).2.1⟩
   have d5:D (∀f W',O Cb l f->Sz f W'->W' (b3,2)=N/\W' (b3,3)=k):=λf W' o q=>by have h:=q _ _ _ (by decide) (by decide) (by decide)<|B1.j (x.trans o) id;exact⟨h.z 2,h.z 3⟩
   have z9:¬(9223372036854775807<(dz (N:zw)).size+1):=by omega
   have i3:¬(9223372036854775807<(dz (N:zw)).size+1+(dz (k:zw))):=by omega
   clear e2 e3 hX K2 T2 HX z7 z8 HD;go_region_held3(λj=>j (b3,2)=N/\j (b3,3)=k) (go_keep)
    (first
      |(go_at_call 22;apply(f0 _ _ (by omega)<|by omega).mono;rintro e w3 ⟨rfl,o3⟩;have O3:=O.trans (X:=Cb) (a:=l) (by repeat(first|exact oq|exact O3|refine O.drew ?_|refine O.alloc ?_ _)) o3;have⟨c1,c2⟩:=f5.o w3 O3;clear o3)
      |(go_at_call 20;apply(HO _ O3).mono;rintro e j ⟨⟨vb,rfl,a2⟩,I⟩;cases I.symm;obtain⟨k1,k2,k3,rfl⟩:=CA a2;have HV:=a2;clear a2)
      |(go_at_call 19;apply(HT _ _ O3 HV).mono;rintro e w4 ⟨rfl,F,n3⟩;have Q3:=F;have⟨c3,c4⟩:=d5.o _ _ O3 n3;clear F n3))
   all_goals
    go_wp2_with fail;go_ret;exact⟨Q,zo Q3⟩
  .have H:=pO a0 mn u cn rp a6 DY.rs N K (by omega);clear DY IY;go_upto_region 12 with(go_at_call 21;apply H.mono;rintro e l ⟨rfl,t⟩;have x:=t;clear t);have⟨y2,y3,_,_,_,_,y8⟩:=HX.o l x;have⟨z7,z8⟩:=b4.o l x;clear H x2 x3 x4 x5 x6 x7 l3 HX;go_cut[114] (λv wx=>v=O' zt/\O Cb l wx)
   .rcases(by omega:N<1\/(¬N<1/\(u:zw)<N)\/(¬N<1/\¬(u:zw)<N/\K<0)\/(¬N<1/\¬(u:zw)<N/\¬K<0/\4<=K))with q|⟨q1,q2⟩|⟨q1,q2,F⟩|⟨q1,q2,F,q4⟩
    case' inl=>have f1:=LH (p:=N<1)<|by omega
    case' inr.inl=> have f1:=Hz (p:=N<1) (by omega);have f2:=LH (p:=(u:zw)<N)<|by omega
    case' inr.inr.inl=> have f1:=Hz (p:=N<1) (by omega);have f2:=Hz (p:=(u:zw)<N)<|by omega
    case' inr.inr.inr=> have f1:=Hz (p:=N<1) (by omega);have f2:=Hz (p:=(u:zw)<N)<|by omega
    all_goals
     go_quiet(fail);go_wp2_with fail;go_meet;exact⟨Q,(CT _ _).drewN _⟩
   obtain⟨rfl,O3⟩:=hcut;have HT:=RO (HH.t8<|x.trans O3) hB HU.o hn;go_wp2_with(go_at_call 19;apply(HT _ _ _).mono;rintro e w4 ⟨rfl,F,_⟩;have Q3:=F;clear F);go_ret;exact⟨Q,zo Q3⟩
 .have p3:=W.j3 DY.ru.r;have lp:=Cz DY.ru.r;have b4:D (∀V',O Cb a6 V'->V' (pb,3)=cn/\pb<V'):=λV' o=>⟨(Ae<|o.block pb lp id).trans p3,Av lp o.size⟩
  have h8:=y.hy.ok.lc;have d6:=ok.n;clear p3 lp;by_cases d8:1<=N/\N<=cn
  .have⟨h1,h2⟩:=d8;obtain⟨N,rfl⟩:∃k:M,N=k:=⟨N.toNat,by omega⟩;have H:=WK b8 a0 mn u cn rp a6 y.hy DY.rs N (by omega) (by omega);clear DY IY;go_upto_region 17 with(go_at_call 23;apply H.mono;rintro e l ⟨⟨v2,l2,rfl,k2,t2,n2⟩,t⟩;obtain⟨g1,g2,g3,rfl⟩:=CA k2;have K2:=k2;have T2:=t2;have x:=t;clear k2 t2 t);have e2:=sI y.nm y.hy b0 b2 (by omega) (by omega) T2;have⟨y2,y3,_,_,_,_,y8⟩:=HX.o l x;have⟨z7,z8⟩:=b4.o l x;have f6:=Hz (p:=(N:zw)<1) (by omega);have f7:=Hz (p:=(cn:zw)<N) (by omega);have f8:¬cn<N:=by omega
   have f9:N≠0:=by omega
   clear H x2 x3 x4 x5 x6 x7 l3;go_region_held3(λj=>j (b3,2)=N/\j (pb,3)=cn) (go_keep) (fail);go_upto_region 19 with fail;have LW:=(HD y0 oq).1.ls;have⟨ea,ec,g4⟩:=LW.V.form;subst g4;have c5:N-1<L s.P:=by rw[b0.el];omega
   have⟨eg,eb,ed,g0,c0,_,_,e7,d7⟩:=LW.V.get c5;subst g0;have e4:KZ s N=s.P[N-1]:=by unfold KZ;rw[Ag c5];rfl
   rw[<-e4,<-e2]at d7 c0;have⟨n1,e5⟩:=Dv<|N-1;rw[e5]at c0 c5;have i0:(N:zw)-1=(n1:zw):=by omega
   have HE:D (∀f,O (λk=>k=C\/L' u1=T k) y0 f->f (sb,3)=Y eg s.P ec/\f (eg,n1)=Y eb l2 ed/\sb<f/\eg<f):=λf o=>by have hb:=LW.bx.j o λq=>q.elim (λq=>W.ne LW.bx S0.bx (by decide) q) λq=>CL S0.hd LW.bx (by decide) _ q Q;refine⟨hb.z 3,(Ae<|o.block eg e7 λq=>q.elim (λq=>?_) λq=>(f4.o eg q).2 Q).trans c0,Cz hb,Av e7 o.size⟩;have⟨_,_,hr,_⟩:=LW.V;exact CL hr S0.bx (by decide) eg Q q
   have i1:(n1:zw)<(L s.P:zw):=by omega
   have h9:IntKind.i64.wrap (n1:zw)=(n1:zw):=by rw[BI];omega
   have HT:∀f vb,O Cb l f->CK a7 f vb l2->F' zy 19 #[Z' C,Y g1 g2 g3,G A 0,vb,O' zt] f λe j=>e=O' zt/\Sd y0 B C (Y ra R rc) (Y la R lc) (Y pa R pc) u1 y1 v0 j/\Sz f j:=λf vb o a2=>Qe (HH.t8<|x.trans o) hB HU.o hn _ vb a7 l2 (Cx (CN K2 A1.size) o Ed) a2<|by omega
   have d5:D (∀W',Sz l.drew.drew W'->W' (b3,2)=N):=λW' q=>(q _ _ _ (by decide) (by decide) (by decide)<|B1.j x.drew.drew id).z 2
   have⟨c1,c2,c3,c4⟩:=HE.o l<|(A1.trans x).mono λ_ _ q=>q.elim;have C5:=Cx d7 (A1.trans x).drew.drew Ed;clear e2 e4 K2 T2 HX z7 z8 c0 d7 e5 c5 LW HD y3;go_region_held3(λj=>j (b3,2)=N/\j (sb,3)=Y eg s.P ec/\j (eg,n1)=Y eb l2 ed) (go_keep)
    (first
      |(go_at_call 19;apply(HT _ _ ((CT _ _).drew.drew) C5).mono;rintro e w4 ⟨rfl,F,n3⟩;have Q3:=F;have c6:=d5.o _ n3;have⟨_,_,_,_,qh,_⟩:=F;have⟨c7,c8,c9,h0⟩:=HE.o _ qh.o;clear qh n3))
   all_goals
    go_wp2_with fail;go_ret;exact⟨Q,zo Q3⟩
  .have H:=kR a0 mn u cn rp a6 DY.rs N d6.1 d6.2 (by omega);clear DY IY;go_upto_region 17 with(go_at_call 23;apply H.mono;rintro e l ⟨rfl,t⟩;have x:=t;clear t);have⟨y2,y3,_,_,_,_,y8⟩:=HX.o l x;have⟨z7,z8⟩:=b4.o l x;clear H x2 x3 x4 x5 x6 x7 l3 HX;go_cut[153] (λv wx=>v=O' zt/\O Cb l wx)
   .rcases(by omega:N<1\/(¬N<1/\(cn:zw)<N))with q|⟨q1,q2⟩
    case' inl=>have f1:=LH (p:=N<1)<|by omega
    case' inr=> have f1:=Hz (p:=N<1) (by omega);have f2:=LH (p:=(cn:zw)<N)<|by omega
    all_goals
     go_quiet(fail);go_wp2_with fail;go_meet;exact⟨Q,(CT _ _).drewN _⟩
   obtain⟨rfl,O3⟩:=hcut;have HT:=RO (HH.t8<|x.trans O3) hB HU.o hn;go_wp2_with(go_at_call 19;apply(HT _ _ _).mono;rintro e w4 ⟨rfl,F,_⟩;have Q3:=F;clear F);go_ret;exact⟨Q,zo Q3⟩
 .have H:=YN b8 a0 mn u cn rp a6 y.hy DY.rs;clear DY IY;go_wp2_with fail;apply H.mono;rintro e l ⟨v2,l2,rfl,k2,t2,n2,t⟩;obtain⟨g1,g2,g3,rfl⟩:=CA k2;have K2:=k2;have T2:=t2;have x:=t;have D2:=(HD l<|A1.trans t).1;have HQ:=YG y b0 f3.o D2.ls D2.ru;clear k2 t2 t D2 H;go_wp2_with fail;apply HQ.mono;rintro e w3 ⟨v3,g9,o,rfl,F,s3,t3,m3,o3⟩;obtain⟨h1,h2,h3,rfl⟩:=CA s3;cases YH y b2 F T2 t3 m3;have HT:=Qe (HH.t8<|x.trans o3) hB HU.o hn _ _ _ l2 (Cx (CN K2 A1.size) o3 Ed) s3 (by omega);clear F s3 t3 m3 HQ o3;go_wp2_with fail;apply HT.mono;rintro e w4 ⟨rfl,q4,_⟩;have Q4:=q4;clear q4;go_wp2_with fail;go_ret;exact⟨Q,zo Q4⟩
 .have H:=YD a0 mn u cn rp a6 y.hy DY.rs S E U a1;have H1:=T6 y b5.o S E;have H2:=T6 y b5.o U a1;have HO:=ok.s;have z1:¬(9223372036854775807<S.size+1):=by omega
  have z2:¬(9223372036854775807<S.size+1+E.size):=by omega
  have z3:¬(9223372036854775807<U.size+1):=by omega
  have z4:¬(9223372036854775807<U.size+1+a1.size):=by omega
  clear DY IY HO;go_wp2_with fail;apply H.mono;rintro e l ⟨⟨hy,b7⟩,t⟩;have x:=A1.trans t;have D2:=(HD l<|A1.trans t).1;have⟨x2,x3,x4,x5,x6,x7,l3⟩:=HX.o l t;have b1:L rf<=4001:=by have:=y.len;have:=y.hy.ok.xE;omega
  have HA:∀a b:Cd,F' zy 18 #[Z' sb,a,b] l λe j=>e=QR rf a b/\j=l:=λa b=>QP D2.ru b1 (λg hg=>by obtain⟨i,hi,rfl⟩:=AC.1 hg;have:=y.hy.ok.ok.y i;rw[b5.o i hi];omega) D2.ls.bx a b
  have HL:=XI D2.ls (S++⟨#[46]⟩++E)<|U++⟨#[46]⟩++a1;clear t D2 H;rcases H1 with⟨c,c1,c2,c3,c4⟩|⟨c1,c2⟩
  .rcases H2 with⟨d,d1,d2,d3,d4⟩|⟨d1,d2⟩
   .obtain⟨r,rfl,hr⟩:=hy c d c1 d1;have ha:=XJ y.nm y.hy b0 b2 c3 d3;have hq:Sh (Zy (Lu a0 u) s.cells<|S++⟨#[46]⟩++E) (Zy (Lu a0 u) s.cells<|U++⟨#[46]⟩++a1)=r:=by
     rw[c4,d4];have:Sh (KW a0 u s c) (KW a0 u s d)=r:=by rw[Bool.eq_iff_iff,ha,hr]
     exact this
    rw[hq]at HL;have a9:=HA S E;have a5:=HA U a1;rw[c2]at a9;rw[d2]at a5;have tr:(r==r)=zt:=by simp
    clear hy b7 c1 c2 c3 c4 d1 d2 d3 d4 hr ha hq HA;go_wp2_with fail;apply a9.mono;rintro e j ⟨rfl,I⟩;cases I.symm;go_wp2_with fail;apply a5.mono;rintro e j ⟨rfl,I⟩;cases I.symm;go_wp2_with fail;apply HL.mono;rintro e w3 ⟨rfl,o3⟩;have O3:=x.trans o3;clear o3;go_wp2_with fail;go_ret;exact⟨by simp,zn O3⟩
   .obtain rfl:=b7<|zn d1;have a9:=HA S E;have a5:=HA U a1;rw[c2]at a9;rw[d2]at a5;clear hy b7 c1 c2 c3 c4 d1 d2 HA;go_wp2_with fail;apply a9.mono;rintro e j ⟨rfl,I⟩;cases I.symm;go_wp2_with fail;apply a5.mono;rintro e j ⟨rfl,I⟩;cases I.symm;go_wp2_with(go_at_call 10;apply FC<|Ju _ _);go_ret;exact⟨Q,zn x⟩
  .obtain rfl:=b7<|zo c1;have a9:=HA S E;have a5:=HA U a1;rw[c2]at a9;clear hy b7 c1 c2 HA H2;cases QR rf U a1;all_goals
    go_wp2_with fail;apply a9.mono;rintro e j ⟨rfl,I⟩;cases I.symm;go_wp2_with fail;apply a5.mono;rintro e j ⟨rfl,I⟩;cases I.symm;go_wp2_with(go_at_call 10;apply FC<|Ju _ _);go_ret;exact⟨Q,zn x⟩
theorem Yj(g:NT B P C R V z0 s0 u1 y1 y0)(hu:L y1=4*X)(hn:96*(X+1)<=140737488355328)(k j N K:zw)(S c U i:Cd)(f p:M)(hf:f≠0)(I:∀a,zx B P a->B<=a->F' zy 29 #[S] a λe b=>e=P' #[Y Z 0 0,fE,f,p]/\zx a a b)
 (h2:∀a,F' zy 9 #[S] a λe b=>e=P' #[Z' Z,Y Z 0 0,f,p]/\zx a a b):
 F' zy 5 #[Z' C,N'<|Wp k j N K S c U i] y0 λe b=>e=O' zt/\Sd y0 B C V z0 s0 u1 y1 X b:=by
 have⟨xs,ys,zs,r1,r2,r3,_⟩:=g.rr;obtain⟨ra,m1,rc,rfl⟩:=CA r1;obtain⟨la,m2,lc,rfl⟩:=CA r2;obtain⟨pa,m3,pc,rfl⟩:=CA r3;have v:B<=y0:=by have:=Cz g.bx;have:=g.wl;omega
 have s:=(CT Cb y0).alloc<|R' (Wp k j N K S c U i) 32;have t:=W.new y0 (Wp k j N K S c U i) 32;have HU:=J hu;have a1:((f:zw)==(f:zw))=zt:=by simp
 have a2:((p:zw)==(p:zw))=zt:=by simp
 have a0:=Ka f 0 (by omega);have H1:∀a,O Cb y0 a->F' zy 12 #[S,c,N] a λe b=>e=P' #[N' #[G A 0,G A 0,Y Z 0 0],f,p]/\O Cb a b:=λa o=>(kC S c N f p a (I _ ((g.lo.trans<|o.xL v λ_ q=>q.elim).alloc (As v o.size) _)<|by have:=o.size;simp;omega) hf).mono λ_ _ q=>⟨q.1,Ea q.2⟩
 have H2:∀a,F' zy 9 #[S] a λe b=>e=P' #[Z' Z,Y Z 0 0,f,p]/\O Cb a b:=λa=>(h2 a).mono λ_ _ q=>⟨q.1,Ea q.2⟩
 clear r1 r2 r3 hu I h2 hf;go_in;go_upto_region 1 with fail;change Code.wp _ _ _ _ (y0.alloc<|R' (Wp k j N K S c U i) 32);generalize y0.alloc (R' (Wp k j N K S c U i) 32)=a at s t|-;generalize (y0:M)=l at t|-;have H:D (∀d,O Cb a d->d (l,2)=N/\d (l,4)=S/\d (l,5)=c/\l<d):=λd o=>by have h:=t.j o id;exact⟨h.z 2,h.z 4,h.z 5,Cz h⟩
 have⟨z,E,F,x⟩:=H.o a oq;go_wp2_with fail;apply(H1 a s).mono;rintro e w1 ⟨rfl,r⟩;have O1:=s.trans r;clear z E F x;have⟨z,E,F,x⟩:=H.o w1 r;have TB:=W.new w1 #[G A 0,G A 0,Y Z 0 0] 49;have O2:=O1.alloc<|R' #[G A 0,G A 0,Y Z 0 0] 49;have OW:=r.alloc<|R' #[G A 0,G A 0,Y Z 0 0] 49;clear r;go_wp2_with fail;apply(H2 _).mono;rintro e w2 ⟨rfl,y⟩;have O3:=O2.trans y;have u:=TB.j y id;have t0:=u.z;have lt:=Cz u;have HK:=PW (g.begin O3) v HU.o hn (va:=Y Z 0 0) (Lk:=[]) (An _ _ _ _) (by decide);clear y u z E F x;go_wp2_with(first
  |(go_at_call 10;apply FC<|Ju _ _)
  |(go_at_call 15;apply HK.mono;rintro e w3 ⟨rfl,q3,_⟩))
 go_ret;exact⟨Q,q3⟩
theorem DU.lowA{b}(h:DU B C P y0)(c:b<=C)(d:b<=B)(a:b<=P):zx b P y0:=
 h.xL a (λk q=>q.elim (λq=>by omega) λq=>by have:=q.1;omega)
theorem V4(y:NT B P C R V z0 s0 u1 y1 y0)(hu:L y1=4*v0)(hn:96*(v0+1)<=140737488355328)(hI:Zm B P)(kd a3 N K:zw)(S p U a2:Cd)(f:Df)(rf:Dd)(fs:C8)(e3:M)(a4:Fi f)(hT:∀t,t∈f->∀u,u∈t.i->Sx 4000 u)(hS:Se (DN f) (UX f) (KV f 0 0) rf fs)
 (h1:∀b,zx B P b->B<=b->F' zy 29 #[S] b λe i=>∃(g v0 a5:M) (a:Ch) (l c:M) (U:Ce),e=P' #[Y g v0 a5,N' #[Y a l c,e3],G A 0,G A 0]/\Gt 4000 U i (Y a l c) f/\(∀k,U k->k<(i:M))/\zx b b i)
 (h2:∀b,F' zy 9 #[S] b λe i=>∃(H x g v0 a5:M) (U:Ce) (fv sv:H') (p0 z:M),e=P' #[Z' H,Y g v0 a5,G A 0,G A 0]/\KO H x U fv sv rf fs p0 z i/\b<=H/\b<=x/\x<=i/\zx b b i):
 F' zy 5 #[Z' C,N'<|Wp kd a3 N K S p U a2] y0 λe i=>e=O' zt/\Sd y0 B C V z0 s0 u1 y1 v0 i:=by
 have⟨xs,ys,zs,r1,r2,r3,_⟩:=y.rr;obtain⟨ra,m1,rc,rfl⟩:=CA r1;obtain⟨la,m2,lc,rfl⟩:=CA r2;obtain⟨pa,m3,pc,rfl⟩:=CA r3;have E:B<=y0:=by have:=Cz y.bx;have:=y.wl;omega
 obtain⟨A0,BO,HS,HU,H1,H2,H3,HN⟩:=Pe ((CT Cb y0).alloc<|R' (Wp kd a3 N K S p U a2) 32) (W.new y0 (Wp kd a3 N K S p U a2) 32) y hu (λ(b:I') (o:O Cb y0 b)=>dK B P hI S p N f e3 a4 hT b (y.lo.trans<|o.xL E λ_ q=>q.elim) (As E o.size)<|h1 _ ((y.lo.trans<|o.xL E λ_ q=>q.elim).alloc (As E o.size) _)<|by have:=o.size;simp;omega) h2 (λH x U fv sv p0 z b hP E=>kW H x U fv sv rf fs p0 z (DN f) (UX f) (KV f 0 0) p N b hS hP E a4.xZ.main) a4.cw;have⟨X,hX⟩:=Dv<|Jz (KV f 0 0) (DN f) (vx (DN f) DF) (Ff N) p.data.toList;rw[hX]at H1 H3;clear y r1 r2 r3 hu h1 h2 hI hT hS a4 hX;go_in;go_upto_region 1 with fail;change Code.wp _ _ _ _ (y0.alloc<|R' (Wp kd a3 N K S p U a2) 32);generalize y0.alloc (R' (Wp kd a3 N K S p U a2) 32)=b at A0 BO|-;generalize (y0:M)=b3 at BO|-;have HX:D (∀d,O Cb b d->d (b3,2)=N/\d (b3,4)=S/\d (b3,5)=p/\b3<d):=λd o=>by have h:=BO.o.j o id;exact⟨h.z 2,h.z 4,h.z 5,Cz h⟩
 have⟨I,x4,x5,F⟩:=HX.o b oq;go_wp2_with fail;apply(H1.o b A0.o).mono;rintro e w1 ⟨j,v,s,l,rfl,d9,e2,d3,c8⟩;have o1:=Ea c8;obtain⟨O1,b0,b4,a7⟩:=F8 (A0.o.trans o1) d9 e2 d3;clear I x4 x5 F d9 e2 d3 c8;have TB:=J<|W.new w1 #[(X.s:M),(X.f:M),Y j v s] 49;have OA:=J<|(CT Cb w1).alloc<|R' #[(X.s:M),(X.f:M),Y j v s] 49;have OW:=J<|o1.trans OA.o;have⟨I,x4,x5,F⟩:=HX.o w1 o1;clear o1;go_upto_region 2 with fail;change Code.wp _ _ _ _ (w1.alloc<|R' #[(X.s:M),(X.f:M),Y j v s] 49);generalize w1.alloc (R' #[(X.s:M),(X.f:M),Y j v s] 49)=W1 at TB OA OW|-;generalize (w1:M)=tb at TB|-;clear I x4 x5 F;have⟨I,x4,x5,F⟩:=HX.o W1 OW.o;go_wp2_with fail;apply(H2.o _).mono;rintro e w2 ⟨H,x,g,n',a5,Un,fv,sv,p0,z,rfl,e0,e6,c3,b9,c9⟩;have b1:=J e0;have a1:=J c9;clear I x4 x5 F e0 c9;have⟨I,x4,x5,F⟩:=HX.o w2<|OW.o.trans<|Ea a1.o;go_wp2_with(first
  |(go_at_call 10;apply FC<|Ju _ _)
  |(go_at_call 13;apply(H3.o H x Un fv sv p0 z _ b1.o b9).mono;rintro e w4 ⟨rb,e7,rfl,e1,d5⟩;have b2:=J e1;have a8:=J d5;clear e1 d5))
 have⟨mv,nv,ch,e8,a0⟩:=b2.o;have e5:l=e8:=eC HN.o b4.o a0.sn;subst e5;have d8:L l<=1000000:=by have:=a0.sn.len;have:=a7.o;omega
 have a9:=J d8;obtain⟨na,nl,nc,rfl⟩:=CA a0.row;have O4:=J<|Ea<|a1.o.trans<|a8.o.lowA c3 (by have:=a1.o;omega) a1.o.size;have b8:=J<|TB.o.j O4.o id;have b7:=J a0.p;have a6:D (∀d,O Cb w4 d->d tb=(X.s:M)/\d (tb,1)=(X.f:M)/\d (tb,2)=Y j v s/\d (rb,4)=(X.f:M)/\d (rb,6)=(X.s:M)/\d (rb,7)=Y na nl nc/\tb<d/\rb<d):=λd o=>by have t:=b8.o.j o id;have r:=b7.o.j o id;exact⟨t.z 0,t.z 1,t.z 2,r.z 4,r.z 6,r.z 7,Cz t,Cz r⟩
 have b6:D<|CK b w4 (Y j v s) l:=Cx b0.o (OA.o.trans O4.o) Ed;have b5:=J a0.row;have e4:=J λd (o:O Cb w4 d)=>lD l b x j v s na nl nc d (Cx b6.o o Ed) (Cx b5.o o Ed) a9.o;have HK:=J λd (o:O Cb w4 d)=>PW (HS.o.begin<|(A0.o.trans<|OW.o.trans O4.o).trans o) E HU.o hn (va:=Y j v s) (Lk:=l) (Cx (CN b6.o A0.o.size) o Ed) a9.o;have⟨z,c1,c2,c4,c6,c7,lt,lr⟩:=a6.o w4 oq;clear a0 b2 a8 a1 b1 d8 I x4 x5 F HX BO TB OA OW e6 c3 b9 e7 H1 H2 H3 b0 b4 a7 HN O4 b7 b8 b5;go_region_held3(λi=>i (tb,2)=Y j v s/\i (rb,7)=Y na nl nc) (go_keep) (first
  |(go_at_call 14;refine(e4.o _<|by repeat(first|exact oq|refine O.drew ?_|refine O.alloc ?_ _)).mono ?_;rintro e w5 ⟨rfl,o5⟩;have O5:=J<|O.trans (X:=Cb) (a:=w4) (by repeat(first|exact oq|refine O.drew ?_|refine O.alloc ?_ _)) o5;have⟨d0,d1,d2,d4,d6,d7,dt,dr⟩:=a6.o w5 O5.o;clear o5))
 go_upto_region 7 with fail;clear z c1 c2 c4 c6 c7 lt lr;have te:(((X.s:M):zw)==((X.s:M):zw))=zt:=by simp
 have ts:(((X.f:M):zw)==((X.f:M):zw))=zt:=by simp
 go_quiet(fail);go_upto_region 9 with fail;generalize c5:World.drewN w5 _=w6;have O6:=J<|O5.o.trans (c5▸(CT Cb w5).drewN _:O Cb w5 w6);clear d0 d1 d2 d4 d6 d7 dt dr c5;have⟨d0,d1,d2,d4,d6,d7,dt,dr⟩:=a6.o w6 O6.o;go_wp2_with fail;apply(HK.o _ O6.o).mono;rintro e w3 ⟨rfl,q3,_⟩;have Q3:=J q3;clear q3;go_wp2_with fail;go_ret;exact⟨Q,Q3.o⟩
def tP(c:M)(u f r:H')(k:M):Prop:=k=c\/L' u=k\/L' f=k\/L' r=k
theorem Lv{w:I'}{B:M}{e:TypeId}{m:M}{v:H'}{n:M}{C:Ci}(h:J' w B e m v n C){k:M}(b:L' v=k):B<=k/\∃d,w.heap[k]? =T (R' d e (0,0)):=by
 rcases h.2 with⟨q,_⟩|⟨g,_,i,q,j,l,_⟩
 rw[q]at b;cases b;rw[q]at b;cases b;exact⟨j,i,l⟩
section
variable{a:M}{R:I'}{c m:M}{u f r H:H'}{P:Ci}{w:I'}(h:NT a R c m u f r H P w){C K N:Ci}(x:J' w a 36 1 u m C)(E:J' w a 45 1 f m K)(F:J' w a 40 1 r m N)
include h x E F
theorem NT.lawX{d:I'}(o:O Cb w d):Zp d<|tP c u f r:=by
 have g:∀{k:M} {b:Cg} {t:TypeId},w.heap[k]? =T (R' b t (0,0))->d.heap[k]? =T (R' b t (0,0)):=λe=>by rw[o.block _ (Cz e) id];exact e
 rintro k (rfl|e|e|e);exact⟨_,_,_,g h.bx,zo Q⟩;have⟨_,b,q⟩:=Lv x e;grind;have⟨_,b,q⟩:=Lv E e;grind;have⟨_,b,q⟩:=Lv F e;grind
theorem NT.lowX{k:M}(q:tP c u f r k):a<=k:=by
 rcases q with rfl|e|e|e
 exact h.wl;exact(Lv x e).1;exact(Lv E e).1;exact(Lv F e).1
theorem NT.more{d:I'}{y s t:H'}{n p l:M}(hr:∀i,i<m->∃n p l,C[i]? =T (Z'<|T ⟨n,0,Z⟩)/\K[i]? =T (Z'<|T ⟨p,0,Z⟩)/\N[i]? =T (Z'<|T ⟨l,0,Z⟩)/\aX H n p l w)(o:O (tP c u f r) w d)(b:W c #[y,s,t,H] 29 d)
 (q1:J' d a 36 1 y (m+1)<|C++[Z' n])(q2:J' d a 45 1 s (m+1)<|K++[Z' p])(q3:J' d a 40 1 t (m+1)<|N++[Z' l])(RS:aX H n p l d):NT a R c (m+1) y s t H P d:=by
 have B:=h.lawX x E F<|CT _ w;have I:=fun{k}=>h.lowX x E F (k:=k)
 have S:∀(k:M) (g:Cg) (j:M×M),tP c u f r k->w.heap[k]? ≠T (R' g 47 j):=λk g j q e=>by
  rcases q with rfl|q|q|q
  exact Fp h.bx (by decide) _ _ _ Q e;exact Ht x (by decide) _ _ _ q e;grind[Ht];grind[Ht]
 have l1:C=m:=by have:=x.1;omega
 have l2:K=m:=by have:=E.1;omega
 have l3:N=m:=by have:=F.1;omega
 refine⟨h.lo.trans<|o.xL (by have:=Cz h.bx;have:=h.wl;omega) λ_ q=>I q,h.gl,h.wl,b,⟨_,_,_,q1,q2,q3,λi hi=>?_⟩,CD h.hd o λk g j q=>S k g j q,λi v e=>(h.kp i v e).law o B⟩;by_cases q:i<m;have⟨a1,a2,a0,V,X,e3,U⟩:=hr i q;refine⟨a1,a2,a0,?_,?_,?_,U.law o B (λz=>by have:=I z;have:=h.gl;omega) (λk g j z e=>Bm e<|S k g j z) λ_ z=>zo z⟩;rw[Be<|by omega];exact V;rw[Be<|by omega];exact X;rw[Be<|by omega];exact e3;grind
end
theorem cJ{b:Df}(d:Fi b):DB (Du (DN b) b 0 0) (vx (DN b) DF)=DF:=by
 have⟨e,_⟩:=EF (l:=DN b) (s:=DF) d.xZ.main;have g:=MS (l:=DN b) d.xZ.main ByteArray.empty;rw[Ag e]at g;have h:vx (DN b) DF<b:=by grind[DN]
 unfold DB;rw[(d.one _ h).1];grind[DN]
theorem Tryz.textOf(a s p w):(Instr.field 256 (N' #[G A a,Y' s,G A p]) 1).run zy w=.ok (Y' s) w:=by kernel_rfl
theorem Below.quiet(h:zx P.heap.size P y0):O Cb P y0:=⟨h.os,h.tape,h.output,h.size,λk a _=>h.block k a⟩
theorem gG(t w a)(k:K' w ⟨3,0,Z⟩=T a)(g:a=.nilIface\/∃m l,a=.iface m l)
 (j:t=⟨#[]⟩\/t=⟨#[48]⟩\/t=⟨#[49]⟩\/t=⟨#[50]⟩\/t=⟨#[51]⟩):
 F' zy 214 #[Y' t] w λe f=>∃x,e=T' (P' #[G A<|M7 ⟨2,t,0⟩,x])/\O Cb w f:=by
 have b:∀(d:M),t.size<=18->Lib.atoi t.data.toList=T (d:zw)->M7 ⟨2,t,0⟩=d->F' zy 214 #[t] w λe f=>∃x,e=P' #[(M7 ⟨2,t,0⟩),x]/\O Cb w f:=by intro d i h c;rw[c];apply(Tryz.strconv_Atoi t d i h w).mono;grind[Below.quiet,Lib.bytesWorld_below]
 rcases j with h|h|h|h|h
 have c:M7 ⟨2,t,0⟩=0:=by subst h;decide+kernel
 rw[c];refine(Tryz.strconv_Atoi_err t (by subst h;decide) (by subst h;decide) a w k g).mono ?_;grind[Below.quiet];exact b 0 (by subst h;decide) (by subst h;decide) (by subst h;decide+kernel);exact b 1 (by subst h;decide) (by subst h;decide) (by subst h;decide+kernel);exact b 2 (by subst h;decide) (by subst h;decide) (by subst h;decide+kernel);exact b 3 (by subst h;decide) (by subst h;decide)<|by subst h;decide+kernel
theorem kD{l}(h:B<L l):CJ l B∈l:=by grind[CJ]
theorem eP{a x}(b:He a)(d:x.q<L a):
 (Di a 2 x).a=⟨#[]⟩\/(Di a 2 x).a=⟨#[48]⟩\/(Di a 2 x).a=⟨#[49]⟩\/(Di a 2 x).a=⟨#[50]⟩\/(Di a 2 x).a=⟨#[51]⟩:=by
 unfold Di;split;rename_i c;exact zn<|b _ (kD d) c;exact zo Q
theorem bT(j B)(K:3<j)(a)(v:B (3,0)=T a)(p:a=.nilIface\/∃U S,a=.iface U S):EZ j B:=by
 intro b g n I x c w X k u d N;have m:=eP (x:=x) d.2.2.2 (by have:=d.2.1;omega);have o:M7 (Di c 2 x)=M7 ⟨2,(Di c 2 x).a,0⟩:=Q;rw[o];have⟨t,f⟩:=Dv<|Di c 2 x;have⟨y,i⟩:=Dv<|CC c n 2 x;rw[f]at m;rw[f,i];have h:w (3,0)=a:=by rw[Below.cell k K];exact v
 have F:=J f;have H:=J i;clear f i o;go_in;go_wp2_with fail;apply(Ek b g n I 2 x c _ u d N).mono;rw[F.o,H.o];rintro e V ⟨rfl,R,r⟩;have l:V (3,0)=a:=by have P:3<(w:M):=Lib.lt_of_cell h;rw[Ae (w:=w)<|r.block 3 P<|by omega];exact h
 have C:=J l;have E:=p;clear l u d p h v k;unfold fM;have a0:=Tryz.textOf t.e t.a t.t9;go_wp2_with(go_at_call 214;apply(gG t.a _ a C.o E m).mono);rintro e w3 ⟨z,rfl,s⟩;go_wp2;go_ret;exact⟨Q,R.j s id,r.trans<|s.mono λ_ _ q=>q.elim⟩
theorem pE(n:zw)(w:I'):F' zy 10 #[n] w λe a=>e=n/\a=w:=by go_in;go_wp2;go_ret;exact⟨Q,Q⟩
theorem KO.p{w}(h:KO B C z1 V z0 o0 x1 R X w)(f:O (λk=>k=v0) w P)(j:W v0 q1 q0 w)(i:q0≠70/\q0≠107/\q0≠114/\q0≠3/\q0≠104/\q0≠9):KO B C z1 V z0 o0 x1 R X P:=by
 have l:∀(k:M) (a:Cg) (u:TypeId) (c:M×M),k=v0->w.heap[k]? =T (R' a u c)->u=q0:=λk a u c e q=>by grind[W]
 refine⟨?_,h.fn.j f (λk d q=>?_) λk a u c m n=>by grind,h.st.j f (λk d q=>?_) λk a u c m n=>by grind⟩;have:=h.r;unfold EB at this|-;rw[f.block B (Cz this) λq=>i.1 (l _ _ _ _ q this).symm];exact this;have⟨q1,g,_⟩:=h.fn;exact CL g j i.2.1 k d q;have⟨q1,g,_⟩:=h.st;exact CL g j i.2.2.1 k d q
theorem Tryz.infoPR:(Tryz.prog.info? 36).map (λi=>(i.zero,i.size,i.bytes))=T (T<|Z' Z,1,8):=by kernel_rfl
theorem Tryz.infoPS:(Tryz.prog.info? 45).map (λi=>(i.zero,i.size,i.bytes))=T (T<|Z' Z,1,8):=by kernel_rfl
theorem Tryz.infoPP:(Tryz.prog.info? 40).map (λi=>(i.zero,i.size,i.bytes))=T (T<|Z' Z,1,8):=by kernel_rfl
abbrev Tl:Value:=Y Z 0 0
theorem Vf(s:Cd)(f p:M)(w:I')(h:F' zy 29 #[s] w λe b=>e=P' #[Y Z 0 0,fE,f,p]/\zx w w b)(i:f≠0):
 F' zy 8 #[s] w λe b=>e=P' #[Z' Z,f,p]/\zx w w b:=by
 have g:=qO f 0 (by omega);go_in;go_wp2_with fail;apply h.mono;rintro e d ⟨rfl,a⟩;have c:=a.trans<|(Below.refl w d).alloc a.size<|R' #[Y Z 0 0,G A 0] 81;clear a h;go_wp2;refine Ak (v:=P' #[Z' Z,f,p]) (by simp[zz,results8,go_sem]) Q ⟨Q,c⟩
theorem bZ(s:Cd)(m f p:M)(w:I')(c:f≠0)(d:F' zy 29 #[s] w λe a=>e=P' #[Y Z 0 0,fE,f,p]/\zx w w a)
 (l:∀b,F' zy 9 #[s] b λe a=>e=P' #[Z' Z,Y Z 0 0,f,p]/\zx b b a):
 F' zy 4 #[Z' m,s] w λe a=>e=O' zt/\O Cb w a:=by
 have o:((f:zw) !=(f:zw))=zr:=by simp
 have q:((p:zw) !=(p:zw))=zr:=by simp
 have n:((f:zw) !=0)=zt:=by simp[c]
 have i:=Vf s f p w d c;clear d c;go_in;go_wp2_with(first
  |(go_at_call 8;apply i.mono;rintro e r ⟨rfl,g⟩;have j:=Ea g;clear g)
  |(go_at_call 9;apply(l _).mono;rintro e t ⟨rfl,h⟩;have k:=j.trans<|Ea h;clear h)
  |(go_at_call 10;apply FC<|pE _ _))
 go_ret;exact⟨Q,k⟩
