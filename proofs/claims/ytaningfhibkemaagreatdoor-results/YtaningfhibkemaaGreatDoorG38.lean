/- Part of the proof: ApO JoA LsG LsH LsV LsX LsY LtB LuA LuB. -/
import Derived.Test.YtaningfhibkemaaGreatDoorG27
import Derived.Laws.BytesArg
import Derived.Deep.Upon
import Derived.Laws.OwnMore
set_option maxRecDepth 100000
set_option maxHeartbeats 4000000
namespace Go.Proofs.YtaningfhibkemaaGreatDoor
open Go.RowKit Go.Proofs.Tryz
theorem OS.low{i B n u o}{U:Nat->Prop}{r x v p w m}(h:OS i B U r x v p u o w)(A:w.heap.size<=n)(c:Below n w m):OS i B U r x v p u o m:=by
 have s:O (fun k=>w.heap.size<=k) w m:=⟨c.os,c.tape,c.output,c.size,fun k d _=>c.block k Z⟩;have e:∀(k:Nat) (a:Array Value) (t:TypeId) (b:Nat×Nat),w.heap.size<=k->w.heap[k]? =some (.cells a t b)->False:=fun k a t b z y=>by have:=Ae y;omega
 refine⟨?_,h.fn.d8 s (fun k d q=>?_) (fun k a t b j l=>(e k a t b j l).elim),h.st.d8 s (fun k d q=>?_) (fun k a t b j l=>(e k a t b j l).elim)⟩
 .have:=h.pr;unfold BZ at this⊢;rw[c.block i (by have:=Ae this;omega)];exact this
 .obtain⟨a,g,_⟩:=h.fn;obtain⟨_,_,_,f⟩:=Cu g d;exact e _ _ _ _ q f
 .obtain⟨a,g,_⟩:=h.st;obtain⟨_,_,_,f⟩:=Cu g d;exact e _ _ _ _ q f
abbrev XH(t:Tk):Array Value:=#[.string t.d9,.int .i64 t.pos,.int .i64 t.sort]
structure KQ(P:List PFn)(pn cn B sb pb:Nat)(nv cv ev:Value)(w0:World)(s:Ls)(w:World):Prop where
 p:QY P pn cn B sb pb nv cv ev s w
 low:Below B w0 w
theorem KQ.s9{P f a B g e d b c j s w i}(h:KQ P f a B g e d b c j s w)(k:O kD w i):KQ P f a B g e d b c j s i:=⟨h.p.s9 k,h.low.trans (k.cX h.p.b (fun _ q=>q.elim))⟩
theorem KQ.next{P g d B c f e a b l s j w i}(h:KQ P g d B c f e a b l s w)(k:QY P g d B c f e a b j i)(o:DY c a b w i):KQ P g d B c f e a b l j i:=⟨k,h.low.trans (h.p.m.low h.p.b o)⟩
structure XB(pb Bp B:Nat)(U:Nat->Prop)(fv sv:Value)(rf:List RF)(fs:List FS)(pl ca:Nat)(w0:World):Prop where
 rp:OS pb Bp U fv sv rf fs pl ca w0
 b:w0.heap.size<=B
 rn:rf.length<=4001
 fn:fs.length<=4001
 nz:∀f,f∈rf->f.name.d9.size<=4000
theorem XB.at{e a B f b}{U:Nat->Prop}{d i g c j w}(h:XB e a B U d i g c f b j)(k:Below B j w):OS e a U d i g c f b w:=h.rp.low h.b k
theorem Hn{P:List PFn}{pn cn B Q N S pl ca:Nat}{nv cv ev:Value}{U:Nat->Prop}{fv sv:Value}{i:List RF}{fs:List FS}{R:World}(G:XB N S B U fv sv i fs pl ca R){s:Ls}{w:World}(h:KQ P pn cn B Q N nv cv ev R s w)(u:FS)(I C M:Value)(a0:∃a l c,I=.slice a l c)(a4:∃a l c,C=.slice a l c)(a6:∃a l c,M=.slice a l c)(t:Tk)(L:u.cS<i.length)(ht:t.d9.size<=4000):
 Calls prog 58 #[.pointer (some ⟨Q,0,none⟩),.agg (Bo u I C M),.agg (XH t)] w fun e w'=>e=.returned (.string (i[u.cS].name.d9++⟨#[46]⟩++t.d9))/\O kD w w':=by
 obtain⟨n,y,q,rfl⟩:=a0;obtain⟨o,z,r,rfl⟩:=a4;obtain⟨p,A,v,rfl⟩:=a6;have hz:=G.nz _ (gQ L);have j:=J (((O.refl kD w).alloc (.cells (Bo u (.slice n y q) (.slice o z r) (.slice p A v)) 92)).alloc (.cells (XH t) 49));have k:=J ((W.new w (Bo u (.slice n y q) (.slice o z r) (.slice p A v)) 92).alloc (.cells (XH t) 49));have m:D (W (w.heap.size+1) (XH t) 49 ((w.alloc (.cells (Bo u (.slice n y q) (.slice o z r) (.slice p A v)) 92)).alloc (.cells (XH t) 49))):=by have:=W.new (w.alloc (.cells (Bo u (.slice n y q) (.slice o z r) (.slice p A v)) 92)) (XH t) 49;simp only[World.size_alloc]at this;exact this
 have d:=J (h.s9 j.o);have b:=J (G.at d.o.low);obtain⟨nm,E⟩:∃x,i[u.cS].name.d9=x:=⟨_,rfl⟩;rw[E]at hz⊢;have X:=J E;clear h G E;unfold Bo at*;go_enter func58,ntmps58;go_upto_region 1 with fail;generalize (w.alloc _).alloc _=a8 at j k m d b⊢;have s0:=d.o.p.m.bx.cell 0;have b1:=Ae d.o.p.m.bx;have F:=b.o.pr;have f0:=Ak F 0;have lp:=Ae F;have a7:=k.o.cell 14;have a9:=Ae k.o;have y0:=m.o.cell 0;have b0:=Ae m.o;obtain⟨cs,f,_⟩:=b.o.fn;obtain⟨ga,gl,gc,rfl⟩:=Ad f;have a5:=Ag f;subst a5;obtain⟨g,rfl⟩:=Ap f Z;have lg:=(f.lt g rfl).2;obtain⟨tv,C,vv,K,_⟩:=b.o.fn.get L;have H:=K 0 T;rw[gX]at H;simp only[EH,gH,gF,gG]at s0 f0 a7 y0 H;rw[X.o]at H;have ti:(u.cS:Int)<(i.length:Int):=Z;have V:=j;clear K f k m d b F j;go_quiet((fail));have Y:=J (V.o.drewN nq);go_wp2_with fail;go_ret;exact⟨rfl,Y.o⟩
def T6(a:List RF)(f v:ByteArray):Bool:=decide (0<=Bz (a.map fun x=>x.name.d9) f 0) && decide (0<=Bz ((a[(Bz (a.map fun x=>x.name.d9) f 0).toNat]?.map fun x=>x.t8).getD []) v 0)
theorem V8{I u n F A:Nat}{nv L M z:Value}{U:Nat->Prop}{B K:Value}{a:List RF}{Q:List FS}{w:World}(c:OS u n U B K a Q F A w)(X:a.length<=4001)(s:∀f,f∈a->f.t8.length<=20000)(l:W I #[.pointer (some ⟨u,0,none⟩),nv,L,M,z] 88 w)(f v:ByteArray):
 Calls prog 27 #[.pointer (some ⟨I,0,none⟩),.string f,.string v] w fun e m=>e=.returned (.bool (T6 a f v))/\m=w:=by
 have o:=J (DI n u F A B K a f w c.pr c.fn X);have s0:=l.cell 0;have ls:=Ae l;have N:=Ak c.pr 0;have lp:=Ae c.pr;simp only[gH,gF]at s0 N;obtain⟨G,q2,H⟩:=CR (a.map fun x=>x.name.d9) f 0;have d:D (T6 a f v=(decide (0<=Bz (a.map fun x=>x.name.d9) f 0) && decide (0<=Bz ((a[(Bz (a.map fun x=>x.name.d9) f 0).toNat]?.map fun x=>x.t8).getD []) v 0))):=rfl;obtain⟨R,p⟩:∃R,T6 a f v=R:=⟨_,rfl⟩;rw[p]at d⊢;rw[iJ]at H;obtain⟨i,r⟩:∃i,Bz (a.map fun x=>x.name.d9) f 0=i:=⟨_,rfl⟩;rw[r]at o d q2 H;by_cases a0:0<=i
 .obtain⟨g,rfl⟩:∃g:Nat,i=g:=⟨i.toNat,Z⟩;have q:g<a.length:=Z;obtain⟨rs,h,_⟩:=c.fn;obtain⟨ga,gl,gc,rfl⟩:=Ad h;have V:=Ag h;subst V;obtain⟨P,rfl⟩:=Ap h Z;have lg:=(h.lt P rfl).2;obtain⟨tv,z,vv,C,Y,S,t⟩:=c.fn.get q;obtain⟨v1,v2,v3,rfl⟩:=Ad t;have n6:=C 6 T;simp only[EH,gH,gF,gG]at n6;have y:=J (GL n _ a[g].t8 v w t (s _ (gQ q)));have k:R=decide (0<=Bz a[g].t8 v 0):=by rw[d.o,Int.toNat_natCast,gL q];simp
  obtain⟨j,E⟩:∃j,Bz a[g].t8 v 0=j:=⟨_,rfl⟩;rw[E]at y k;have tg:decide ((0:Int)<=(g:Int))=true:=jY;clear l s p G r C Y S t h c d E;subst k;go_enter func27,ntmps27;go_wp2_with fail;refine o.o.mono ?_;rintro e m ⟨rfl,b⟩;have b:=b.symm;subst b;go_wp2_with fail;refine y.o.mono ?_;rintro e m ⟨rfl,b⟩;have b:=b.symm;subst b;go_wp2_with fail;go_ret;exact⟨rfl,rfl⟩
 .obtain rfl:i= -1:=Z;have k:R=false:=by rw[d.o];rfl
  clear l s p G r c d;subst k;go_enter func27,ntmps27;go_wp2_with fail;refine o.o.mono ?_;rintro e m ⟨rfl,b⟩;have b:=b.symm;subst b;go_wp2_with fail;go_ret;exact⟨rfl,rfl⟩
structure LsK(P:List PFn)(m d j:Nat)(a:List RF)(b:List FS):Prop where
 nm:NmP P
 hy:AnHy P m d j
 len:a.length=P.length
 name:∀f (h:f<a.length),a[f].name.d9=CK P f
 tkl:∀f (h:f<a.length),a[f].cG.length=(As P f).u9
 tkt:∀f (h:f<a.length) i (h':i<a[f].cG.length),a[f].cG[i].d9=Hx P f i
 cR:b.length<=4001
 z:ON 4000 b
 cS:∀(k:Nat) (u:FS),b[k]? =some u->u.cS<a.length
 rule:∀(k:Nat) (u:FS),b[k]? =some u->(u.kind=12\/u.kind=13)\/∃r,MxR P u r
 stmt:∀r,LP P r->(r.s.kind=11\/r.s.kind=12)\/∃(k:Nat) (u:FS),b[k]? =some u/\MxR P u r
theorem Lc{P:List PFn}{m d j:Nat}(Y:AnHy P m d j){f v:Nat}(c:f<P.length)(g:v<(As P f).t8.length):CK P f++⟨#[46]⟩++Hx P f v=BU P (vN f v):=by
 have:=Y.ok.cR;have:=Y.ok.ok.t8 f;have e:QT (vN f v)=⟨0,f,v⟩:=by unfold QT Ds vN;rw[jH Z];simp only;rw[show(f*12+v) / 12=f by omega,show(f*12+v) % 12=v by omega]
 unfold BU IN CK;rw[e];simp only[show¬(0:Nat)=1 by omega,show¬(0:Nat)=2 by omega,if_false];apply ByteArray.ext;apply Array.ext';simp
def Yu(a:List RF)(u:FS)(t:Tk):ByteArray:=(a[u.cS]?.map fun f=>f.name.d9).getD ByteArray.empty++⟨#[46]⟩++t.d9
theorem LY{a:List RF}{u:FS}{t:Tk}(h:u.cS<a.length):a[u.cS].name.d9++⟨#[46]⟩++t.d9=Yu a u t:=by unfold Yu;rw[gL h];rfl
section
variable{P:List PFn}{m d j:Nat}{a:List RF}{b:List FS}(K:LsK P m d j a b){u:FS}{r:Rl}(M:MxR P u r)
include K M
theorem LsK.st:Z7 P (As P r.f) r.s:=K.hy.ok.ok.ok r.f M.rl.1 r.s M.rl.2
theorem LsK.ix:u.cS<a.length:=by rw[K.len,M.cS];exact M.rl.1
theorem LsK.nmOf{v:Nat}{t:Tk}(e:v<(As P r.f).t8.length)(c:Hx P r.f v=t.d9):Yu a u t=BU P (vN r.f v):=by rw[<-LY (K.ix M),K.name _ (K.ix M),M.cS,<-c];exact Lc K.hy M.rl.1 e
theorem LsK.tgx(c:r.s.kind≠0)(e:r.s.kind≠10):Yu a u u.p=BU P r.tg/\AK P d r.tg:=by have:=M.cR;have f:=(K.st M).tg c e Z Z;exact⟨K.nmOf M f (M.p c e),Bj M.rl.1 f⟩
theorem LsK.srx(h:r.s.kind=2\/r.s.kind=3\/r.s.kind=5\/r.s.kind=6\/r.s.kind=8\/r.s.kind=9\/r.s.kind=10):Yu a u u.q=BU P r.sr/\AK P d r.sr:=by have c:=(K.st M).sr h;exact⟨K.nmOf M c (M.q h),Bj M.rl.1 c⟩
theorem LsK.arx(h:r.s.kind=7\/r.s.kind=8):u.args.length=r.s.args.length/\∀i (f:i<u.args.length) (c:i<r.s.args.length),Yu a u u.args[i]=BU P (vN r.f r.s.args[i])/\AK P d (vN r.f r.s.args[i]):=by
 have e:=M.args h;have k:u.args.length=r.s.args.length:=by have:=congrArg List.length e;simpa using this
 refine⟨k,fun i f c=>?_⟩;have g:=(K.st M).args _ (gQ c);refine⟨K.nmOf M g ?_,Bj M.rl.1 g⟩;have:=congrArg (fun l=>l[i]?) e;simp only[iL,gL f,gL c,Option.map_some,gN]at this;exact this.symm
omit M in
theorem LsK.pax{g i:Nat}(c:g<a.length)(h:i<a[g].cG.length):a[g].name.d9++⟨#[46]⟩++a[g].cG[i].d9=BU P (vN g i)/\AK P d (vN g i):=by
 have e:g<P.length:=by rw[<-K.len];exact c
 have f:i<(As P g).t8.length:=by have:=K.tkl g c;have:=K.hy.ok.ok.dX g;omega
 rw[K.name g c,K.tkt g c i h];exact⟨Lc K.hy e f,Bj e f⟩
end
theorem Zu{l:List TF}(G:GoodP l){a:List RF}{b:List FS}(S:RuS (fnN l) (paN l) (xfR l 0 0) a b)(C:OP b a)(B:ON 4000 b)(x:bF a l):LsK (Bi (fnN l) l 0 0) (vx (fnN l) EC) (BJ (fnN l) l 0 0).1 (BJ (fnN l) l 0 0).2 a b:=by
 have F:a.length=l.length:=by have:=S.h.eD;simp only[fnN,iJ]at this;omega
 refine⟨G.fW,G.anHy,by rw[DU];exact F,fun f h=>?_,fun f h=>?_,fun f h i y=>?_,S.fP,B,fun k u q=>?_,fun k u q=>Ys G S C q,fun r w=>Yt G S w⟩
 .have n:f<l.length:=Z;unfold CK;rw[(G.one f n).1];have:=S.h.name h;rw[this];unfold VU fnN;rw[iL,gL n];rfl
 .have n:f<l.length:=Z;rw[x f h n,iJ,(G.one f n).2.2.1]
 .have n:f<l.length:=Z;have e:=x f h n;have z:i<l[f].u9.length:=by rw[e,iJ]at y;exact y
  unfold Hx;rw[(G.one f n).2.1];unfold CP;rw[jJ (by rw[iJ];exact z),iL,gL z];simp only[e,iU,Option.map_some,Option.getD_some];rfl
 .obtain⟨g,E,w⟩:=C k (List.getElem?_eq_some_iff.1 q).1;obtain⟨f,n,rfl⟩:=iF.1 E;obtain⟨t,p,c,o,_⟩:=Y7 (S.cJ f n) w;match t,o with
  |.mk s [],o=> obtain⟨A,e,H,_⟩:=o;rw[q]at e;cases e;rw[H.cS];exact n
  |.mk s [(_,I)],o=> obtain⟨A,e,v,_⟩:=o;rw[q]at e;cases e;rw[v];exact n
  |.mk s [(_,I),(_,K)],o=> obtain⟨A,e,v,_⟩:=o;rw[q]at e;cases e;rw[v];exact n
  |.mk _ (_::_::_::_),o=>exact o.elim
theorem Pl{l:List ByteArray}(h:l.Nodup){v:Nat}(e:v<l.length):Bz l l[v] 0=(v:Int):=by have b:=gQ e;obtain⟨c,d⟩:=Io b;have a:=ME b ByteArray.empty;rw[gL c]at a;rw[d,(List.getElem_inj h).1 a]
theorem X8{P:List PFn}(N:NmP P){f v:Nat}(a:f<P.length)(c:v<(As P f).t8.length):Gx P (CK P f) (Hx P f v) 0=some (vN f v):=by
 have e:∀k (h:k<P.length),As P k=P[k]:=fun k h=>by unfold As;rw[gL h];rfl
 have g:Bz (As P f).t8 (Hx P f v) 0=(v:Int):=by
  have:Hx P f v=(As P f).t8[v]:=by unfold Hx;rw[gL c];rfl
  rw[this];exact Pl (N.fU f) c
 have:∀d k,k+d=f->Gx (P.drop k) (CK P f) (Hx P f v) k=some (vN f v):=by
  intro d;induction d with
  |zero=> intro k i;obtain rfl:k=f:=Z;rw[JS P _ _ k a,<-e k a,g,jH ⟨rfl,Z⟩];rfl
  |succ d j=> intro k i;have b:k<P.length:=Z;rw[JS P _ _ k b,jG,j (k+1) Z];rintro⟨q,_⟩;have:=N.inj k f b a (by rw[e k b];exact Ct q);omega
 exact this f 0 Z
theorem Zs{P:List PFn}{o p h:Nat}{a:List RF}{k:List FS}(K:LsK P o p h a k){f v:Nat}(d:f<a.length)(n:v<a[f].t8.length):T6 a a[f].name.d9 a[f].t8[v]=true:=by
 have m:(a.map fun x=>x.name.d9).Nodup:=by
  refine List.pairwise_iff_getElem.2 fun i j e g q c=>?_
  rw[iJ]at e g;rw[iU,iU,K.name i e,K.name j g]at c;have:=K.nm.inj i j (by rw[<-K.len];omega) (by rw[<-K.len];omega) c;omega
 have b:=Pl m (v:=f) (by rw[iJ];exact d);rw[iU]at b;unfold T6;rw[b,Int.toNat_natCast,gL d];obtain⟨_,l⟩:=Io (gQ n);simp only[Option.map_some,Option.getD_some,l];simp
theorem Wo(a:Nat)(p:a<=100000)(w:World):
 Calls prog 104 #[.int .i64 a] w fun e h=>∃x:ByteArray,e=.returned (.string x)/\x.size<=a+1/\O kD w h:=by
 go_enter func104,ntmps104;go_wp2_with fail;go_loopw[0,3] (fun i v wr=>∃(n:Nat) (x:ByteArray),n<=a/\i=.int .i64 n/\v=.string x/\x.size+n<=a+1/\D (O kD w wr)) (fun i _ _=>(intOf i).toNat)
 case atStart=>exact⟨a,_,Z,rfl,rfl,by show 1+a<=a+1;omega,O.refl _ _⟩
 case round=>
  obtain⟨n,x,o,rfl,rfl,s,b⟩:=hrel;by_cases m:0<n
  .have g:decide ((0:Int)<(n:Int))=true:=jX;have r:(n:Int).tmod 10=((n % 10:Nat):Int):=by rw[Int.tmod_eq_emod_of_nonneg Z];omega
   have q:(n:Int).tdiv 10=((n / 10:Nat):Int):=by rw[Int.tdiv_eq_ediv_of_nonneg Z];omega
   go_wp2_with fail;have f:=run_convert_bytes_arg (P:=prog) (wr.alloc (.cells #[.int .u8 (65+(n:Int) % 10)] 5)) 179 5 rfl rfl wr.heap.size 0 1 1 [65+(n:Int) % 10] rfl (fun i l=>by obtain rfl:i=0:=Z;exact(W.new wr #[.int .u8 (65+(n:Int) % 10)] 5).cell 0) 9 rfl
   rw[f];obtain⟨y,c⟩:∃y,strOfNums [65+(n:Int) % 10]=y:=⟨_,rfl⟩;rw[c];have t:y.size=1:=by rw[<-c];rfl
   have d:=J (b.o.alloc (.cells #[.int .u8 (65+(n:Int) % 10)] 5));generalize wr.alloc (.cells #[.int .u8 (65+(n:Int) % 10)] 5)=j at d⊢;clear f c b;have k:¬(9223372036854775807<x.size+y.size):=Z;go_wp2_with fail;go_roundw
   case rel=>exact⟨n / 10,x++y,Z,by go_num,rfl,by rw[ByteArray.size_append];omega,d⟩
   case measure=>simp[intOf];omega
  .have g:decide ((0:Int)<(n:Int))=false:=jX;go_wp2_with fail;go_ret;exact⟨x,rfl,Z,b.o⟩
theorem Q7{P:Program}{w:World}(r:Nat)(t p e:TypeId)(i:TypeInfo)(z:Value)(C:P.underlying t=some (.slice e))(x:P.info? e=some i)(V:i.zero=some z)
 (v:Value)(n:Nat)(l:List Value)(f:w.ownsRow r e i.size v n l)
 (a:Addr)(m c:Nat)(b:List Value)(o:b.length=m*i.size)(y:∀j u,b[j]? =some u->w.cell? (a.add j)=some u)(F:∀u∈b,u.oneCell'=true)
 (G:n+m<=maxLen)(I:(n+m)*i.bytes<=140737488355328){X:Value}{E:World}(B:(Builtin.append_ #[t,t] p #[v,.slice (some a) m c]).run P w=.ok X E):
 E.ownsRow r e i.size v n l:=by
 have Y:n+m<=9223372036854775807:=by simp only[maxLen]at G;omega
 have S:=f;rcases f.2 with⟨rfl,rfl⟩|⟨g,k,h,rfl,H,s,Q,K,L,U⟩
 .exact⟨f.1,.inl ⟨rfl,rfl⟩⟩
 .by_cases A:n+m<=k
  .have M:n*i.size+b.length<=h.size:=by rw[o,L,<-Nat.add_mul];exact Nat.mul_le_mul_right _ A
   have d:=run_append_room (P:=P) w t p e i C x g n k h s a m c b o y F A M;rw[B]at d;simp only[Result.ok.injEq]at d;rw[d.2];have N:(h.toList.take (n*i.size)).length=n*i.size:=by rw[List.length_take,Array.length_toList];omega
   refine⟨f.1,.inr ⟨g,k,(h.toList.take (n*i.size)++b++h.toList.drop (n*i.size+b.length)).toArray,rfl,H,?_,Q,K,?_,?_⟩⟩
   .simp only[World.setRow,Array.getElem?_modify,s,if_true,Option.map_some]
   .simp only[List.size_toArray,gM,N,List.length_drop,Array.length_toList];omega
   .rw[jK,List.take_append_of_le_length Z,List.take_of_length_le Z];exact U
  .have R:∀j u,l[j]? =some u->w.cell? ((⟨g,0,none⟩:Addr).add j)=some u:=f.cells (g:=g) rfl;have d:=run_append_grow (P:=P) w t p e i z C x V ⟨g,0,none⟩ n k l f.1 R a m c b o y Z Z (growslice_fits Z I);rw[B]at d;simp only[Result.ok.injEq]at d;rw[d.2];exact Ac S (((O.refl kD w).drew).alloc _) (fun _ _ q=>q)
theorem Ed{P}(w){N R o a}{Q:Exit->Act->World->Prop}(V:o.guard=none)(s x t)
 (X:o.op=.call {callee:=.builtin .append,args:=#[s,x],argTypes:=#[t,t]})
 (d e i z b q)(L:P.underlying t=some (.slice e))(C:P.info? e=some i)(M:i.zero=some z)
 (I:i.size=b)(A:i.bytes=q)(a1:z.cells.size=b)(a0:0<b)
 (v n k)(Y:a.eval s=v)(G:w.ownsRow d e b v n k)
 (l m c g)(hx:a.eval x=.slice (some l) m c)(E:g.length=m*b)(F:∀j u,g[j]? =some u->w.cell? (l.add j)=some u)(r:∀u∈g,u.oneCell'=true)
 (y:n+m<=maxLen)(B:(n+m)*q<=140737488355328)(U:d<=w.heap.size)
 (h:∀p f,f.ownsRow d e b p (n+m) (k++g)->w.grownBy f v.ownBlock->f.ownsRow d e b v n k->wpList P N Q R (a.put o.dst p) f):wpList P N Q (o::R) a w:=
 wpList_plain V fun K S=>by
  obtain⟨p,f,H,r1,r2,_⟩:=run_append_own (P:=P) w d t o.type e i z b q L C M I A a1 a0 v n k G l m c g E F r y B U;have r3:f.ownsRow d e b v n k:=by subst I;subst A;exact Q7 d t o.type e i z L C M v n k G l m c g E F r y B H
  unfold Oper.wp;simp[execOp,X,resolve,invoke,builtin,Y,hx,H,Result.andThen];exact S _ _ (h p f r1 r2 r3)
theorem Tryz.infoRowS:(Tryz.prog.info? 51).map (fun i=>(i.zero,i.size,i.bytes))=some (some (.slice none 0 0),1,24):=jW
abbrev TB(B n:Nat)(w:World)(v:Value):Prop:=w.ownsRow B 51 1 v n (List.replicate n (.slice none 0 0))
theorem TB.rows{B n w v}(h:TB B n w v):Ef B w v (List.replicate n []):=
 ⟨List.replicate n (.slice none 0 0),jY,by rw[List.length_replicate];exact h,fun i h a=>by simp only[List.getElem_replicate];exact gR _ _ _ _⟩
theorem ND(B n:Nat)(w:World)(d:B<=w.heap.size)(p:n<=20000):∃a,(Instr.makeSlice 27 (.int .i64 (n:Int)) (.int .i64 (n:Int))).run prog w=.ok (.slice (some ⟨w.heap.size,0,none⟩) n n) a/\TB B n a (.slice (some ⟨w.heap.size,0,none⟩) n n)/\O kD w a:=by
 obtain⟨m,f,i,j,l⟩:=info_parts Tryz.infoRowS;obtain⟨o,h,b,c⟩:=run_makeSlice_full (P:=prog) w B 27 51 m (.slice none 0 0) 1 underlying27 f i j .i64 .i64 n Z (by rw[l];omega) jZ d;refine⟨o,h,?_,O.grown (O.refl _ w) c (fun k g=>by cases g)⟩;have e:(madeCells (Value.slice none 0 0).cells (n*1)).toList=List.replicate n (.slice none 0 0):=by rw[Nat.mul_one];exact toList_madeCells_one _ n
 rw[e]at b;exact b
structure WdS(w1:World)(wb:Nat)(rv lv pv:Value)(n:Nat)(w:World):Prop where
 o:O (fun k=>k=wb) w1 w
 hd:∃hv us,W wb #[rv,lv,pv,hv] 29 w/\w.ownsRow w1.heap.size 51 1 hv n us
theorem WdS.s9{e f c a b n w d}(h:WdS e f c a b n w)(k:O kD w d):WdS e f c a b n d:=by obtain⟨j,l,g,i⟩:=h.hd;exact⟨h.o.dA k,j,l,g.d8 k id,Ac i k (fun _ _ q=>q)⟩
def JK(w c:World):Prop:=∀b a t,t≠29->t≠9->t≠51->W b a t w->W b a t c
theorem JK.of{w a}(k:O kD w a):JK w a:=fun _ _ _ _ _ _ h=>h.d8 k id
theorem JK.trans{a b c}(h:JK a b)(k:JK b c):JK a c:=fun x d t e f g q=>k x d t e f g (h x d t e f g q)
theorem WdS.row{e r p l o n w d v m x}(h:WdS e r p l o n w)(c:w.ownsRow e.heap.size 9 1 v m x)(k:O (fun k=>v.ownBlock=some k) w d):WdS e r p l o n d/\JK w d:=by obtain⟨s,u,f,g⟩:=h.hd;exact⟨⟨h.o.thn k (fun j i q=>by have:=(c.lt j q).1;omega),s,u,f.d8 k (fun q=>Am c f T _ q rfl),Ac g k (fun j i=>Gq g c T j i)⟩,fun b y t _ a _ q=>q.d8 k (fun z=>Am c q a _ z rfl)⟩
theorem WdS.app{b f e c d n w a v m j o}(h:WdS b f e c d n w)(i:w.ownsRow b.heap.size 9 1 v m j)(g:(w.alloc o).grownBy a v.ownBlock):WdS b f e c d n a/\JK w a:=h.row i (O.grown ((O.refl _ w).alloc o) g (fun _ q=>.inl q))
theorem WdS.push{o c l f i n w Wz a d B}(h:WdS o c l f i n w)(m:W c #[l,f,i,d] 29 w)(s:w.ownsRow o.heap.size 51 1 d n B)(k:O kD w Wz)(g:Wz.grownBy a d.ownBlock){e x}(r:a.ownsRow o.heap.size 51 1 e (n+1) x):WdS o c l f i (n+1) (a.setCell ⟨c,3,none⟩ e)/\JK w (a.setCell ⟨c,3,none⟩ e)/\W c #[l,f,i,d] 29 a:=by have u:O (fun k=>d.ownBlock=some k) w a:=(k.mono (fun _ _ q=>q.elim)).grown g (fun _ q=>.inl q);have p:W c #[l,f,i,d] 29 a:=m.d8 u (fun q=>Am s m T _ q rfl);have v:O (fun k=>k=c) a (a.setCell ⟨c,3,none⟩ e):=(O.refl _ a).t9 3 _;exact⟨⟨(h.o.thn u (fun j E q=>by have:=(s.lt j q).1;omega)).trans v,e,x,p.set 3 _,Ac r v (Am r p T)⟩,fun b C t y _ A q=>(q.d8 u (fun z=>Am s q A _ z rfl)).d8 v (fun z=>by subst z;unfold W at m q;rw[m]at q;cases q;exact y rfl),p⟩
theorem PE(s:World)(Y:Nat)(r1:Option Addr)(r2 r3:Nat)(l1:Option Addr)(l2 l3:Nat)(p1:Option Addr)(p2 p3 n:Nat)(w:World)(h:WdS s Y (.slice r1 r2 r3) (.slice l1 l2 l3) (.slice p1 p2 p3) (4*n) w)(hn:n<=30000)(va:Value)(L:List ByteArray)(M:Au s.heap.size w va L)(hl:L.length<=20000):
 Calls prog 66 #[.pointer (some ⟨Y,0,none⟩),va] w fun e w'=>e=.returned (.tuple #[])/\WdS s Y (.slice r1 r2 r3) (.slice l1 l2 l3) (.slice p1 p2 p3) (4*(n+1)) w'/\JK w w':=by
 obtain⟨i0,a0,a4,a5,a6⟩:=info_parts Tryz.infoStr;obtain⟨S,N,P,Q,R⟩:=info_parts Tryz.infoRowS;obtain⟨a1,a2,K,rfl⟩:=Ad M;have ha:=Ag M;subst ha;obtain⟨hv,V,a,d⟩:=h.hd;obtain⟨h1,h2,h3,rfl⟩:=Ad d;have A:=Ag d;subst A;have r:=a.cell 3;have B:=Ae a;simp only[gH,gF,gG]at r;have e4:((4*n:Nat):Int).tdiv 4=(n:Int):=by rw[Int.tdiv_eq_ediv_of_nonneg Z];omega
 have HW:=J h;have HL:D (w.ownsRow s.heap.size 9 1 (.slice a1 L.length K) L.length (L.map .string)):=M;clear h M a d;go_enter func66,ntmps66;go_wp2_with fail;refine(Wo n Z w).mono ?_;rintro e w2 ⟨x,rfl,_,U⟩;have b:=J (HW.o.s9 U);have c:=J (JK.of U);have l:=J (Ac HL.o U (fun _ _ q=>q));clear HW HL U r B e4;go_wp2_with fail;go_loopw[5] (fun i wr=>∃(k:Nat) (V:List Value),k<=L.length/\i=.int .i64 k/\D (WdS s Y (.slice r1 r2 r3) (.slice l1 l2 l3) (.slice p1 p2 p3) (4*n) wr)/\D (JK w wr)/\D (wr.ownsRow s.heap.size 9 1 (.slice a1 L.length K) L.length V)) (fun i _=>L.length-(intOf i).toNat)
 case atStart=>exact⟨0,_,Z,rfl,b,c,l⟩
 case round=>
  clear b c l;obtain⟨k,V,hk,rfl,b,c,l⟩:=hrel;by_cases a8:k<L.length
  .have tk:decide ((k:Int)<(L.length:Int))=true:=jX;obtain⟨g,rfl⟩:=Ap l.o Z;have lg:=(l.o.lt g rfl).2;have fz:=l.o.frozenAt k;have cu:=l.o.cellAt k Z;obtain⟨s1,s2⟩:=l.o.stored k (.string x);obtain⟨f,j⟩:=b.o.row l.o (O.grown (X:=fun k=>Value.ownBlock (.slice (some ⟨g,0,none⟩) L.length K)=some k) (O.refl _ wr) s2 (fun _ q=>.inl q));obtain⟨u0,a7⟩:∃u,V[k]? =some u:=⟨_,gL (by have:=l.o.1;omega)⟩;rw[a7]at cu;have W3:=J f;have N3:=J (c.o.trans j);have L3:=J s1;clear b c l s1 s2 f j a7;go_wp2_with fail;go_roundw
   case rel=>exact⟨k+1,_,Z,by go_num,W3,N3,L3⟩
   case measure=>simp[intOf];omega
  .have tk:decide ((k:Int)<(L.length:Int))=false:=jX;have z:=b.o.o.size;go_upto_region 8 with(first
    |(at_builtin;refine Ed _ rfl _ _ 51 rfl s.heap.size 9 i0 (.string ByteArray.empty) 1 16 underlying51 a0 a4 a5 a6 rfl T _ _ _ rfl (l.o.alloc _) _ 1 1 [.string x] rfl rfl (AC jY _ _) (fun x m=>by simp at m;subst m;rfl) jZ Z jX ?_;intro v5 w5 E C F;obtain⟨d5,e5,f5,rfl⟩:=Ad E;obtain⟨f,j⟩:=b.o.app l.o C;have l:=J F;have b:=J f;have c:=J (c.o.trans j);have z:=b.o.o.size;clear E C F f j)
    |(at_builtin;refine Ed _ rfl _ _ 51 rfl s.heap.size 9 i0 (.string ByteArray.empty) 1 16 underlying51 a0 a4 a5 a6 rfl T _ _ _ rfl (l.o.alloc _) _ 2 2 [.string x,.string x] rfl rfl (AC jY _ _) (fun x m=>by simp at m;subst m;rfl) jZ Z jX ?_;intro v6 w6 E C F;obtain⟨d6,e6,f6,rfl⟩:=Ad E;obtain⟨f,j⟩:=b.o.app l.o C;have l:=J F;have b:=J f;have c:=J (c.o.trans j);have z:=b.o.o.size;clear E C F f j)
    |(at_builtin;refine Ed _ rfl _ _ 51 rfl s.heap.size 9 i0 (.string ByteArray.empty) 1 16 underlying51 a0 a4 a5 a6 rfl T _ _ _ rfl (l.o.alloc _) _ 3 3 [.string x,.string x,.string x] rfl rfl (AC jY _ _) (fun x m=>by simp at m;subst m;rfl) jZ Z jX ?_;intro v7 w7 E C F;obtain⟨d7,e7,f7,rfl⟩:=Ad E;obtain⟨f,j⟩:=b.o.app l.o C;have l:=J F;have b:=J f;have c:=J (c.o.trans j);have z:=b.o.o.size;clear E C F f j))
   obtain⟨_,_,a,d⟩:=b.o.hd;obtain⟨_,_,_,rfl⟩:=Ad d;have A:=Ag d;subst A;have r:=a.cell 3;have B:=Ae a;simp only[gH,gF,gG]at r;have t:=J a;have o:=J d;clear a d;go_upto_region 9 with(at_builtin;refine iQ _ rfl _ _ 27 rfl s.heap.size 51 S (.slice none 0 0) 1 24 underlying27 N P Q R rfl T _ _ _ rfl (o.o.alloc _) _ 1 1 [.slice a1 L.length K] rfl rfl (AC jY _ _) (fun x m=>by simp at m;subst m;rfl) jZ Z jX ?_;intro v8 I p y _;obtain⟨_,_,_,rfl⟩:=Ad p;obtain⟨f,j,a⟩:=b.o.push t.o o.o ((O.refl _ _).alloc _) y p;have v:=a.cell 3;have G:=a.frozen 3;have H:=Ae a;simp only[gH,gF,gG]at v;have b:=J f;have c:=J (c.o.trans j);have z:=b.o.o.size;clear p y f j a t o r B);clear v G H;generalize World.setCell I _ _=b1 at b c z⊢;obtain⟨_,_,a,d⟩:=b.o.hd;obtain⟨_,_,_,rfl⟩:=Ad d;have A:=Ag d;subst A;have r:=a.cell 3;have B:=Ae a;simp only[gH,gF,gG]at r;have t:=J a;have o:=J d;clear a d;go_upto_region 10 with(at_builtin;refine iQ _ rfl _ _ 27 rfl s.heap.size 51 S (.slice none 0 0) 1 24 underlying27 N P Q R rfl T _ _ _ rfl (o.o.alloc _) _ 1 1 [.slice d5 e5 f5] rfl rfl (AC jY _ _) (fun x m=>by simp at m;subst m;rfl) jZ Z jX ?_;intro v8 I p y _;obtain⟨_,_,_,rfl⟩:=Ad p;obtain⟨f,j,a⟩:=b.o.push t.o o.o ((O.refl _ _).alloc _) y p;have v:=a.cell 3;have G:=a.frozen 3;have H:=Ae a;simp only[gH,gF,gG]at v;have b:=J f;have c:=J (c.o.trans j);have z:=b.o.o.size;clear p y f j a t o r B);clear v G H;generalize World.setCell I _ _=b2 at b c z⊢;obtain⟨_,_,a,d⟩:=b.o.hd;obtain⟨_,_,_,rfl⟩:=Ad d;have A:=Ag d;subst A;have r:=a.cell 3;have B:=Ae a;simp only[gH,gF,gG]at r;have t:=J a;have o:=J d;clear a d;go_upto_region 11 with(at_builtin;refine iQ _ rfl _ _ 27 rfl s.heap.size 51 S (.slice none 0 0) 1 24 underlying27 N P Q R rfl T _ _ _ rfl (o.o.alloc _) _ 1 1 [.slice d6 e6 f6] rfl rfl (AC jY _ _) (fun x m=>by simp at m;subst m;rfl) jZ Z jX ?_;intro v8 I p y _;obtain⟨_,_,_,rfl⟩:=Ad p;obtain⟨f,j,a⟩:=b.o.push t.o o.o ((O.refl _ _).alloc _) y p;have v:=a.cell 3;have G:=a.frozen 3;have H:=Ae a;simp only[gH,gF,gG]at v;have b:=J f;have c:=J (c.o.trans j);have z:=b.o.o.size;clear p y f j a t o r B);clear v G H;generalize World.setCell I _ _=a9 at b c z⊢;obtain⟨_,_,a,d⟩:=b.o.hd;obtain⟨_,_,_,rfl⟩:=Ad d;have A:=Ag d;subst A;have r:=a.cell 3;have B:=Ae a;simp only[gH,gF,gG]at r;have t:=J a;have o:=J d;clear a d;go_wp2_with(at_builtin;refine iQ _ rfl _ _ 27 rfl s.heap.size 51 S (.slice none 0 0) 1 24 underlying27 N P Q R rfl T _ _ _ rfl (o.o.alloc _) _ 1 1 [.slice d7 e7 f7] rfl rfl (AC jY _ _) (fun x m=>by simp at m;subst m;rfl) jZ Z jX ?_;intro v8 I p y _;obtain⟨_,_,_,rfl⟩:=Ad p;obtain⟨f,j,a⟩:=b.o.push t.o o.o ((O.refl _ _).alloc _) y p;have v:=a.cell 3;have G:=a.frozen 3;have H:=Ae a;simp only[gH,gF,gG]at v;have b:=J f;have c:=J (c.o.trans j);have z:=b.o.o.size;clear p y f j a t o r B);clear v G H;generalize World.setCell I _ _=b0 at b c z⊢;go_end0;exact⟨rfl,b.o,c.o⟩
theorem UI(B C:Nat)(r s:Value)(l:List ByteArray)(w:World)(j:Au B w r l)(m:Au C w s l)(K:l.length<=20000):
 Calls prog 65 #[r,s] w fun e n=>e=.returned (.bool true)/\O kD w n:=by
 obtain⟨z,A,E,rfl⟩:=Ad j;have v:=Ag j;subst v;obtain⟨F,G,H,rfl⟩:=Ad m;have x:=Ag m;subst x;have t:=J j;have u:=J m;have P:decide ((l.length:Int)=(l.length:Int))=true:=jY;have N:((l.length:Int)==(l.length:Int))=true:=jY;clear j m;go_enter func65,ntmps65;go_wp2_with fail;go_loopw[5] (fun i wr=>∃k:Nat,k<=l.length/\i=.int .i64 k/\D (O kD w wr)) (fun i _=>l.length-(intOf i).toNat)
 case atStart=>exact⟨0,Z,rfl,O.refl _ _⟩
 case round=>
  obtain⟨k,I,rfl,a⟩:=hrel;by_cases p:k<l.length
  .have y:decide ((k:Int)<(l.length:Int))=true:=jX;have b:=Ac t.o a.o (fun _ _ q=>q);have f:=Ac u.o a.o (fun _ _ q=>q);obtain⟨g,rfl⟩:=Ap b Z;obtain⟨h,rfl⟩:=Ap f Z;have c:=Hb b k p;have d:=Hb f k p;have L:=(b.lt g rfl).2;have M:=(f.lt h rfl).2;obtain⟨X,o⟩:∃X,l[k]=X:=⟨_,rfl⟩;rw[o]at c d;have Q:(X.toList==X.toList)=true:=jY;clear b f o;go_upto_region 6 with fail;go_region_held3(fun n=>n.cell? ⟨g,k,none⟩=some (.string X)/\n.cell? ⟨h,k,none⟩=some (.string X)) (go_keep) (fail);go_wp2_with fail;go_roundw
   case rel=>exact⟨k+1,Z,by go_num,a.o.drew⟩
   case measure=>simp[intOf];omega
  .have y:decide ((k:Int)<(l.length:Int))=false:=jX;go_wp2_with fail;go_ret;exact⟨rfl,a.o⟩
def Gh(l:List PT):List ByteArray:=(l.filter (fun t=>t.kind≠0)).map (fun t=>t.d9)
theorem UY(l:List PT)(t:PT):Gh (l++[t])=if t.kind=0 then Gh l else Gh l++[t.d9]:=by
 unfold Gh;rw[List.filter_append,jP];by_cases h:t.kind=0
 .simp[h]
 .simp[h]
theorem Xs(l:List PT):(Gh l).length<=l.length:=by unfold Gh;rw[iJ];exact List.length_filter_le _ _
theorem YH{l:List PT}{k:Nat}(h:k<l.length):l.take (k+1)=l.take k++[Aj l k]:=by rw[iN h];unfold Aj;rw[gL h];rfl
theorem SY:∀(a:List ByteArray),(∀x,x∈a->x.size<=4000)->Lib.lens (a.map (fun x=>x.data.toList))<=4000*a.length
 |[],_=>by simp[Lib.lens]
 |x::a,h=>by have b:=SY a (fun y c=>h y (iA _ c));have d:=h x (jF ..);have e:x.data.toList.length=x.size:=jY;simp only[Lib.lens,iK,iS,gK]at b⊢;omega
theorem Yi(a:List ByteArray)(h:∀x,x∈a->x.size<=4000)(b:a.length<=4001):(Lib.join (a.map (fun x=>x.data.toList)) [32]).length<=140737488355328:=by
 cases a with
 |nil=>simp[Lib.join_nil]
 |cons x a=> have:=SY (x::a) h;rw[iK,Lib.join_length];simp only[iK,gK,iJ,gZ]at this b⊢;omega
theorem We(g n B:Nat)(a:List PT)(w:World)(h:AY g n B a w)(hs:∀t,t∈a->t.d9.size<=4000):
 Calls prog 14 #[.slice (some ⟨g,0,none⟩) n B] w fun e w'=>(∃s:ByteArray,e=.returned (.string s)/\s.data.toList=Lib.join ((Gh a).map (fun x=>x.data.toList)) [32])/\Below w.heap.size w w':=by
 obtain⟨i0,Q,a1,a2,a3⟩:=info_parts Tryz.infoStr;have V:=h.2.1;have hn:=h.2.2.1;obtain⟨m,E⟩:∃m,a.length=m:=⟨_,rfl⟩;rw[E]at V;subst V;have r:=J E;clear E;have lg:=h.lt;have HT:=J h;have K:=J hs;clear h hs;go_enter func14,ntmps14;go_wp2_with(at_make;refine wpList_make_own _ rfl _ _ 51 rfl w.heap.size 9 i0 (.string ByteArray.empty) 1 underlying51 Q a1 a2 .i64 .i64 (n:Int) n rfl rfl rfl (by rw[a3];omega) jZ (gI _) ?_;intro w1 Y N);have I:=J Y;have H:D (O kD w w1):=O.grown (O.refl _ w) N (fun k S=>by cases S);clear Y N;go_loopw[3,11] (fun v i wr=>∃(k:Nat),k<=n/\i=.int .i64 k/\D (Au w.heap.size wr v (Gh (a.take k)))/\D (O kD w wr)) (fun _ i _=>n-(intOf i).toNat)
 case atStart=>exact⟨0,Z,rfl,I,H⟩
 case round=>
  clear I H;obtain⟨k,S,rfl,d,c⟩:=hrel;have U:=Xs (a.take k);rw[List.length_take,r.o]at U;by_cases b0:k<n
  .have y:AY g n B a wr:=HT.o.d8 c.o id;obtain⟨t0,t1,t2⟩:=y.cells b0;have b7:=y.lt;have F:=YH (l:=a) (k:=k) (by rw[r.o];omega);have b6:(Aj a k).d9.size<=4000:=by unfold Aj;rw[gL (by rw[r.o];omega)];exact K.o _ (gQ _)
   have f:=UY (a.take k) (Aj a k);rw[<-F]at f;generalize Aj a k=t at*;have a9:(k:Int)<(n:Int):=Z;obtain⟨va,vl,z,rfl⟩:=Ad d.o;have G:=Ag d.o;subst G;have a0:=c.o.size;by_cases o:t.kind=0
   .have a8:((t.kind:Int) !=0)=false:=by simp[o]
    rw[jH o]at f;have A:=J f;clear y F f o;go_wp2;go_roundw
    case rel=>exact⟨k+1,Z,by go_num,J (by rw[A.o];exact Ac d.o ((O.refl kD wr).alloc _) (fun _ _ q=>q)),c.o.alloc _⟩
    case measure=>simp[intOf];omega
   .have a8:((t.kind:Int) !=0)=true:=by simp[o]
    rw[jG o]at f;have A:=J f;have a4:=J (Ac d.o ((O.refl kD wr).alloc (.cells #[.int .i64 t.kind,.string t.d9,.int .i64 t.l7] 112)) (fun _ _ q=>q));clear y F f o;go_wp2_with(at_builtin;refine iQ _ rfl _ _ 51 rfl w.heap.size 9 i0 (.string ByteArray.empty) 1 16 underlying51 Q a1 a2 a3 rfl T _ _ _ rfl (a4.o.alloc _) ⟨wr.heap.size+1,0,none⟩ 1 1 [.string t.d9] rfl rfl (AC jY _ _) (fun x b=>by simp at b;subst b;rfl) jZ Z jX ?_;intro v' w3 X P b1);have O3:O kD w w3:=O.grown ((c.o.alloc _).alloc _) P (fun j R=>.inr (d.o.lt j R).1);have HX:D (Au w.heap.size w3 v' (Gh (a.take (k+1)))):=by rw[A.o];unfold Au;rw[gM,jP];exact X
    clear P b1 X;go_wp2;go_roundw
    case rel=>exact⟨k+1,Z,by go_num,HX,O3⟩
    case measure=>simp[intOf];omega
  .have e:k=n:=Z;have M:a.take k=a:=List.take_of_length_le (by rw[r.o];omega);rw[M]at U;have a9:decide ((k:Int)<(n:Int))=false:=jX;have p:=d.o;rw[M]at p;obtain⟨va,vl,z,rfl⟩:=Ad p;have G:=Ag p;subst G;have b3:∀x,x∈Gh a->x.size<=4000:=by intro x b;unfold Gh at b;obtain⟨t,h,rfl⟩:=iT.1 b;exact K.o t (List.mem_filter.1 h).1
   have a7:=Yi (Gh a) b3 Z;have a0:=c.o.size;have u:=J p;clear d p;by_cases C:Gh a=[]
   .rw[C];go_wp2_with fail;refine(Tryz.strings_Join_none va z ⟨#[32]⟩ wr).mono ?_;rintro e w2 ⟨rfl,rfl⟩;go_wp2;go_ret;exact⟨⟨_,rfl,by rw[C];simp[Lib.join_nil]⟩,(c.o.below (fun _ q=>q.elim))⟩
   .have b2:0<(Gh a).length:=List.length_pos_iff.2 C;obtain⟨L,rfl⟩:=Ap u.o b2;have lv:=(u.o.lt L rfl).2;have a6:(Gh a).length<=z:=by
     rcases u.o.2 with⟨q,_⟩|⟨g',b4,b5,q,_,_,hc,_⟩
     .simp at q
     .simp only[Value.slice.injEq]at q;omega
    go_wp2_with fail;refine(Tryz.strings_Join L 0 z (Gh a) ⟨#[32]⟩ wr (fun j x b=>?_) lv Z a6 a7).mono ?_
    .have R:j<(Gh a).length:=by
      rcases iW j (Gh a).length with q|q
      .exact q
      .rw[iI q]at b;cases b
     have:=u.o.cellAt j Z
     rw[iL,b]at this
     simpa using this
    rintro e w2 ⟨rfl,a5⟩;go_wp2;go_ret;exact⟨⟨_,rfl,jY⟩,(c.o.below (fun _ q=>q.elim)).trans (a5.mono a0)⟩
