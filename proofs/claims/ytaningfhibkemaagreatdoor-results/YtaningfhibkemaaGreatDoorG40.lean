/- Part of the proof: LsJ LsL LtC LtD LuC LuD TxK. -/
import Derived.Test.YtaningfhibkemaaGreatDoorG39
set_option maxRecDepth 100000
set_option maxHeartbeats 4000000
namespace Go.Proofs.YtaningfhibkemaaGreatDoor
open Go.RowKit Go.Proofs.Tryz
abbrev bS:ByteArray:=⟨#[102,110,32,109,97,105,110,40,41,123,118,97,114,32,112,59,112,61,38,112,46,51,59,125,35,32,120]⟩
abbrev bR:List UInt8:=[102,110,32,109,97,105,110,32,40,32,41,32,123,32,118,97,114,32,112,32,59,32,112,32,61,32,38,32,112,32,46,32,51,32,59,32,125]
theorem Yj:JF bS=(0,0,bR):=by decide+kernel
theorem K8(n:Int)(w:World):Calls prog 10 #[.int .i64 n] w fun e a=>e=.returned (.int .i64 n)/\a=w:=by go_enter func10,ntmps10;go_wp2;go_ret;exact⟨rfl,rfl⟩
theorem Ud(a:Nat)(c:World)(hF:Cc a c)(w:World)(g:Below a c w)(f:a<=w.heap.size):
 Calls prog 4 #[] w fun e j=>e=.returned (.bool true)/\Below w.heap.size w j:=by
 have d:=J (Qm a c hF bS (by unfold maxLen;decide) w g f);rw[Yj]at d;clear hF g f;go_enter func4,ntmps4;go_wp2_with fail;refine d.o.mono ?_;rintro e m ⟨⟨u,rfl,b⟩,h⟩;have k:(u.toList==({data:=#[102,110,32,109,97,105,110,32,40,32,41,32,123,32,118,97,114,32,112,32,59,32,112,32,61,32,38,32,112,32,46,32,51,32,59,32,125]}:ByteArray).toList)=true:=by rw[jS,jS,b];decide
 have l:(u.toList==bR)=true:=by rw[jS,b];decide
 have i:=J h;clear b h;go_wp2;go_ret;exact⟨rfl,i.o⟩
section
variable(a:World)(b:Nat)(l:Option Addr)(m o:Nat)(c:Option Addr)(d f:Nat)(g:Option Addr)(i j n:Nat)(w:World)(h:WdS a b (.slice l m o) (.slice c d f) (.slice g i j) (4*n) w)(p:n<=30000)
include h p
theorem MA(t x:Value)(B:Nat)(L:List ByteArray)(s:Au a.heap.size w t L)(u:Au B w x L)(z:L.length<=20000):
 Calls prog 28 #[.pointer (some ⟨b,0,none⟩),t,.int .i64 0,x,.bool true] w fun e r=>e=.returned (.bool true)/\WdS a b (.slice l m o) (.slice c d f) (.slice g i j) (4*(n+1)) r/\JK w r:=by
 have G:=J (UI a.heap.size B t x L w s u z);have F:=J (fun r (k:O kD w r)=>PE a b l m o c d f g i j n r (h.s9 k) p t L (Ac s k (fun _ _ q=>q)) z);obtain⟨M,K,N,rfl⟩:=Ad s;obtain⟨P,Q,R,rfl⟩:=Ad u;clear s u h;rcases Nat.eq_zero_or_pos K with rfl|S
 all_goals
  go_enter func28,ntmps28;go_upto_region 3 with(go_at_call 10;refine(K8 _ _).mono ?_;rintro e r ⟨rfl,v⟩;have v:=v.symm;subst v);go_wp2_with fail;refine G.o.mono ?_;rintro e U ⟨rfl,C⟩;have y:=J C;clear C;go_wp2_with fail;refine(F.o _ y.o).mono ?_;rintro e V ⟨rfl,E,A⟩;have I:=J E;have H:=J ((JK.of y.o).trans A);clear E A;go_wp2_with fail;go_ret;exact⟨rfl,I.o,H.o⟩
theorem Tq:Calls prog 28 #[.pointer (some ⟨b,0,none⟩),.slice none 0 0,.int .i64 8,.slice none 0 0,.bool false] w fun e q=>e=.returned (.bool true)/\WdS a b (.slice l m o) (.slice c d f) (.slice g i j) (4*(n+1)) q/\JK w q:=by
 have s:=J (PE a b l m o c d f g i j n w h p (.slice none 0 0) [] (gR _ _ _ _) T);clear h;go_enter func28,ntmps28;go_wp2_with(first
  |(go_at_call 10;refine(K8 _ _).mono ?_;rintro e q ⟨rfl,k⟩;have k:=k.symm;subst k)
  |(go_at_call 66;refine s.o.mono ?_;rintro e u ⟨rfl,r⟩;have t:=J r;clear r))
 go_ret;exact⟨rfl,t.o⟩
end
theorem Ww(w:World):Calls prog 25 #[.int .i64 0,.int .i64 1] w fun e h=>e=.returned (.int .i64 0)/\h=w:=by go_enter func25,ntmps25;go_wp2;go_ret;exact⟨rfl,rfl⟩
theorem GM{b d:Type}(g:b->List d)(m:Nat):∀(l:List b),(∀x,x∈l->(g x).length<=m)->(l.flatMap g).length<=l.length*m
 |[],_=>jY
 |a::l,h=>by have e:=h a (.head _);have f:=GM g m l (fun x c=>h x (.tail _ c));rw[List.flatMap_cons,gM,gK,Nat.succ_mul];omega
theorem Yv{P:List PFn}{d pn a:Nat}(Y:AnHy P d pn a):(Ik P pn).length<=20000:=by have b:=GM (fun f=>(List.range (As P f).t8.length).map (vN f)) 12 (List.range P.length) (fun f _=>by rw[iJ,List.length_range];exact Y.ok.ok.t8 f);have c:=GM (fun n=>(List.range 4).map (pN (n+1))) 4 (List.range pn) (fun n _=>by rw[iJ,List.length_range];exact gI _);have e:=Y.ok.cR;have g:=Y.ok.lp;rw[List.length_range]at b c;unfold Ik Yk;rw[iJ,gM];omega
structure OJ(sb pb cn:Nat)(nv ev:Value)(nm:List ByteArray)(w wr:World):Prop where
 bx:W sb #[.pointer (some ⟨pb,0,none⟩),nv,.slice none 0 0,ev,.bool false] 88 wr
 nr:Au w.heap.size wr nv nm
 en:TB w.heap.size cn wr ev
 sb:w.heap.size<=sb
 o:O kD w wr
theorem OJ.push{c i l f g nm w wr}(b:OJ c i l f g nm w wr){Wz x a d}(k:O kD wr Wz)(s:Wz.grownBy a f.ownBlock)(t:a.ownsRow w.heap.size 9 1 d (nm.length+1) (nm.map .string++[.string x])):OJ c i l d g (nm++[x]) w (a.setCell ⟨c,1,none⟩ d)/\W c #[.pointer (some ⟨i,0,none⟩),f,.slice none 0 0,g,.bool false] 88 a/\O kD w a:=by
 have h:O (fun k=>f.ownBlock=some k) wr a:=(k.mono (fun _ _ q=>q.elim)).grown s (fun _ q=>.inl q);have r:O kD w a:=b.o.thn h (fun j n q=>by have:=(World.ownsRow.lt b.nr j q).1;omega);have e:=b.bx.d8 h (fun q=>Am b.nr b.bx T _ q rfl);have p:O (fun k=>k=c) a (a.setCell ⟨c,1,none⟩ d):=(O.refl _ a).t9 1 _;have m:=Ac b.en h (fun j n=>Gq b.en b.nr T j n);have o:Au w.heap.size a d (nm++[x]):=by unfold Au;rw[gM,jP];exact t
 exact⟨⟨e.set 1 _,Ac o p (Am o e T),Ac m p (Am m e T),b.sb,r.cE 1 _ b.sb⟩,e,r⟩
theorem Gj.flagB{B a r p f g o s w}(h:Gj B a r p f g o s w)(b:Bool):Gj B a r p f g o ⟨s.cells,s.ents,b⟩ (w.setCell ⟨a,4,none⟩ (.bool b))/\O (fun k=>k=a) w (w.setCell ⟨a,4,none⟩ (.bool b)):=by
 have c:O (fun k=>k=a) w (w.setCell ⟨a,4,none⟩ (.bool b)):=(O.refl _ w).t9 4 _;have t:∀{v d},Ef B w v d->Ef B (w.setCell ⟨a,4,none⟩ (.bool b)) v d:=fun{v d} q=>by obtain⟨u,e,n,m⟩:=q;exact⟨u,e,Ac n c (Am n h.bx T),fun j i l=>Ac (m j i l) c (Am (m j i l) h.bx T)⟩
 exact⟨⟨h.bx.set 4 _,Ac h.nr c (Am h.nr h.bx T),h.nl,t h.cl,t h.en,h.sb,h.ne,h.ln,h.sh⟩,c⟩
theorem Wm{d z c n:Nat}{y:Value}{o:List ByteArray}{w wc a:World}(b:OJ d z c y (.slice (some ⟨w.heap.size,0,none⟩) c c) o w wc)(C:o.length=n)(I:n<=20000)(G:TB w.heap.size n a (.slice (some ⟨wc.heap.size,0,none⟩) n n))(p:O kD wc a):
 Gj w.heap.size d z y (.slice (some ⟨wc.heap.size,0,none⟩) n n) (.slice (some ⟨w.heap.size,0,none⟩) c c) o ⟨List.replicate n [],List.replicate c [],false⟩ (a.setCell ⟨d,2,none⟩ (.slice (some ⟨wc.heap.size,0,none⟩) n n)):=by
 have f:=b.bx.d8 p id;have i:O (fun k=>k=d) a (a.setCell ⟨d,2,none⟩ (.slice (some ⟨wc.heap.size,0,none⟩) n n)):=(O.refl _ a).t9 2 _;have A:∀{v m},Ef w.heap.size a v m->Ef w.heap.size (a.setCell ⟨d,2,none⟩ (.slice (some ⟨wc.heap.size,0,none⟩) n n)) v m:=fun{v m} q=>by obtain⟨H,e,x,t⟩:=q;exact⟨H,e,Ac x i (Am x f T),fun j r s=>Ac (t j r s) i (Am (t j r s) f T)⟩
 have u:=Ac b.nr p (fun _ _ q=>q);refine⟨f.set 2 _,Ac u i (Am u f T),Z,A G.rows,A (TB.rows (Ac b.en p (fun _ _ q=>q))),b.sb,fun g h E F=>?_,by rw[List.length_replicate];exact C.symm,fun l B=>?_⟩
 .cases E;cases F;have:=Ae b.bx;have:=b.sb;show wc.heap.size≠w.heap.size;omega
 .obtain rfl:=List.eq_of_mem_replicate B;exact⟨gV _,List.Pairwise.nil⟩
theorem Wj(P:List PFn)(g f:Nat)(b:Bool):QX P g f ⟨List.replicate (Ik P g).length [],List.replicate f [],b⟩ where
 cl:=List.length_replicate
 cs:=fun l d=>by obtain rfl:=List.eq_of_mem_replicate d;exact List.Pairwise.nil
 ci:=fun i l c a _ x e=>by obtain rfl:=List.eq_of_mem_replicate (List.mem_of_getElem? a);cases e
 el:=List.length_replicate
 es:=fun l d=>by obtain rfl:=List.eq_of_mem_replicate d;exact List.Pairwise.nil
 ei:=fun i l a x e=>by obtain rfl:=List.eq_of_mem_replicate (List.mem_of_getElem? a);cases e
theorem OS.bY{n B x r b g t}{U:Nat->Prop}{v z y s w A}(h:OS n B U v z y s x r w)(j:O (fun k=>k=b) w A)(f:W b g t w)(a:t≠47/\t≠53/\t≠92/\t≠3/\t≠49/\t≠9):OS n B U v z y s x r A:=by
 have m:∀(k:Nat) (c:Array Value) (u:TypeId) (d:Nat×Nat),k=b->w.heap[k]? =some (.cells c u d)->u=t:=fun k c u d e q=>by subst e;unfold W at f;rw[f]at q;cases q;rfl
 refine⟨?_,h.fn.d8 j (fun k i q=>?_) (fun k c u d o p=>by rw[m k c u d o p];exact⟨a.2.2.2.1,a.2.2.2.2.1,a.2.2.2.2.2⟩),h.st.d8 j (fun k i q=>?_) (fun k c u d o p=>by rw[m k c u d o p];exact⟨a.2.2.2.1,a.2.2.2.2.1⟩)⟩
 .have:=h.pr;unfold BZ at this⊢;rw[j.block n (Ae this) (fun q=>a.1 (m _ _ _ _ q this).symm)];exact this
 .obtain⟨g,l,_⟩:=h.fn;exact Am l f a.2.1 k i q
 .obtain⟨g,l,_⟩:=h.st;exact Am l f a.2.2.1 k i q
theorem Gj.at_box{B z x u i l r s w g b A t}(h:Gj B z x u i l r s w)(c:O (fun k=>k=b) w g)(a:W b A t w)(d:t≠88/\t≠9/\t≠51):Gj B z x u i l r s g:=by
 have y:∀{v f},Ef B w v f->Ef B g v f:=fun{v f} q=>by obtain⟨C,e,p,o⟩:=q;exact⟨C,e,Ac p c (Am p a d.2.2),fun j m n=>Ac (o j m n) c (Am (o j m n) a d.2.1)⟩
 exact⟨h.bx.d8 c (fun q=>W.ne h.bx a (fun e=>d.1 e.symm) q),Ac h.nr c (Am h.nr a d.2.1),h.nl,y h.cl,y h.en,h.sb,h.ne,h.ln,h.sh⟩
abbrev CD(a c:Nat):Value:=.slice (some ⟨a,0,none⟩) 1 c
structure ZU(P:List PFn)(mn pn cn:Nat)(rf:List RF)(fs:List FS)(w1:World)(wb rp sb pb Bp B:Nat)(U:Nat->Prop)(fv sv nv cv ev:Value)(s:Ls)(ra rc la lc pa pc:Nat):Prop where
 bx:W wb #[CD ra rc,CD la lc,CD pa pc,.slice none 0 0] 29 w1
 r0:w1.ownsRow 0 34 1 (CD ra rc) 1 [.pointer (some ⟨rp,0,none⟩)]
 r1:w1.ownsRow 0 42 1 (CD la lc) 1 [.pointer (some ⟨sb,0,none⟩)]
 r2:w1.ownsRow 0 37 1 (CD pa pc) 1 [.pointer (some ⟨pb,0,none⟩)]
 rs:Fu P mn pn cn rp w1
 ls:Gj B sb pb nv cv ev (Ik P pn) s w1
 li:QX P pn cn s
 le:(least P).le (Ow P pn s)
 ru:OS pb Bp U fv sv rf fs pn cn w1
 K:LsK P mn pn cn rf fs
 hv:∀f (h:f<rf.length),rf[f].t8=(As P f).t8
 tl:0≠wb
 it:∀Wz,O (fun k=>k=wb) w1 Wz->ItOk Wz
 st:SrtAll
structure bV(P:List PFn)(mn pn cn:Nat)(rf:List RF)(fs:List FS)(wb rp sb pb Bp B:Nat)(U:Nat->Prop)(fv sv nv cv ev:Value)(s:Ls)(ra rc la lc pa pc:Nat)(w:World):Prop where
 b0:w.cell? ⟨wb,0,none⟩=some (CD ra rc)
 b1:w.cell? ⟨wb,1,none⟩=some (CD la lc)
 b2:w.cell? ⟨wb,2,none⟩=some (CD pa pc)
 lb:wb<w.heap.size
 r0:w.cell? ⟨ra,0,none⟩=some (.pointer (some ⟨rp,0,none⟩))
 r1:w.cell? ⟨la,0,none⟩=some (.pointer (some ⟨sb,0,none⟩))
 r2:w.cell? ⟨pa,0,none⟩=some (.pointer (some ⟨pb,0,none⟩))
 l0:ra<w.heap.size
 l1:la<w.heap.size
 l2:pa<w.heap.size
 rs:Fu P mn pn cn rp w
 ls:Gj B sb pb nv cv ev (Ik P pn) s w
 ru:OS pb Bp U fv sv rf fs pn cn w
 it:ItOk w
theorem ZU.at{P p t j y m F h z A r i B U o E q k l s d g b e c f n w}(C:ZU P p t j y m F h z A r i B U o E q k l s d g b e c f)(S:WdS F h (CD d g) (CD b e) (CD c f) n w):bV P p t j y m h z A r i B U o E q k l s d g b e c f w:=by obtain⟨G,H,a,_⟩:=S.hd;have u:=Ac C.r0 S.o (Am C.r0 C.bx T);have v:=Ac C.r1 S.o (Am C.r1 C.bx T);have x:=Ac C.r2 S.o (Am C.r2 C.bx T);exact⟨a.cell 0,a.cell 1,a.cell 2,Ae a,u.cellAt 0 T,v.cellAt 0 T,x.cellAt 0 T,(u.lt d rfl).2,(v.lt b rfl).2,(x.lt c rfl).2,C.rs.bY S.o C.bx T C.tl,C.ls.at_box S.o C.bx T,C.ru.bY S.o C.bx T,C.it w S.o⟩
theorem Gj.bY{B f p o c d n s w g b t}{a:Array Value}(h:Gj B f p o c d n s w)(l:DY f c d w g)(q:W b a t w)(i:t≠88)(j:t≠51):W b a t g:=q.d8 l fun k=>by obtain⟨_,r,v,u,e,m⟩:=h.own k;unfold W at q;rw[q]at e;cases e;exact m.elim i j
theorem Gj.row{B a d y x b c u s w g v e f n}{i:List Value}(h:Gj B d y x b c u s w)(p:DY d b c w g)(q:w.ownsRow a e f v n i)(j:e≠88)(l:e≠51):g.ownsRow a e f v n i:=Ai q p fun k A F o z=>by obtain⟨_,C,t,E,m,r⟩:=h.own o;rw[m]at z;cases z;exact r.elim j l
theorem OB:∀(l:List Tk) (i:Nat) (_:i<l.length) (j:Nat),j<3->(Bc l)[i*3+j]? =(Cz l[i])[j]?
 |[],i,h,_,_=>by simp at h
 |t::l,0,_,j,a=>by unfold Bc;rw[List.flatMap_cons,Nat.zero_mul,iO,jJ (by simpa[Cz]using a)];rfl
 |t::l,i+1,h,j,a=>by
  unfold Bc;rw[List.flatMap_cons,jI (by simp[Cz];omega)];have e:(i+1)*3+j-(Cz t).length=i*3+j:=by simp[Cz];omega
  rw[e];exact OB l i (by simpa using h) j a
theorem CE.get{B w a c}{l:List Tk}(h:CE B w (.slice a l.length c) l){i:Nat}(b:i<l.length):∃g,a=some ⟨g,0,none⟩/\g<w.heap.size/\∀j,j<3->w.cell? ⟨g,i*3+j,none⟩=(Cz l[i])[j]? :=by obtain⟨g,rfl⟩:=Ap h Z;refine⟨g,rfl,(h.lt g rfl).2,fun j d=>?_⟩;rw[h.cellAt (i*3+j) Z,OB l i b j d]
structure XI(P:List PFn)(pn cn B sb pb Bp:Nat)(nv cv ev:Value)(w0 w:World)(b4 b6:Nat)(xa fa:Array Value)(av tv:Value)(al tl:List Tk)(s:Ls)(wr:World):Prop where
 x:KQ P pn cn B sb pb nv cv ev w0 s wr
 o:DY sb cv ev w wr
 b4:W b4 xa 92 wr
 b6:W b6 fa 53 wr
 ar:CE Bp wr av al
 tk:CE Bp wr tv tl
theorem XI.next{P g d B c f j e a b v w n p x q m u l t s r wr i}(h:XI P g d B c f j e a b v w n p x q m u l t s wr)(k:QY P g d B c f e a b r i)(o:DY c a b wr i):XI P g d B c f j e a b v w n p x q m u l t r i:=
 ⟨h.x.next k o,h.o.trans o,h.x.p.m.bY o h.b4 T T,h.x.p.m.bY o h.b6 T T,h.x.p.m.row o h.ar T T,h.x.p.m.row o h.tk T T⟩
theorem XI.s9{P m f B n l a k g i r w d e u j c q b p s wr t}(h:XI P m f B n l a k g i r w d e u j c q b p s wr)(o:O kD wr t):XI P m f B n l a k g i r w d e u j c q b p s t:=h.next (h.x.p.s9 o) (DY.of o)
theorem M8{P:List PFn}{mn pn cn:Nat}{rf:List RF}{fs:List FS}(K:LsK P mn pn cn rf fs){B H pb Bp pl ca:Nat}{nv cv ev:Value}{U:Nat->Prop}{fv sv:Value}{w0:World}(G:XB pb Bp B U fv sv rf fs pl ca w0){s:Ls}{w:World}(h:KQ P pn cn B H pb nv cv ev w0 s w){u:FS}{r:Rl}(M:MxR P u r)(hk:r.s.kind=7\/r.s.kind=8){g:Nat}(hg:g<P.length)(hp:(As P g).u9=r.s.args.length)(hE:Dj P r g (least P))(hu:XC 4000 u)(av bv ov:Value)(c4:CE Bp w av u.args)(i2:∃a l c,bv=.slice a l c)(i5:∃a l c,ov=.slice a l c):
 Calls prog 61 #[.pointer (some ⟨H,0,none⟩),.agg (Bo u av bv ov),.int .i64 g] w fun e d=>e=.returned (.tuple #[])/\GG P pn cn B H pb nv cv ev s w d (Dj P r g):=by
 obtain⟨I,V,N,rfl⟩:=i2;obtain⟨L,Y,Q,rfl⟩:=i5;obtain⟨a1,l1,E,rfl⟩:=Ad c4;have i3:=Ag c4;subst i3;have b2:g<rf.length:=by rw[K.len];exact hg
 have d8:=(K.arx M hk).1;have e8:rf[g].cG.length=u.args.length:=by rw[K.tkl g b2,hp,d8]
 have k4:=K.cR;have k1:=(K.st M).cR;have b5:=J (G.at h.low);have HX:=J h;have v:=J K;have HG:=J G;have HM:=J M;have a9:=J hk;have d5:=J hE;have d4:=J c4;have HU:=J hu;have HP:=J hp;have s0:=h.p.m.bx.cell 0;have d2:=Ae h.p.m.bx;have f0:=Ak b5.o.pr 0;have lp:=Ae b5.o.pr;obtain⟨cs,a0,_⟩:=b5.o.fn;obtain⟨ga,gl,gc,rfl⟩:=Ad a0;have c8:=Ag a0;subst c8;obtain⟨fg,rfl⟩:=Ap a0 Z;have lg:=(a0.lt fg rfl).2;obtain⟨tv,j4,vv,t,c5,d9,e9⟩:=b5.o.fn.get b2;obtain⟨t1,t2,t3,rfl⟩:=Ad c5;have i6:=Ag c5;subst i6;obtain⟨e1,e2,e3,rfl⟩:=Ad d9;obtain⟨v1,v2,v3,rfl⟩:=Ad e9;have n0:=t 0 T;have n1:=t 1 T;have n2:=t 2 T;have n3:=t 3 T;have n4:=t 4 T;have n5:=t 5 T;have n6:=t 6 T;simp only[EH,gH,gF,gG,gX]at s0 f0 n0 n1 n2 n3 n4 n5 n6;have ti:(g:Int)<(rf.length:Int):=Z;have b1:=J c5;rw[e8]at n3 b1;obtain⟨F,hF⟩:∃x,rf[g]=x:=⟨_,rfl⟩;have HF:=J hF;rw[hF]at n0 n1 n2 n5 b1;clear t a0 c5 d9 e9 h K G M hk hE c4 hu hp e8 d8 hF;go_enter func61,ntmps61;have B4:=J ((W.new w (Bo u (.slice a1 u.args.length E) (.slice I V N) (.slice L Y Q)) 92).alloc (.cells (EH F (.slice t1 u.args.length t3) (.slice e1 e2 e3) (.slice v1 v2 v3)) 53));have B6:D (W (w.heap.size+1) (EH F (.slice t1 u.args.length t3) (.slice e1 e2 e3) (.slice v1 v2 v3)) 53 ((w.alloc (.cells (Bo u (.slice a1 u.args.length E) (.slice I V N) (.slice L Y Q)) 92)).alloc (.cells (EH F (.slice t1 u.args.length t3) (.slice e1 e2 e3) (.slice v1 v2 v3)) 53))):=by have:=W.new (w.alloc (.cells (Bo u (.slice a1 u.args.length E) (.slice I V N) (.slice L Y Q)) 92)) (EH F (.slice t1 u.args.length t3) (.slice e1 e2 e3) (.slice v1 v2 v3)) 53;simp only[World.size_alloc]at this;exact this
 have AL:=J (((O.refl kD w).alloc (.cells (Bo u (.slice a1 u.args.length E) (.slice I V N) (.slice L Y Q)) 92)).alloc (.cells (EH F (.slice t1 u.args.length t3) (.slice e1 e2 e3) (.slice v1 v2 v3)) 53));go_upto_region 2 with fail;change Code.wp _ _ _ _ ((w.alloc (.cells (Bo u (.slice a1 u.args.length E) (.slice I V N) (.slice L Y Q)) 92)).alloc (.cells (EH F (.slice t1 u.args.length t3) (.slice e1 e2 e3) (.slice v1 v2 v3)) 53));generalize (w.alloc (.cells (Bo u (.slice a1 u.args.length E) (.slice I V N) (.slice L Y Q)) 92)).alloc (.cells (EH F (.slice t1 u.args.length t3) (.slice e1 e2 e3) (.slice v1 v2 v3)) 53)=h5 at B4 B6 AL⊢;generalize i1:w.heap.size+1=b6 at B6⊢;generalize i0:w.heap.size=f at B4⊢;have d3:D (XI P pn cn B H pb Bp nv cv ev w0 w f b6 (Bo u (.slice a1 u.args.length E) (.slice I V N) (.slice L Y Q)) (EH F (.slice t1 u.args.length t3) (.slice e1 e2 e3) (.slice v1 v2 v3)) (.slice a1 u.args.length E) (.slice t1 u.args.length t3) u.args F.cG s h5):=⟨HX.o.s9 AL.o,DY.of AL.o,B4.o,B6.o,Ac d4.o AL.o (fun _ _ q=>q),Ac b1.o AL.o (fun _ _ q=>q)⟩;have a7:D (F.cG.length=u.args.length):=(Ag b1.o).symm;clear B4 B6 AL d4 b1 n0 n1 n2 n3 n4 n5 n6 s0 f0 d2 lp lg i0 i1 ti;go_wp2_with fail;go_loopw[7] (fun i wr=>∃(k:Nat) (s':Ls),k<=u.args.length/\i=.int .i64 k/\D (XI P pn cn B H pb Bp nv cv ev w0 w f b6 (Bo u (.slice a1 u.args.length E) (.slice I V N) (.slice L Y Q)) (EH F (.slice t1 u.args.length t3) (.slice e1 e2 e3) (.slice v1 v2 v3)) (.slice a1 u.args.length E) (.slice t1 u.args.length t3) u.args F.cG s' wr)/\D (Fq P pn cn s s' (fun S=>∀i a,i<k->r.s.args[i]? =some a->S.F (vN r.f a) (vN g i)))) (fun i _=>u.args.length-(intOf i).toNat)
 case atStart=>exact⟨0,s,Z,rfl,d3,(Fq.rf HX.o.p.i).to fun _ _ i a q=>Z⟩
 case round=>
  clear d3;obtain⟨k,s',hk,rfl,p,NX⟩:=hrel;by_cases a4:k<u.args.length
  .have tk:decide ((k:Int)<(u.args.length:Int))=true:=jX;obtain⟨ag,rfl,k5,c0⟩:=p.o.ar.get a4;have c6:D (CE Bp wr (.slice t1 F.cG.length t3) F.cG):=by rw[a7.o];exact p.o.tk
   obtain⟨tg,rfl,k6,e7⟩:=c6.o.get (i:=k) (by rw[a7.o];exact a4);have g0:=c0 0 T;have g1:=c0 1 T;have g2:=c0 2 T;have g3:=e7 0 T;simp only[Cz,gF,gG,gX]at g0 g1 g2 g3;have d1:k<r.s.args.length:=by rw[<-(v.o.arx HM.o a9.o).1];exact a4
   have e4:k<rf[g].cG.length:=by rw[HF.o,a7.o];exact a4
   have hx:=(v.o.arx HM.o a9.o).2 k a4 d1;have hy:=v.o.pax b2 e4;obtain⟨A,hA⟩:∃x,u.args[k]=x:=⟨_,rfl⟩;have h7:A.d9.size<=4000:=by rw[<-hA];exact HU.o.2.2 _ (gQ _)
   rw[hA]at g0 g1 g2 hx;have h8:∃Tt,(F.cG[k]'(by rw[a7.o];exact a4)).d9=Tt/\Tt.size<=4000/\F.name.d9++⟨#[46]⟩++Tt=BU P (vN g k)/\F.name.d9.size<=4000:=by
    refine⟨_,rfl,?_,?_,?_⟩
    .have:=v.o.tkt g b2 k e4;simp only[HF.o]at this;rw[this];exact v.o.hy.nm.t8 _ _
    .have:=hy.1;simp only[HF.o]at this;exact this
    .have:=v.o.name g b2;rw[HF.o]at this;rw[this];exact v.o.hy.nm.name _
   obtain⟨Tt,c7,j8,d7,j9⟩:=h8;rw[c7]at g3;have b0:D (∀b,O kD wr b->Calls prog 58 #[.pointer (some ⟨H,0,none⟩),.agg (Bo u (.slice (some ⟨ag,0,none⟩) u.args.length E) (.slice I V N) (.slice L Y Q)),.agg (XH A)] b fun e d=>e=.returned (.string (BU P (vN r.f r.s.args[k])))/\O kD b d):=fun b R=>by have:=Hn HG.o (p.o.s9 R).x u (.slice (some ⟨ag,0,none⟩) u.args.length E) (.slice I V N) (.slice L Y Q) ⟨_,_,_,rfl⟩ ⟨_,_,_,rfl⟩ ⟨_,_,_,rfl⟩ A (v.o.ix HM.o) h7;rw[LY,hx.1]at this;exact this
   have a6:D (∀b,O kD wr b->Calls prog 60 #[.pointer (some ⟨H,0,none⟩),.string (BU P (vN r.f r.s.args[k])),.string (F.name.d9++{data:=#[46]}++Tt)] b fun e d=>e=.returned (.tuple #[])/\GG P pn cn B H pb nv cv ev s' b d (fun S=>AK P pn (vN g k)->S.F (vN r.f r.s.args[k]) (vN g k))):=fun b R=>GJ v.o.nm v.o.hy B H pb nv cv ev s' b (p.o.x.p.s9 R) _ _ rfl d7 (.inl hx.2) (.inl hy.2) (fun _ _=>d5.o.1 k _ (gL d1))
   have g9:=J hy.2;obtain⟨X,hX⟩:∃x,BU P (vN r.f r.s.args[k])=x:=⟨_,rfl⟩;rw[hX]at b0 a6;have HC:D (∀b,DY H cv ev wr b->b.cell? ⟨f,0,none⟩=some (.int .i64 u.kind)/\b.cell? ⟨f,1,none⟩=some (.string u.p.d9)/\b.cell? ⟨f,2,none⟩=some (.int .i64 u.p.pos)/\b.cell? ⟨f,3,none⟩=some (.int .i64 u.p.sort)/\b.cell? ⟨f,4,none⟩=some (.string u.q.d9)/\b.cell? ⟨f,5,none⟩=some (.int .i64 u.q.pos)/\b.cell? ⟨f,6,none⟩=some (.int .i64 u.q.sort)/\b.cell? ⟨f,7,none⟩=some (.int .i64 u.field)/\b.cell? ⟨f,8,none⟩=some (.slice (some ⟨ag,0,none⟩) u.args.length E)/\b.cell? ⟨f,9,none⟩=some (.int .i64 u.l7)/\b.cell? ⟨f,10,none⟩=some (.slice I V N)/\b.cell? ⟨f,11,none⟩=some (.slice L Y Q)/\b.cell? ⟨f,12,none⟩=some (.int .i64 u.br)/\b.cell? ⟨f,13,none⟩=some (.int .i64 u.dG)/\b.cell? ⟨f,14,none⟩=some (.int .i64 u.cS)/\b.cell? ⟨b6,0,none⟩=some (.string F.name.d9)/\b.cell? ⟨b6,3,none⟩=some (.slice (some ⟨tg,0,none⟩) u.args.length t3)/\b.cell? ⟨ag,k*3,none⟩=some (.string A.d9)/\b.cell? ⟨ag,k*3+1,none⟩=some (.int .i64 A.pos)/\b.cell? ⟨ag,k*3+2,none⟩=some (.int .i64 A.sort)/\b.cell? ⟨tg,k*3,none⟩=some (.string Tt)):=fun b R=>by
    have m:=p.o.x.p.m.bY R p.o.b4 T T;have h6:=p.o.x.p.m.bY R p.o.b6 T T;have ha:=p.o.x.p.m.row R p.o.ar T T;have ht:=p.o.x.p.m.row R c6.o T T;have ga:∀j,j<3->b.cell? ⟨ag,k*3+j,none⟩=(Cz A)[j]? :=fun j hj=>by rw[ha.cellAt (k*3+j) Z,OB u.args k a4 j hj,hA]
    have gt:b.cell? ⟨tg,k*3+0,none⟩=some (.string Tt):=by rw[ht.cellAt (k*3+0) (by rw[a7.o];omega),OB F.cG k (by rw[a7.o];exact a4) 0 T,<-c7];rfl
    exact⟨m.cell 0,m.cell 1,m.cell 2,m.cell 3,m.cell 4,m.cell 5,m.cell 6,m.cell 7,m.cell 8,m.cell 9,m.cell 10,m.cell 11,m.cell 12,m.cell 13,m.cell 14,h6.cell 0,h6.cell 3,ga 0 T,ga 1 T,ga 2 T,gt⟩
   clear hx hy hA c7 d7 hX c0 e7 c6;have k2:¬(9223372036854775807<F.name.d9.size+1):=Z;have k3:¬(9223372036854775807<F.name.d9.size+1+Tt.size):=Z;obtain⟨y0,y1,y2,y3,y4,y5,y6,y7,y8,y9,n9,o0,o1,o2,o6,o7,o8,o9,p0,p1,p2⟩:=HC.o wr (O.refl _ _);clear g0 g1 g2 g3;go_wp2_with fail;go_region_held3(fun d=>d.cell? ⟨f,0,none⟩=some (.int .i64 u.kind)/\d.cell? ⟨f,1,none⟩=some (.string u.p.d9)/\d.cell? ⟨f,2,none⟩=some (.int .i64 u.p.pos)/\d.cell? ⟨f,3,none⟩=some (.int .i64 u.p.sort)/\d.cell? ⟨f,4,none⟩=some (.string u.q.d9)/\d.cell? ⟨f,5,none⟩=some (.int .i64 u.q.pos)/\d.cell? ⟨f,6,none⟩=some (.int .i64 u.q.sort)/\d.cell? ⟨f,7,none⟩=some (.int .i64 u.field)/\d.cell? ⟨f,8,none⟩=some (.slice (some ⟨ag,0,none⟩) u.args.length E)/\d.cell? ⟨f,9,none⟩=some (.int .i64 u.l7)/\d.cell? ⟨f,10,none⟩=some (.slice I V N)/\d.cell? ⟨f,11,none⟩=some (.slice L Y Q)/\d.cell? ⟨f,12,none⟩=some (.int .i64 u.br)/\d.cell? ⟨f,13,none⟩=some (.int .i64 u.dG)/\d.cell? ⟨f,14,none⟩=some (.int .i64 u.cS)/\d.cell? ⟨b6,0,none⟩=some (.string F.name.d9)/\d.cell? ⟨b6,3,none⟩=some (.slice (some ⟨tg,0,none⟩) u.args.length t3)/\d.cell? ⟨ag,k*3,none⟩=some (.string A.d9)/\d.cell? ⟨ag,k*3+1,none⟩=some (.int .i64 A.pos)/\d.cell? ⟨ag,k*3+2,none⟩=some (.int .i64 A.sort)/\d.cell? ⟨tg,k*3,none⟩=some (.string Tt)) (go_keep)
    (first
      |(go_at_call 58;refine(b0.o _ jV).mono ?_;rintro e w3 ⟨rfl,o3⟩;have O3:=J (O.trans (X:=kD) (a:=wr) jV o3);clear o3;obtain⟨z0,z1,z2,z3,z4,z5,z6,z7,z8,z9,z10,z11,z12,z13,z14,z15,z16,z17,z18,z19,z20⟩:=HC.o w3 (DY.of O3.o))
      |(go_at_call 60;refine(a6.o _ (O.trans (X:=kD) (a:=wr) O3.o jV)).mono ?_;rintro e w5 ⟨rfl,s5,p5,x5,o5⟩;have O5:=J (DY.trans (DY.of (O.trans (X:=kD) (a:=wr) O3.o jV)) o5);have P5:=J p5;have X5:=J x5;clear o5 p5 x5;obtain⟨q0,q1,q2,q3,q4,q5,q6,q7,q8,q9,k7,k8,k9,l0,l4,l5,l6,l7,l8,n7,n8⟩:=HC.o w5 O5.o))
   all_goals
    have N5:D (Fq P pn cn s s5 (fun S=>∀i a,i<k+1->r.s.args[i]? =some a->S.F (vN r.f a) (vN g i))):=by
     refine(NX.o.then X5.o (fun S h0 b7 q i a h1 h2=>b7.f _ _ (q i a h1 h2))).to fun _ q i a h1 h2=>?_
     rcases iW i k with z|z
     .exact q.1 i a z h2
     .obtain rfl:i=k:=Z;rw[gL d1]at h2;cases h2;exact q.2 g9.o
    have C5:=J (p.o.next P5.o O5.o);clear P5 X5 O5 O3 p NX;go_wp2_with fail;go_roundw
    case rel=>exact⟨k+1,s5,Z,by go_num,C5,N5⟩
    case measure=>simp[intOf];omega
  .have tk:decide ((k:Int)<(u.args.length:Int))=false:=jX;have b8:=p.o.b4.cell 8;have i9:=Ae p.o.b4;simp only[Bo,gH,gF,gG]at b8;have N0:D (Fq P pn cn s s' (fun S=>(∀i a,r.s.args[i]? =some a->S.F (vN r.f a) (vN g i))/\∀(C:Nat) (u':FS) (o:Rl),C<0->fs[C]? =some u'->MxR P u' o->o.s.kind=10->o.f=g->S.F o.sr r.tg)):=NX.o.to fun _ q=>⟨fun i a h2=>q i a (by have:=(List.getElem?_eq_some_iff.1 h2).1;have:=(v.o.arx HM.o a9.o).1;omega) h2,fun C _ _ h=>Z⟩
   go_wp2_with fail;clear b8 i9;go_loopw[8] (fun i wr=>∃(j:Nat) (s':Ls),j<=fs.length/\i=.int .i64 j/\D (XI P pn cn B H pb Bp nv cv ev w0 w f b6 (Bo u (.slice a1 u.args.length E) (.slice I V N) (.slice L Y Q)) (EH F (.slice t1 u.args.length t3) (.slice e1 e2 e3) (.slice v1 v2 v3)) (.slice a1 u.args.length E) (.slice t1 u.args.length t3) u.args F.cG s' wr)/\D (Fq P pn cn s s' (fun S=>(∀i a,r.s.args[i]? =some a->S.F (vN r.f a) (vN g i))/\∀(C:Nat) (u':FS) (o:Rl),C<j->fs[C]? =some u'->MxR P u' o->o.s.kind=10->o.f=g->S.F o.sr r.tg))) (fun i _=>fs.length-(intOf i).toNat)
   case atStart=>exact⟨0,s',Z,rfl,p,N0⟩
   case round=>
    clear p NX N0;obtain⟨j,s2,hj,rfl,p,NX⟩:=hrel;have a8:=HG.o.at p.o.x.low;have s0:=p.o.x.p.m.bx.cell 0;have d2:=Ae p.o.x.p.m.bx;have f1:=Ak a8.pr 1;have lp:=Ae a8.pr;obtain⟨rs,a0,_⟩:=a8.st;obtain⟨j5,j7,j6,rfl⟩:=Ad a0;have c8:=Ag a0;subst c8;simp only[gH,gF,gG]at s0 f1;by_cases e0:j<fs.length
    .have tj:decide ((j:Int)<(fs.length:Int))=true:=jX;obtain⟨sg,rfl⟩:=Ap a0 Z;have j0:=(a0.lt sg rfl).2;obtain⟨u1,ybv,yov,t,f2,f3,f4⟩:=a8.st.get e0;obtain⟨y1,y2,y3,rfl⟩:=Ad f2;obtain⟨y4,y5,y6,rfl⟩:=Ad f3;obtain⟨y7,y8,y9,rfl⟩:=Ad f4;obtain⟨y,hy⟩:∃y,fs[j]=y:=⟨_,rfl⟩;rw[hy]at t;have HY:D (fs[j]? =some y):=by rw[gL e0,hy];exact J rfl
     have i8:=v.o.z y (by rw[<-hy];exact gQ _);have i7:=v.o.cS j y HY.o;have m0:=t 0 T;have m1:=t 1 T;have m2:=t 2 T;have m3:=t 3 T;have m4:=t 4 T;have m5:=t 5 T;have m6:=t 6 T;have m7:=t 7 T;have m8:=t 8 T;have m9:=t 9 T;have f6:=t 10 T;have f7:=t 11 T;have f8:=t 12 T;have f9:=t 13 T;have g4:=t 14 T;simp only[Bo,gH,gF,gG,gX]at m0 m1 m2 m3 m4 m5 m6 m7 m8 m9 f6 f7 f8 f9 g4;have B9:=J (W.new wr (Bo y (.slice y1 y2 y3) (.slice y4 y5 y6) (.slice y7 y8 y9)) 92);have AL:=J ((O.refl kD wr).alloc (.cells (Bo y (.slice y1 y2 y3) (.slice y4 y5 y6) (.slice y7 y8 y9)) 92));clear t f2 f3 f4 hy a0 a8;go_upto_region 10 with fail;change Code.wp _ _ _ _ (wr.alloc (.cells (Bo y (.slice y1 y2 y3) (.slice y4 y5 y6) (.slice y7 y8 y9)) 92));generalize wr.alloc (.cells (Bo y (.slice y1 y2 y3) (.slice y4 y5 y6) (.slice y7 y8 y9)) 92)=W1 at B9 AL⊢;generalize wr.heap.size=n at B9⊢;have C1:=J (p.o.s9 AL.o);clear p AL m0 m1 m2 m3 m4 m5 m6 m7 m8 m9 f6 f7 f8 f9 g4 s0 f1 d2 lp j0;obtain⟨k0,f5⟩:=B9.o.e2 0 14;have l9:=Ae B9.o;simp only[Bo,gH,gF,gG]at k0 f5;by_cases b3:y.kind=11/\y.cS=g
     .obtain⟨a5,c9⟩:=b3;obtain⟨o,M'⟩:∃o,MxR P y o:=by
       rcases v.o.rule j y HY.o with q|q
       .omega
       .exact q
      have d0:o.s.kind=10:=by
       have h1:=M'.kind;have h2:=M'.cR;unfold Du at h1;split at h1
       .omega
       .split at h1<;>omega
      have e6:o.f=g:=by rw[<-M'.cS];exact c9
      have g5:((y.kind:Int)==11)=true:=by simp[a5]
      have j1:((y.cS:Int)==(g:Int))=true:=by simp[c9]
      have hx:=v.o.srx M' Z;have hz:=v.o.tgx HM.o (by have:=a9.o;omega) (by have:=a9.o;omega);have b0:D (∀b,O kD W1 b->Calls prog 58 #[.pointer (some ⟨H,0,none⟩),.agg (Bo y (.slice y1 y2 y3) (.slice y4 y5 y6) (.slice y7 y8 y9)),.agg (XH y.q)] b fun e d=>e=.returned (.string (BU P o.sr))/\O kD b d):=fun b R=>by have:=Hn HG.o (C1.o.s9 R).x y (.slice y1 y2 y3) (.slice y4 y5 y6) (.slice y7 y8 y9) ⟨_,_,_,rfl⟩ ⟨_,_,_,rfl⟩ ⟨_,_,_,rfl⟩ y.q i7 i8.2.1;rw[LY,hx.1]at this;exact this
      have d6:D (∀b,O kD W1 b->Calls prog 58 #[.pointer (some ⟨H,0,none⟩),.agg (Bo u (.slice a1 u.args.length E) (.slice I V N) (.slice L Y Q)),.agg (XH u.p)] b fun e d=>e=.returned (.string (BU P r.tg))/\O kD b d):=fun b R=>by have:=Hn HG.o (C1.o.s9 R).x u (.slice a1 u.args.length E) (.slice I V N) (.slice L Y Q) ⟨_,_,_,rfl⟩ ⟨_,_,_,rfl⟩ ⟨_,_,_,rfl⟩ u.p (v.o.ix HM.o) HU.o.1;rw[LY,hz.1]at this;exact this
      have e5:Fg P g o.sr:=⟨o.s,by rw[<-e6];exact M'.rl.2,d0,by rw[<-e6];rfl⟩;have a6:D (∀b,O kD W1 b->Calls prog 60 #[.pointer (some ⟨H,0,none⟩),.string (BU P o.sr),.string (BU P r.tg)] b fun e d=>e=.returned (.tuple #[])/\GG P pn cn B H pb nv cv ev s2 b d (fun S=>AK P pn r.tg->S.F o.sr r.tg)):=fun b R=>GJ v.o.nm v.o.hy B H pb nv cv ev s2 b (C1.o.x.p.s9 R) _ _ rfl rfl (.inl hx.2) (.inl hz.2) (fun _ _=>d5.o.2 _ e5)
      have g6:=J hz.2;have g8:=J M';have g7:=J d0;have j2:=J hx.2;obtain⟨X,hX⟩:∃x,BU P o.sr=x:=⟨_,rfl⟩;obtain⟨j3,hZ⟩:∃x,BU P r.tg=x:=⟨_,rfl⟩;rw[hX]at b0 a6;rw[hZ]at d6 a6;have HC:D (∀b,DY H cv ev W1 b->b.cell? ⟨n,0,none⟩=some (.int .i64 y.kind)/\b.cell? ⟨n,1,none⟩=some (.string y.p.d9)/\b.cell? ⟨n,2,none⟩=some (.int .i64 y.p.pos)/\b.cell? ⟨n,3,none⟩=some (.int .i64 y.p.sort)/\b.cell? ⟨n,4,none⟩=some (.string y.q.d9)/\b.cell? ⟨n,5,none⟩=some (.int .i64 y.q.pos)/\b.cell? ⟨n,6,none⟩=some (.int .i64 y.q.sort)/\b.cell? ⟨n,7,none⟩=some (.int .i64 y.field)/\b.cell? ⟨n,8,none⟩=some (.slice y1 y2 y3)/\b.cell? ⟨n,9,none⟩=some (.int .i64 y.l7)/\b.cell? ⟨n,10,none⟩=some (.slice y4 y5 y6)/\b.cell? ⟨n,11,none⟩=some (.slice y7 y8 y9)/\b.cell? ⟨n,12,none⟩=some (.int .i64 y.br)/\b.cell? ⟨n,13,none⟩=some (.int .i64 y.dG)/\b.cell? ⟨n,14,none⟩=some (.int .i64 y.cS)/\b.cell? ⟨f,0,none⟩=some (.int .i64 u.kind)/\b.cell? ⟨f,1,none⟩=some (.string u.p.d9)/\b.cell? ⟨f,2,none⟩=some (.int .i64 u.p.pos)/\b.cell? ⟨f,3,none⟩=some (.int .i64 u.p.sort)/\b.cell? ⟨f,4,none⟩=some (.string u.q.d9)/\b.cell? ⟨f,5,none⟩=some (.int .i64 u.q.pos)/\b.cell? ⟨f,6,none⟩=some (.int .i64 u.q.sort)/\b.cell? ⟨f,7,none⟩=some (.int .i64 u.field)/\b.cell? ⟨f,8,none⟩=some (.slice a1 u.args.length E)/\b.cell? ⟨f,9,none⟩=some (.int .i64 u.l7)/\b.cell? ⟨f,10,none⟩=some (.slice I V N)/\b.cell? ⟨f,11,none⟩=some (.slice L Y Q)/\b.cell? ⟨f,12,none⟩=some (.int .i64 u.br)/\b.cell? ⟨f,13,none⟩=some (.int .i64 u.dG)/\b.cell? ⟨f,14,none⟩=some (.int .i64 u.cS)):=fun b R=>by have m:=C1.o.x.p.m.bY R C1.o.b4 T T;have h9:=C1.o.x.p.m.bY R B9.o T T;exact⟨h9.cell 0,h9.cell 1,h9.cell 2,h9.cell 3,h9.cell 4,h9.cell 5,h9.cell 6,h9.cell 7,h9.cell 8,h9.cell 9,h9.cell 10,h9.cell 11,h9.cell 12,h9.cell 13,h9.cell 14,m.cell 0,m.cell 1,m.cell 2,m.cell 3,m.cell 4,m.cell 5,m.cell 6,m.cell 7,m.cell 8,m.cell 9,m.cell 10,m.cell 11,m.cell 12,m.cell 13,m.cell 14⟩
      clear hx hz hX hZ a5 c9 e5 M' d0;clear k0 f5;obtain⟨p3,p4,r7,t4,t5,t6,t7,t8,t9,u0,p6,p7,p8,p9,r0,r1,r3,r4,r5,r6,r8,r9,s1,s3,s4,s6,s7,s8,s9,t0⟩:=HC.o W1 (O.refl _ _);go_wp2_with fail;go_region_held3(fun d=>d.cell? ⟨n,0,none⟩=some (.int .i64 y.kind)/\d.cell? ⟨n,1,none⟩=some (.string y.p.d9)/\d.cell? ⟨n,2,none⟩=some (.int .i64 y.p.pos)/\d.cell? ⟨n,3,none⟩=some (.int .i64 y.p.sort)/\d.cell? ⟨n,4,none⟩=some (.string y.q.d9)/\d.cell? ⟨n,5,none⟩=some (.int .i64 y.q.pos)/\d.cell? ⟨n,6,none⟩=some (.int .i64 y.q.sort)/\d.cell? ⟨n,7,none⟩=some (.int .i64 y.field)/\d.cell? ⟨n,8,none⟩=some (.slice y1 y2 y3)/\d.cell? ⟨n,9,none⟩=some (.int .i64 y.l7)/\d.cell? ⟨n,10,none⟩=some (.slice y4 y5 y6)/\d.cell? ⟨n,11,none⟩=some (.slice y7 y8 y9)/\d.cell? ⟨n,12,none⟩=some (.int .i64 y.br)/\d.cell? ⟨n,13,none⟩=some (.int .i64 y.dG)/\d.cell? ⟨n,14,none⟩=some (.int .i64 y.cS)/\d.cell? ⟨f,0,none⟩=some (.int .i64 u.kind)/\d.cell? ⟨f,1,none⟩=some (.string u.p.d9)/\d.cell? ⟨f,2,none⟩=some (.int .i64 u.p.pos)/\d.cell? ⟨f,3,none⟩=some (.int .i64 u.p.sort)/\d.cell? ⟨f,4,none⟩=some (.string u.q.d9)/\d.cell? ⟨f,5,none⟩=some (.int .i64 u.q.pos)/\d.cell? ⟨f,6,none⟩=some (.int .i64 u.q.sort)/\d.cell? ⟨f,7,none⟩=some (.int .i64 u.field)/\d.cell? ⟨f,8,none⟩=some (.slice a1 u.args.length E)/\d.cell? ⟨f,9,none⟩=some (.int .i64 u.l7)/\d.cell? ⟨f,10,none⟩=some (.slice I V N)/\d.cell? ⟨f,11,none⟩=some (.slice L Y Q)/\d.cell? ⟨f,12,none⟩=some (.int .i64 u.br)/\d.cell? ⟨f,13,none⟩=some (.int .i64 u.dG)/\d.cell? ⟨f,14,none⟩=some (.int .i64 u.cS)) (go_keep)
       (first
         |(go_at_call 60;have q9:=O4;refine(a6.o _ (O.trans (X:=kD) (a:=W1) O4.o jV)).mono ?_;rintro e w5 ⟨rfl,s5,p5,x5,o5⟩;have O5:=J (DY.trans (DY.of (O.trans (X:=kD) (a:=W1) O4.o jV)) o5);have P5:=J p5;have X5:=J x5;clear o5 p5 x5;obtain⟨yc0,yc1,yc2,yc3,yc4,yc5,yc6,yc7,yc8,yc9,yc10,yc11,yc12,yc13,yc14,yc15,yc16,yc17,yc18,yc19,yc20,yc21,yc22,yc23,yc24,yc25,yc26,yc27,yc28,yc29⟩:=HC.o w5 O5.o)
         |(go_at_call 58;have q9:=O3;refine(d6.o _ (O.trans (X:=kD) (a:=W1) O3.o jV)).mono ?_;rintro e w4 ⟨rfl,o4⟩;have O4:=J (O.trans (X:=kD) (a:=W1) (O.trans (X:=kD) (a:=W1) O3.o jV) o4);clear o4;obtain⟨yd0,yd1,yd2,yd3,yd4,yd5,yd6,yd7,yd8,yd9,yd10,yd11,yd12,yd13,yd14,yd15,yd16,yd17,yd18,yd19,yd20,yd21,yd22,yd23,yd24,yd25,yd26,yd27,yd28,yd29⟩:=HC.o w4 (DY.of O4.o))
         |(go_at_call 58;refine(b0.o _ jV).mono ?_;rintro e w3 ⟨rfl,o3⟩;have O3:=J (O.trans (X:=kD) (a:=W1) jV o3);clear o3;obtain⟨u2,u3,v7,x2,x3,x4,x6,x7,x8,x9,u4,u5,u6,u7,u8,u9,v0,v4,v5,v6,v8,v9,w1,w2,w6,w7,w8,w9,x0,x1⟩:=HC.o w3 (DY.of O3.o)))
      all_goals
       have N5:D (Fq P pn cn s s5 (fun S=>(∀i a,r.s.args[i]? =some a->S.F (vN r.f a) (vN g i))/\∀(C:Nat) (u':FS) (o:Rl),C<j+1->fs[C]? =some u'->MxR P u' o->o.s.kind=10->o.f=g->S.F o.sr r.tg)):=by
        refine(NX.o.then X5.o (fun S h0 b7 q=>⟨fun i a z=>b7.f _ _ (q.1 i a z),fun C u' r2 z1 z2 z3 z4 z5=>b7.f _ _ (q.2 C u' r2 z1 z2 z3 z4 z5)⟩)).to fun _ q=>⟨q.1.1,fun C u' r2 z1 z2 z3 z4 z5=>?_⟩
        rcases iW C j with z|z
        .exact q.1.2 C u' r2 z z2 z3 z4 z5
        .obtain rfl:C=j:=Z;rw[HY.o]at z2;cases z2;have e1:=v.o.srx z3 Z;have e2:=v.o.srx g8.o (by have:=g7.o;omega);rw[Fi v.o.nm v.o.hy (.inl e1.2) (.inl e2.2) (e1.1.symm.trans e2.1)];exact q.2 g6.o
       have C5:=J (C1.o.next P5.o O5.o);clear P5 X5 O5 O4 O3 C1 NX;go_wp2_with fail;go_roundw
       case rel=>exact⟨j+1,s5,Z,by go_num,C5,N5⟩
       case measure=>simp[intOf];omega
     .have N5:D (Fq P pn cn s s2 (fun S=>(∀i a,r.s.args[i]? =some a->S.F (vN r.f a) (vN g i))/\∀(C:Nat) (u':FS) (o:Rl),C<j+1->fs[C]? =some u'->MxR P u' o->o.s.kind=10->o.f=g->S.F o.sr r.tg)):=NX.o.to fun _ q=>⟨q.1,fun C u' r2 z1 z2 z3 z4 z5=>by
       rcases iW C j with z|z
       .exact q.2 C u' r2 z z2 z3 z4 z5
       .obtain rfl:C=j:=Z;rw[HY.o]at z2;cases z2;refine jO ⟨?_,?_⟩ b3
        .rw[z3.kind,z4];rfl
        .rw[z3.cS,z5]⟩
      by_cases a5:y.kind=11
      .have g5:((y.kind:Int)==11)=true:=by simp[a5]
       have i4:¬y.cS=g:=fun q=>b3 ⟨a5,q⟩
       have j1:((y.cS:Int)==(g:Int))=false:=jX;clear a5 i4 b3;go_wp2_with fail;go_roundw
       case rel=>exact⟨j+1,s2,Z,by go_num,C1,N5⟩
       case measure=>simp[intOf];omega
      .have g5:((y.kind:Int)==11)=false:=jX
       clear a5 b3;go_wp2_with fail;go_roundw
       case rel=>exact⟨j+1,s2,Z,by go_num,C1,N5⟩
       case measure=>simp[intOf];omega
    .have tj:decide ((j:Int)<(fs.length:Int))=false:=jX;have R1:D (GG P pn cn B H pb nv cv ev s w wr (Dj P r g)):=by
      refine⟨s2,p.o.x.p,NX.o.to fun _ q=>⟨q.1,fun x hx=>?_⟩,p.o.o⟩;obtain⟨st,h1,h2,rfl⟩:=hx;rcases v.o.stmt ⟨g,st⟩ ⟨hg,h1⟩with z|⟨kk,uu,z1,z2⟩
      .simp only at z;omega
      .exact q.2 kk uu ⟨g,st⟩ (by have:=(List.getElem?_eq_some_iff.1 z1).1;omega) z1 z2 h2 rfl
     clear p NX a8 a0;go_wp2_with fail;go_end0;exact⟨rfl,R1.o⟩
theorem Xl{P:List PFn}{d a b:Nat}(Y:AnHy P d a b){t:Nat}(h:Er P a t)(c:Py t):AK P a t:=by
 rcases h with q|⟨g,e,rfl⟩
 .exact q
 .have:=Y.ok.cR;unfold Py fN at c;omega
theorem JZ{P:List PFn}{r:Rl}{t:Nat}(b:LP P r)(a:AR r)(h:(least P).I r.at t):Dd P r t (least P):=(En P).fol r t b a h
theorem AD{P:List PFn}{u:FS}{r:Rl}(M:MxR P u r){k:Nat}(h:r.s.kind=k):u.kind=Du k:=by rw[M.kind,h]
theorem Wf{u:FS}(n:Nat)(h:u.kind=n):((u.kind:Int)==2)=decide (n=2)/\((u.kind:Int)==3)=decide (n=3)/\((u.kind:Int)==6)=decide (n=6)/\((u.kind:Int)==7)=decide (n=7)/\((u.kind:Int)==8)=decide (n=8)/\((u.kind:Int)==4)=decide (n=4)/\((u.kind:Int)==5)=decide (n=5)/\((u.kind:Int)==10)=decide (n=10)/\((u.kind:Int)==9)=decide (n=9):=by subst h;refine⟨?_,?_,?_,?_,?_,?_,?_,?_,?_⟩<;>rw[Bool.eq_iff_iff]<;>simp<;>omega
theorem Ng{P:List PFn}{mn F E:Nat}{rf:List RF}{fs:List FS}(K:LsK P mn F E rf fs){B b C:Nat}{A v x:Value}{s:Ls}{w:World}(h:QY P F E B b C A v x s w){u:FS}{r:Rl}(M:MxR P u r)(y:r.s.kind=5\/r.s.kind=9){t:Nat}(ht:(least P).I r.at t)(av bv ov:Value)(a7:∃a l c,av=.slice a l c)(a8:∃a l c,bv=.slice a l c)(a9:∃a l c,ov=.slice a l c)(X Y Q:ByteArray)(hX:X=BU P t)(hZ:Y=BU P r.tg)(hQ:Q=BU P r.sr):
 Calls prog 62 #[.pointer (some ⟨b,0,none⟩),.agg (Bo u av bv ov),.string X,.string Y,.string Q] w fun e d=>e=.returned (.tuple #[])/\GG P F E B b C A v x s w d (Dd P r t):=by
 obtain⟨f,n,j,rfl⟩:=a7;obtain⟨g,o,k,rfl⟩:=a8;obtain⟨i,p,m,rfl⟩:=a9;have I:=(Dl K.hy.ok ht).2;have a0:=(K.tgx M Z Z).2;have a5:=(K.srx M Z).2;have a4:=JZ M.rl (by unfold AR;omega) ht;have U:=J ((O.refl kD w).alloc (.cells (Bo u (.slice f n j) (.slice g o k) (.slice i p m)) 92));have G:=J (W.new w (Bo u (.slice f n j) (.slice g o k) (.slice i p m)) 92);have hP:=h.s9 U.o;have V:D (∀d,GG P F E B b C A v x s (w.alloc (.cells (Bo u (.slice f n j) (.slice g o k) (.slice i p m)) 92)) d (Dd P r t)->GG P F E B b C A v x s w d (Dd P r t)):=fun d ⟨S,L,N,R⟩=>⟨S,L,N,(DY.of U.o).trans R⟩
 rcases y with y|y
 .have k5:((u.kind:Int)==5)=true:=by rw[AD M y];rfl
  have H:D (Calls prog 60 #[.pointer (some ⟨b,0,none⟩),.string X,.string Y] (w.alloc (.cells (Bo u (.slice f n j) (.slice g o k) (.slice i p m)) 92)) fun e d=>e=.returned (.tuple #[])/\GG P F E B b C A v x s (w.alloc (.cells (Bo u (.slice f n j) (.slice g o k) (.slice i p m)) 92)) d (Dd P r t)):=
   (GJ K.nm K.hy B b C A v x s _ hP X Y hX hZ I (.inl a0) (fun q _=>a4.2.1 y (q.isC K.hy.ok.cR K.hy.ok.ok.t8))).mono fun e d ⟨q0,S,L,N,R⟩=>⟨q0,S,L,N.to fun _ z=>⟨fun q=>Z,fun _ _=>z a0,fun q=>Z,fun q=>Z⟩,R⟩
  clear h K M I a0 a5 a4 hP hX hZ hQ ht;go_enter func62,ntmps62;go_upto_region 1 with fail;generalize w.alloc (.cells (Bo u (.slice f n j) (.slice g o k) (.slice i p m)) 92)=a6 at U G H V⊢;have k0:=G.o.cell 0;have lb:=Ae G.o;simp only[Bo,gH,gF]at k0;go_wp2_with fail;refine H.o.mono ?_;rintro e w2 ⟨rfl,q⟩;have R1:=J (V.o _ q);clear q;go_wp2_with fail;go_end0;exact⟨rfl,R1.o⟩
 .have k5:((u.kind:Int)==5)=false:=by rw[AD M y];rfl
  have b0:((u.kind:Int)==10)=true:=by rw[AD M y];rfl
  have H:D (Calls prog 60 #[.pointer (some ⟨b,0,none⟩),.string Q,.string X] (w.alloc (.cells (Bo u (.slice f n j) (.slice g o k) (.slice i p m)) 92)) fun e d=>e=.returned (.tuple #[])/\GG P F E B b C A v x s (w.alloc (.cells (Bo u (.slice f n j) (.slice g o k) (.slice i p m)) 92)) d (Dd P r t)):=
   (GJ K.nm K.hy B b C A v x s _ hP Q X hQ hX (.inl a5) I (fun _ q=>a4.2.2.1 y (q.isC K.hy.ok.cR K.hy.ok.ok.t8))).mono fun e d ⟨q0,S,L,N,R⟩=>⟨q0,S,L,N.to fun _ z=>⟨fun q=>Z,fun q=>Z,fun _ q=>z (Xl K.hy I q),fun q=>Z⟩,R⟩
  clear h K M I a0 a5 a4 hP hX hZ hQ ht;go_enter func62,ntmps62;go_upto_region 1 with fail;generalize w.alloc (.cells (Bo u (.slice f n j) (.slice g o k) (.slice i p m)) 92)=a6 at U G H V⊢;have k0:=G.o.cell 0;have lb:=Ae G.o;simp only[Bo,gH,gF]at k0;go_wp2_with fail;refine H.o.mono ?_;rintro e w2 ⟨rfl,q⟩;have R1:=J (V.o _ q);clear q;go_wp2_with fail;go_end0;exact⟨rfl,R1.o⟩
