/- Part of the proof: ClO LuG LuH LuI. -/
import Derived.Test.YtaningfhibkemaaGreatDoorG45
import Derived.Test.YtaningfhibkemaaGreatDoorRows
import Derived.ProofKit
import Derived.Stop.Joined
import Derived.Stop.LaidErr
import Derived.MakeChecks
import Derived.Lib.LaidTab
set_option maxRecDepth 100000
set_option maxHeartbeats 4000000
namespace Go.Proofs.YtaningfhibkemaaGreatDoor
open Go.RowKit Go.Proofs.Tryz
theorem Tryz.infoPR:(Tryz.prog.info? 34).map (fun i=>(i.zero,i.size,i.bytes))=some (some (.pointer none),1,8):=jW
theorem Tryz.infoPS:(Tryz.prog.info? 42).map (fun i=>(i.zero,i.size,i.bytes))=some (some (.pointer none),1,8):=jW
theorem Tryz.infoPP:(Tryz.prog.info? 37).map (fun i=>(i.zero,i.size,i.bytes))=some (some (.pointer none),1,8):=jW
abbrev Ij:Value:=.slice none 0 0
theorem OZ(s:ByteArray)(f p:Nat)(w:World)(h:Calls prog 13 #[.string s] w fun e b=>e=.returned (.tuple #[.slice none 0 0,Vj,.int .i64 f,.int .i64 p])/\Below w.heap.size w b)(j:f≠0):
 Calls prog 8 #[.string s] w fun e b=>e=.returned (.tuple #[.pointer none,.int .i64 f,.int .i64 p])/\Below w.heap.size w b:=by
 have i:((f:Int) !=0)=true:=jX;have c:=J h;clear h;go_enter func8,ntmps8;go_wp2_with fail;refine c.o.mono ?_;rintro e g ⟨rfl,a⟩;have d:=J (a.trans ((Below.refl w.heap.size g).alloc a.size (.cells #[.slice none 0 0,.int .i64 0] 60)));clear a c;go_wp2;refine gP (v:=.tuple #[.pointer none,.int .i64 f,.int .i64 p]) (by simp[results,results8,go_sem]) rfl ⟨rfl,d.o⟩
theorem Ue(s:ByteArray)(o f p:Nat)(w:World)(c:f≠0)(g:Calls prog 13 #[.string s] w fun e a=>e=.returned (.tuple #[.slice none 0 0,Vj,.int .i64 f,.int .i64 p])/\Below w.heap.size w a)
 (h:∀b,Calls prog 9 #[.string s] b fun e a=>e=.returned (.tuple #[.pointer none,.slice none 0 0,.int .i64 f,.int .i64 p])/\Below b.heap.size b a):
 Calls prog 5 #[.pointer (some ⟨o,0,none⟩),.string s] w fun e a=>e=.returned (.bool true)/\O kD w a:=by
 have r:((f:Int) !=(f:Int))=false:=jY;have t:((p:Int) !=(p:Int))=false:=jY;have q:((f:Int) !=0)=true:=by simp[c]
 have k:=J (OZ s f p w g c);have l:=J h;clear g h c;go_enter func5,ntmps5;go_wp2_with(first
  |(go_at_call 8;refine k.o.mono ?_;rintro e u ⟨rfl,i⟩;have m:=J (CA i);clear i)
  |(go_at_call 9;refine(l.o _).mono ?_;rintro e v ⟨rfl,j⟩;have n:=J (m.o.trans (CA j));clear j)
  |(go_at_call 10;refine(K8 _ _).mono ?_;rintro e a ⟨rfl,d⟩;have d:=d.symm;subst d))
 go_ret;exact⟨rfl,n.o⟩
theorem Ru(hc:QU)(b6:SrtAll)(s:ByteArray)(b:Nat)(h:List TF)(rf:List RF)(fs:List FS)(b7:Nat)(G:GoodP h)(hT:∀t,t∈h->∀u,u∈t.cF->OK 4000 u)(hS:RuS (fnN h) (paN h) (xfR h 0 0) rf fs/\OP fs rf/\ON 4000 fs/\bF rf h)(w:World)(hb:W b #[Ij,Ij,Ij,Ij] 29 w)(tb:JQ w)(tl:0<w.heap.size)(tw:0≠b)(b1:∀A,O (fun k=>k=b) w A->ItOk A)
 (h1:Calls prog 13 #[.string s] w fun e v=>∃(g n a1:Nat) (a:Option Addr) (l c:Nat) (U:Nat->Prop),e=.returned (.tuple #[.slice (some ⟨g,0,none⟩) n a1,.agg #[.slice a l c,.int .i64 b7],.int .i64 0,.int .i64 0])/\DF 4000 U v (.slice a l c) h/\(∀k,U k->k<v.heap.size)/\Below w.heap.size w v)
 (h2:∀w,Calls prog 9 #[.string s] w fun e v=>∃(r B g n a1:Nat) (U:Nat->Prop) (R V:Value) (p0 c0:Nat),e=.returned (.tuple #[.pointer (some ⟨r,0,none⟩),.slice (some ⟨g,0,none⟩) n a1,.int .i64 0,.int .i64 0])/\OS r B U R V rf fs p0 c0 v/\w.heap.size<=r/\w.heap.size<=B/\B<=v.heap.size/\Below w.heap.size w v/\p0=(h.map fun t=>nL 1 t.cF).sum/\c0=(h.map fun t=>nL 8 t.cF).sum):
 Calls prog 5 #[.pointer (some ⟨b,0,none⟩),.string s] w fun e v=>∃P mn pn cn rp I r Bp B U R V S N Q s C E j p F H,e=.returned (.bool true)/\ZU P mn pn cn rf fs v b rp I r Bp B U R V S N Q s C E j p F H/\O (fun k=>k=b) w v:=by
 have K:=Zu G hS.1 hS.2.1 hS.2.2.1 hS.2.2.2;have hv:=YN G hS.1;have hs:=Kc (fn:=fnN h) (par:=paN h) h 0 0 G.dK.ok;have H1:=J (NY hc s h b7 G hT w tb tl h1);have H2:D (∀A,Calls prog 9 #[.string s] A fun e v=>∃(r B g n a1:Nat) (U:Nat->Prop) (R V:Value),e=.returned (.tuple #[.pointer (some ⟨r,0,none⟩),.slice (some ⟨g,0,none⟩) n a1,.int .i64 0,.int .i64 0])/\OS r B U R V rf fs (BJ (fnN h) h 0 0).1 (BJ (fnN h) h 0 0).2 v/\O kD A v):=fun A=>(h2 A).mono fun e v ⟨r,B,g,n,a1,U,R,V,p0,c0,q1,q2,_,_,_,q3,q4,q5⟩=>⟨r,B,g,n,a1,U,R,V,q1,by rw[hs];simp only[iO];rw[q4,q5]at q2;exact q2,CA q3⟩
 obtain⟨P,hP⟩:∃P,Bi (fnN h) h 0 0=P:=⟨_,rfl⟩;obtain⟨mn,b2⟩:∃m,vx (fnN h) EC=m:=⟨_,rfl⟩;obtain⟨pn,a4⟩:∃m,(BJ (fnN h) h 0 0).1=m:=⟨_,rfl⟩;obtain⟨cn,a2⟩:∃m,(BJ (fnN h) h 0 0).2=m:=⟨_,rfl⟩;rw[hP,b2,a4,a2]at K H1;rw[a4,a2]at H2;rw[hP]at hv;have HK:=J K;have HV:=J hv;have b8:=J b1;have c3:=J b6;have HB:=J hb;obtain⟨i1,u0,u1,u2,u3⟩:=info_parts Tryz.infoPR;obtain⟨i2,x0,x1,x2,x3⟩:=info_parts Tryz.infoPS;obtain⟨i3,y0,y1,y2,y3⟩:=info_parts Tryz.infoPP;clear h1 h2 hS G hT hc b6 tb b1 K hv hs hP b2 a4 a2 hb;go_enter func5,ntmps5;go_upto_region 7 with(first
  |(go_at_call 8;refine H1.o.mono ?_;rintro e w2 ⟨rp,rfl,_,b5,o2⟩;have R2:=J b5;have O2:=J o2;clear b5 o2)
  |(go_at_call 9;refine(H2.o _).mono ?_;rintro e w3 ⟨r,Bp,tg,tn,tc,U,R,V,rfl,b3,o3⟩;have P3:=J b3;have O3:=J o3;clear b3 o3)
  |(go_at_call 10;refine(K8 _ _).mono ?_;rintro e v ⟨rfl,hw⟩;have hw:=hw.symm;subst hw))
 have B3:=J (HB.o.d8 (O2.o.trans O3.o) id);have c0:=B3.o.cell 0;have lb:=Ae B3.o;simp only[gH,gF]at c0;clear H1 H2;go_upto_region 8 with(at_builtin;refine iQ _ rfl _ _ 24 rfl 0 34 i1 (.pointer none) 1 8 underlying24 u0 u1 u2 u3 rfl T _ _ _ rfl (gR _ _ _ _) _ 1 1 [.pointer (some ⟨rp,0,none⟩)] rfl rfl (AC jY _ _) (fun x hx=>by simp at hx;subst hx;rfl) T T (gV _) ?_;intro v4 d z a0 _;obtain⟨q,l4,E,rfl⟩:=Ad z;have a3:=Ag z;subst a3;obtain⟨C,rfl⟩:=Ap z Z;have L:=O.grown (((O.refl kD w3).alloc _)) a0 (fun k q=>by cases q);have y:=B3.o.d8 L id;have c4:=y.cell 0;have f4:=y.frozen 0;have a5:=Ae y;simp only[gH,gF]at c4;have N4:=J z;have G4:=J L;have Y:=J y;clear z a0 L y);have M:O (fun k=>k=b) d (d.setCell ⟨b,0,none⟩ (CD C E)):=(O.refl _ d).t9 0 _;have R0:D ((d.setCell ⟨b,0,none⟩ (CD C E)).ownsRow 0 34 1 (CD C E) 1 [.pointer (some ⟨rp,0,none⟩)]):=Ac N4.o M (Am N4.o Y.o T);have B5:D (W b #[CD C E,Ij,Ij,Ij] 29 (d.setCell ⟨b,0,none⟩ (CD C E))):=Y.o.set 0 (CD C E);have O5:D (O (fun k=>k=b) w3 (d.setCell ⟨b,0,none⟩ (CD C E))):=(G4.o.mono fun _ _ q=>q.elim).trans M;change Code.wp _ _ _ _ (d.setCell ⟨b,0,none⟩ (CD C E));clear c0 c4 f4 a5 lb M N4 G4 Y;generalize d.setCell ⟨b,0,none⟩ (CD C E)=W5 at R0 B5 O5⊢;have P5:=J (P3.o.bY O5.o B3.o T);have a2:cn<=4001:=HK.o.hy.ok.lc;have b0:D (∀A,O kD W5 A->Calls prog 11 #[.pointer (some ⟨r,0,none⟩)] A fun e v=>∃I S N Q s,e=.returned (.pointer (some ⟨I,0,none⟩))/\KQ P pn cn A.heap.size I r S N Q A s v/\(least P).le (Ow P pn s)/\O kD A v):=fun A o=>Uh HK.o HV.o ⟨P5.o.s9 o,gI _,by have:=HK.o.len;have:=HK.o.hy.ok.cR;omega,HK.o.cR,fun f hf=>by obtain⟨i,hi,rfl⟩:=iF.1 hf;rw[HK.o.name i hi];exact HK.o.hy.nm.name i⟩ a2
 have c1:=B5.o.cell 1;have lb:=Ae B5.o;simp only[gH,gF,gG]at c1;go_cut[] (fun wx=>∃(I:Nat) (S N Q:Value) (s:Ls) (B j p:Nat),D (W b #[CD C E,CD j p,Ij,Ij] 29 wx)/\D (wx.ownsRow 0 42 1 (CD j p) 1 [.pointer (some ⟨I,0,none⟩)])/\D (Gj B I r S N Q (Ik P pn) s wx)/\D (QX P pn cn s)/\D ((least P).le (Ow P pn s))/\D (O (fun k=>k=b) W5 wx))
 case first=>
  go_region_law(first
   |(go_simp;go_at_call 11;refine(b0.o _ jV).mono ?_;rintro e w6 ⟨I,S,N,Q,s6,rfl,x6,e6,o6⟩;have X6:=J x6;have E6:=J e6;have O6:=J (O.trans (X:=kD) (a:=W5) jV o6);have B6:=J (B5.o.d8 O6.o id);have c6:=(gJ (O6.o.block b lb id)).trans c1;have l6:=gY lb O6.o.size;clear x6 e6 o6;dsimp only)
   |(refine AB rfl _ _ 25 rfl 0 42 i2 (.pointer none) 1 8 underlying25 x0 x1 x2 x3 rfl T _ _ _ rfl (gR _ _ _ _) _ 1 1 [.pointer (some ⟨I,0,none⟩)] rfl rfl (AC rfl _ _) (fun x hx=>by simp at hx;subst hx;rfl) T T T (gV _) ?_;intro v4 d z a0 _;obtain⟨q,l4,p,rfl⟩:=Ad z;have a3:=Ag z;subst a3;obtain⟨j,rfl⟩:=Ap z Z;have L:O kD w6 d:=O.grown (by repeat(first|exact O.refl _ _|refine O.drew ?_|refine O.alloc ?_ _)) a0 (fun k q=>by cases q);have y:=B6.o.d8 L id;have c4:=y.cell 1;have f4:=y.frozen 1;have a5:=Ae y;simp only[gH,gF,gG]at c4;have N4:=J z;have G4:=J L;have Y:=J y;clear z a0 L y))
  all_goals
   have M:O (fun k=>k=b) d (d.setCell ⟨b,1,none⟩ (CD j p)):=(O.refl _ d).t9 1 _;have O9:D (O (fun k=>k=b) w6 (d.setCell ⟨b,1,none⟩ (CD j p))):=(G4.o.mono fun _ _ q=>q.elim).trans M;have R1:D ((d.setCell ⟨b,1,none⟩ (CD j p)).ownsRow 0 42 1 (CD j p) 1 [.pointer (some ⟨I,0,none⟩)]):=Ac N4.o M (Am N4.o Y.o T);have B7:D (W b #[CD C E,CD j p,Ij,Ij] 29 (d.setCell ⟨b,1,none⟩ (CD j p))):=Y.o.set 1 (CD j p);have L7:=J (X6.o.p.m.at_box O9.o B6.o T);have I7:=J X6.o.p.i;have O7:D (O (fun k=>k=b) W5 (d.setCell ⟨b,1,none⟩ (CD j p))):=(O6.o.mono fun _ _ q=>q.elim).trans O9.o;clear M O9 X6;go_wp2_with fail;go_meet
   case rel=>exact⟨I,S,N,Q,s6,_,j,p,B7,R1,L7,I7,E6,O7⟩
 case rest=>
 obtain⟨I,S,N,Q,s6,B,j,p,B7,R1,L7,I7,E7,O7⟩:=hcut;clear b0 c1 lb;have c2:=B7.o.cell 2;have lb:=Ae B7.o;simp only[gH,gF,gG]at c2;go_upto_region 10 with(at_builtin;refine iQ _ rfl _ _ 26 rfl 0 37 i3 (.pointer none) 1 8 underlying26 y0 y1 y2 y3 rfl T _ _ _ rfl (gR _ _ _ _) _ 1 1 [.pointer (some ⟨r,0,none⟩)] rfl rfl (AC jY _ _) (fun x hx=>by simp at hx;subst hx;rfl) T T (gV _) ?_;intro v4 d z a0 _;obtain⟨q,l4,H,rfl⟩:=Ad z;have a3:=Ag z;subst a3;obtain⟨F,rfl⟩:=Ap z Z;have L:=O.grown (((O.refl kD wc).alloc _)) a0 (fun k q=>by cases q);have y:=B7.o.d8 L id;have c4:=y.cell 2;have f4:=y.frozen 2;have a5:=Ae y;simp only[gH,gF,gG]at c4;have N4:=J z;have G4:=J L;have Y:=J y;clear z a0 L y);have M:O (fun k=>k=b) d (d.setCell ⟨b,2,none⟩ (CD F H)):=(O.refl _ d).t9 2 _;have O9:O (fun k=>k=b) wc (d.setCell ⟨b,2,none⟩ (CD F H)):=(G4.o.mono fun _ _ q=>q.elim).trans M;have q2:(d.setCell ⟨b,2,none⟩ (CD F H)).ownsRow 0 37 1 (CD F H) 1 [.pointer (some ⟨r,0,none⟩)]:=Ac N4.o M (Am N4.o Y.o T);have b9:W b #[CD C E,CD j p,CD F H,Ij] 29 (d.setCell ⟨b,2,none⟩ (CD F H)):=Y.o.set 2 (CD F H);have q0:=Ac R0.o (O7.o.trans O9) (Am R0.o B5.o T);have q1:=Ac R1.o O9 (Am R1.o B7.o T);have a7:=O5.o.trans (O7.o.trans O9);have a6:O (fun k=>k=b) w2 (d.setCell ⟨b,2,none⟩ (CD F H)):=(O3.o.mono fun _ _ q=>q.elim).trans a7;have a8:O (fun k=>k=b) w (d.setCell ⟨b,2,none⟩ (CD F H)):=(O2.o.mono fun _ _ q=>q.elim).trans a6;have a9:D (ZU P mn pn cn rf fs (d.setCell ⟨b,2,none⟩ (CD F H)) b rp I r Bp B U R V S N Q s6 C E j p F H/\O (fun k=>k=b) w (d.setCell ⟨b,2,none⟩ (CD F H))):=⟨⟨b9,q0,q1,q2,R2.o.bY a6 (HB.o.d8 O2.o id) T tw,L7.o.at_box O9 B7.o T,I7.o,E7.o,P3.o.bY a7 B3.o T,HK.o,HV.o,tw,fun A oW=>b8.o A (a8.trans oW),c3.o⟩,a8⟩;clear M O9 q2 b9 q0 q1 a7 a6 a8;go_wp2_with fail;go_ret;exact⟨P,mn,pn,cn,rp,I,r,Bp,B,U,R,V,S,N,Q,s6,C,E,j,p,F,H,rfl,a9.o.1,a9.o.2⟩
theorem UC(b:Nat)(w:World)(a:W b #[Ij,Ij,Ij,Ij] 29 w):Calls prog 6 #[.pointer (some ⟨b,0,none⟩)] w fun e d=>e=.returned (.bool true)/\d=w:=by have c:=a.cell 0;have f:=Ae a;simp only[gH,gF]at c;go_enter func6,ntmps6;go_wp2_with fail;go_ret;exact⟨rfl,rfl⟩
theorem Qv(s:ByteArray)(I:s.size<=maxLen)(w:World)(hF:Cc w.heap.size w)(z:∀j:World,(∀k,k<w.heap.size->j.heap[k]? =w.heap[k]?)->ItOk j)(F:QU)(K:SrtAll)(M:JQ w)(tl:0<w.heap.size):
 Calls prog 3 #[.string s] w fun e N=>e=.returned (.bool true)/\Below w.heap.size w N:=by
 have x:=J (Ud w.heap.size w hF w (Below.refl _ _) (gI _));have r:=J (Si w.heap.size w hF s I);have S:=J z;have R:=J F;have V:=J K;have X:=J M;clear hF z F K M I;go_enter func3,ntmps3;go_upto_region 3 with(go_at_call 4;refine x.o.mono ?_;rintro e b ⟨rfl,E⟩;have o:=J E;clear E);have v:=o.o.size;have a:D (Below w.heap.size w (b.alloc (.cells #[Ij,Ij,Ij,Ij] 29))):=o.o.trans ((Below.refl w.heap.size b).alloc v _);have h:=J (W.new b #[Ij,Ij,Ij,Ij] 29);have a1:w.heap.size<=b.heap.size:=v;change Code.wp _ _ _ _ (b.alloc (.cells #[Ij,Ij,Ij,Ij] 29));generalize b.alloc (.cells #[Ij,Ij,Ij,Ij] 29)=l at a h⊢;generalize b.heap.size=u at h a1⊢;clear o x v;have m:=a.o.size;rcases r.o with⟨f,p,H,c,d⟩|⟨a0,rf,fs,a2,G,C,A,c,d⟩
 .have n:=J (Ue s u f p l H (c l a.o m) d);clear c d r H;go_wp2_with(first
   |(go_at_call 5;refine n.o.mono ?_;rintro e w3 ⟨rfl,g⟩;have i:=J g;clear g)
   |(go_at_call 6;refine(UC u _ (h.o.d8 i.o id)).mono ?_;rintro e N ⟨rfl,t⟩;have t:=t.symm;subst t))
  go_ret;exact⟨rfl,a.o.trans (i.o.cX m (fun _ q=>q.elim))⟩
 .have n:=J (Ru R.o V.o s u a0 rf fs a2 G C A l h.o (X.o.d8 (CA a.o) id tl) Z Z (fun j oW=>S.o j (fun k hk=>(oW.block k Z Z).trans (a.o.block k hk))) (c l a.o m) d);clear c d r G C A;go_wp2_with(first
   |(go_at_call 5;refine n.o.mono ?_;rintro e w3 ⟨P,mn,pn,cn,rp,sb,pb,Bp,B,U,fv,sv,nv,cv,ev,s6,ra,rc,la,lc,pa,pc,rfl,y,g⟩;have Q:=J y;have i:=J g;clear y g)
   |(go_at_call 6;refine(UA Q.o).mono ?_;rintro e w4 ⟨rfl,L⟩;have Y:=J (i.o.trans L);clear L))
  go_ret;exact⟨rfl,a.o.trans (Y.o.cX m (fun k q=>Z))⟩
theorem aD:QU:=by intro s d f;have c:=J (Tryz.stringslite_Clone s);go_enter func92,ntmps92;go_wp2_with fail;refine(c.o _ Z).mono ?_;rintro e g ⟨rfl,a⟩;have b:=J (CA a);clear a;go_wp2_with fail;go_ret;exact⟨rfl,b.o⟩
theorem Tryz.rgES:Tryz.prog.globalNamed "strconv.ErrSyntax" =some 4:=jW
theorem Tryz.rgESType:(Tryz.prog.globals[4]?).map (·.type)=some 183:=jW
theorem Tryz.rcES:Tryz.prog.cellsOf 297=1:=jW
theorem Tryz.rcStr:Tryz.prog.cellsOf 9=1:=jW
theorem Tryz.rstar: "*" ++ "errors.errorString" = "*errors.errorString" :=T
theorem Tryz.rrES(u)(h:Tryz.prog.typeName? 3 u=some "*errors.errorString"):u=295:=
 typeName_ptr_named (nm:= "errors.errorString") (by rw[Tryz.rstar];kernel_rfl) jW T u (by rw[Tryz.rstar];exact h)
theorem M4{a:World}{g:Nat}{v:Value}(b:a.cell? ⟨g,0,none⟩=some v):g<a.heap.size:=by
 rcases iW g a.heap.size with q|q
 .exact q
 .have:a.heap[g]? =none:=by simp;exact q
  unfold World.cell? at b;rw[this]at b;cases b
theorem UH(a)(b:laidMetH prog Rows.resultsRow.laid a):Cc a.heap.size a:=by
 rw[Go.MakeChecks.laidMetH_plain _ _ _ jW]at b;obtain⟨d,g,f,-,-,-⟩:=laid_sentinel b.tail.tail.tail.tail Tryz.rgES Tryz.rgESType underlying183 Tryz.rrES underlying295 underlying297 rfl rfl underlying9 Tryz.rcES Tryz.rcStr;have c:a.cell? ⟨4,0,none⟩=some (.iface 295 (.pointer (some d))):=by have e:=World.var?_cell Tryz.rgES f 0;simpa using e
 exact TY a.heap.size a (M4 c) _ c (.inr ⟨_,_,rfl⟩)
theorem Tryz.rgP10:Tryz.prog.globalNamed "internal/strconv.uint64pow10" =some 2:=jW
theorem Tryz.rgP10Type:(Tryz.prog.globals[2]?).map (·.type)=some 279:=jW
theorem Tryz.rcU64:Tryz.prog.cellsOf 226=1:=jW
theorem Tryz.rcP10:Tryz.prog.cellsOf 279=20:=jW
theorem Tryz.rdP10:(Rows.laid_internal_strconv_uint64pow10:DataW Unit)=Lib.tabData .u64 Lib.pow10Tab:=jW
theorem WN(b)(d:laidMetH prog Rows.resultsRow.laid b)(V:World)(e:∀k,k<b.heap.size->V.heap[k]? =b.heap[k]?):ItOk V:=by
 rw[Go.MakeChecks.laidMetH_plain _ _ _ jW]at d;have c:=d.tail.tail;rw[Tryz.rdP10]at c;have a:=Lib.tabIs_of_head Tryz.rgP10 Tryz.rgP10Type underlying279 underlying226 Tryz.rcU64 Tryz.rcP10 c;refine aI V ?_;unfold Lib.TabIs World.var? at a⊢;rw[Tryz.rgP10]at a⊢;simp only[Option.bind_some]at a⊢;have f:2<b.heap.size:=by
  rcases iW 2 b.heap.size with q|q
  .exact q
  .rw[Array.getElem?_eq_none q]at a;cases a
 rw[e _ f];exact a
def Y9:List Int:=Lib.deBruijn64tab.map fun n:Nat=>(n:Int)
theorem Tryz.rgTz:Tryz.prog.globalNamed "math/bits.deBruijn64tab" =some 0:=jW
theorem Tryz.rgTzType:(Tryz.prog.globals[0]?).map (·.type)=some 248:=jW
theorem Tryz.rcU8:Tryz.prog.cellsOf 5=1:=jW
theorem Tryz.rcTz:Tryz.prog.cellsOf 248=64:=jW
theorem Tryz.rdTz:(Rows.laid_math_bits_deBruijn64tab:DataW Unit)=Lib.tabData .u8 Y9:=jW
theorem Qu(a)(c:laidMetH prog Rows.resultsRow.laid a):JQ a/\0<a.heap.size:=by
 rw[Go.MakeChecks.laidMetH_plain _ _ _ jW]at c;have b:=c.tail;rw[Tryz.rdTz]at b;have g:=Lib.tabIs_of_head Tryz.rgTz Tryz.rgTzType underlying248 underlying5 Tryz.rcU8 Tryz.rcTz b;have d:∀j,j<Lib.deBruijn64tab.length->a.cell? ⟨0,j,none⟩=some (.int .u8 (Lib.deBruijn64tab.getD j 0)):=fun j f=>by have e:=World.var?_cell Tryz.rgTz g j;rw[e];simp[Y9,f]
 exact⟨d,M4 (d 0 T)⟩
