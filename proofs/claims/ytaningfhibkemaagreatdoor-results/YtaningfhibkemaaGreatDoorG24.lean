/- Part of the proof: AnP AnQ AnR AnS AnT. -/
import Derived.Test.YtaningfhibkemaaGreatDoorG23
import Derived.Deep.AppendLies
import Derived.WideKeyEntry
set_option maxRecDepth 100000
set_option maxHeartbeats 4000000
namespace Go.Proofs.YtaningfhibkemaaGreatDoor
open Go.RowKit Go.Maps Go.Proofs.Tryz
open Option renaming none->Z,some->T
open Value renaming int->G,slice->Y
open IntKind renaming i64->A
structure bW(P:List PFn)(sb:Nat)(fv:Value)(mn pn cn:Nat)(o o':So)(v v':Sv)(w w':World)(r:Rl):Prop where
 so:BN P sb fv mn pn cn o' v' w'
 ow:∀k,o'.own sb k->o.own sb k\/w.heap.size<=k
 on:O (o.own sb) w w'
 le:v.s.le v'.s
 w1:∀a q,v.W a q->v'.W a q
 w2:∀a q,v'.W a q->v.W a q\/(AS r/\a=r.at/\q=r)
 raw:v.raw->v'.raw
 ok:∀X,v.raw->BQ P X v->BQ P X v'
 beg:KY P r v'.s
 fol:AS r->v'.W r.at r
 len:∀c,(o'.rl c).length<=(o.rl c).length+1
def Bg(P:List PFn)(f:Nat)(b:Value)(c e a:Nat)(o:So)(v:Sv)(w h:World)(r:Rl):Prop:=∃d g,bW P f b c e a o d v g w h r
theorem Nx.bg{P n f j m d o v w t p r}(g:O kJ w t)(h:Nx P n f j m d o v t p (fun b=>KY P r b.s))(x:¬AS r):Bg P n f j m d o v w p r:=by obtain⟨l,b,s,u,i,q⟩:=h;refine⟨l,b,s.r,fun k y=>(s.ow k y).imp id fun q=>iG g.size q,(g.mono (fun _ _ q=>q.elim)).trans s.on,u.le.s,fun a q h=>by rw[u.le.w];exact h,fun a q h=>.inl (by rw[<-u.le.w];exact h),fun h=>h.up u,fun X _ h=>i X h,q,fun h=>jY h x,fun c=>?_⟩;have e:l.rl=o.rl:=congrArg Prod.fst s.rl;rw[e];omega
theorem Ed.nxt{P a c d g b o e v j w i}(h:Ed P a c d g b o v w)(r:BN P a c d g b e j i)(l:∀k,e.own a k->o.own a k\/w.heap.size<=k)(f:O (o.own a) w i):Ed P a c d g b e j i:=
 ⟨r,h.pl.d8 f h.r.noPlan,h.tb.d8 f h.tn h.tl,iI h.tl f.size,fun q=>(l _ q).elim h.tn fun q=>by have:=h.tl;omega⟩
theorem BN.waitB{P y C R S B o v w d f z c t r}{m:List (List Value)}{g:Value}(h:BN P y C R S B o v w)(hW:O kJ w d)(n:r.at=c)(I:AS r)(a3:d.ownsRow 0 192 9 (JV o c) (o.rl c).length m.flatten)(H:m.length=(o.rl c).length)
 (a2:∀i (h:i<m.length) (h':i<(o.rl c).length),∃g,m[i]=YO (o.rl c)[i] g/\Ay 0 d g (o.rl c)[i].s.args)(hi:Ay 0 d g r.s.args)(hg:d.grownBy f (JV o c).ownBlock)(K:(JV o c).ownBlock=T t.1\/w.heap.size<=t.1)(ho:f.ownsRow 0 192 9 (Io t) ((o.rl c).length+1) (m.flatten++YO r g))
 (hm:BW UY UX (o.om 5) (fun x=>if x=c then T t else o.fw x) z)(N:O (fun k=>k=o.om 5) f z):Bg P y C R S B o v w z r:=by
 have E:O (fun k=>(JV o c).ownBlock=T k) d f:=O.grown (O.refl _ _) hg (fun j hj=>.inl hj);have F:O (fun k=>(JV o c).ownBlock=T k) w f:=(hW.mono (fun _ _ q=>q.elim)).trans E;have Q:∀{u:Value} {l:List Nat},Ay 0 d u l->Ay 0 f u l:=fun p=>Ai p E (GA a3 (by decide))
 have V:Jb 0 f (Io t) (o.rl c++[r]):=by
  refine⟨m++[YO r g],?_,by simp[H],fun i a0 a1=>?_⟩
  .rw[List.flatten_append,gW];simp only[List.flatten_cons,List.flatten_nil,iZ,iM];exact ho
  .simp only[gW,iM]at a0 a1;by_cases L:i<(o.rl c).length
   .obtain⟨u,e,p⟩:=a2 i (by omega) L;rw[iQ (by omega),iQ L];exact⟨u,e,Q p⟩
   .have e:i=(o.rl c).length:=by omega
    subst e;rw[iO (by omega),iO (by omega)];simp only[H,Nat.sub_self,iN];exact⟨g,rfl,Q hi⟩
 have hw:=h.wait (r:=r) F K V hm N;have M:∀k,(JV o c).ownBlock=T k->o.own y k:=fun k b=>by
  unfold JV at b;cases n:o.fw c with
  |none=>rw[n]at b;cases b
  |some t0=>rw[n]at b;unfold Io at b;cases b;exact .inr (.inr (.inr ⟨c,t0,n,rfl⟩))
 have s:r.s.kind≠1/\r.s.kind≠2/\r.s.kind≠4/\r.s.kind≠6/\r.s.kind≠7:=by unfold AS at I;omega
 refine⟨_,_,hw,fun k b=>?_,(F.mono fun k _ q=>M k q).thn N fun k _ q=>by rw[q];exact .inr (.inl ⟨5,by omega,rfl⟩),.rf _,fun a q h=>.inl h,fun a q h=>h.imp id fun h=>⟨I,n▸h.1,h.2⟩,fun h=>h,fun X p h=>h.wait fun x hx=>p _ x hx,⟨fun q=>jY q s.1,fun q=>jY q s.2.1,fun q=>jY q s.2.2.1,fun q=>jY q s.2.2.2.1,fun q=>jY q s.2.2.2.2⟩,fun _=>.inr ⟨n,rfl⟩,fun x=>?_⟩
 .rcases b with q|q|q|⟨U,t',q,rfl⟩
  .exact .inl (.inl q)
  .exact .inl (.inr (.inl q))
  .exact .inl (.inr (.inr (.inl q)))
  .unfold So.wt at q;dsimp only at q;split at q
   .cases q;exact K.imp (M _) id
   .exact .inl (.inr (.inr (.inr ⟨U,t',q,rfl⟩)))
 .unfold So.wt;dsimp only;split
  .next e=>rw[e];simp
  .omega
abbrev cE:Array Value:=#[G A 0,G A 0,G A 0,G A 0,G A 0,G A 0,Y Z 0 0,G A 0,G A 0]
theorem Tryz.infoRule:(Tryz.prog.info? 192).map (fun i=>(i.zero,i.size,i.bytes))=T (T (.agg cE),9,88):=by kernel_rfl
theorem Pm{w:World}{b:Nat}{a:List Value}{t:TypeId}(h:W b a.toArray t w):∀j u,a[j]? =T u->w.cell? ((⟨b,0,Z⟩:Addr).add j)=T u:=fun j u d=>by
 have:=h.cell j;rw[gR,d]at this;by_cases c:j=0
 .subst c;simpa[Addr.add]using this
 .simpa[Addr.add,c]using this
theorem Bg.from{P g c e f b o v w a i r}(d:O kJ w a)(h:Bg P g c e f b o v a i r):Bg P g c e f b o v w i r:=by obtain⟨l,m,h⟩:=h;exact⟨l,m,h.so,fun k j=>(h.ow k j).imp id fun q=>iG d.size q,(d.mono (fun _ _ q=>q.elim)).trans h.on,h.le,h.w1,h.w2,h.raw,h.ok,h.beg,h.fol,h.len⟩
theorem TY(P l fv mn y L o v w)(a5:AnOk P y L)(h:Ed P l fv mn y L o v w)(r:Rl)(av:Value)(hi:Ay 0 w av r.s.args)(hr:LZ P r)(d4:∀c,(o.rl c).length<=100000):
 Calls prog 86 #[.pointer (T ⟨l,0,Z⟩),.agg (KM r av)] w fun e f=>e=.returned (.tuple #[])/\Bg P l fv mn y L o v w f r:=by
 obtain⟨i0,f2,f9,g0,g1⟩:=info_parts Tryz.infoRule;obtain⟨n,al,p,rfl⟩:=Ad hi;have e9:=Ag hi;subst e9;have o1:O kJ w (w.alloc (.cells (KM r (Y n r.s.args.length p)) 192)):=(O.refl _ w).alloc _;have a8:=W.new w (KM r (Y n r.s.args.length p)) 192;have hE:=h.s9 o1;have hI:=Ac hi o1 (fun _ _ q=>q);have f6:∀k,o.own l k->k<w.heap.size:=fun k q=>h.r.ownLt q
 have f5:¬o.own l w.heap.size:=fun q=>by have:=f6 _ q;omega
 have c6:=a5.ok.ok r.f hr.1 r.s hr.2;obtain⟨I,HP,a1,a6,e7⟩:=BB a5 hr c6 ((Ew P).beg r hr) d4;have g6:=a5.dC;have a0:=hr.1;have h8:=a5.ok.t8 r.f;have g9:=c6.kind;clear h hi a5 hr c6 d4;go_enter func86,ntmps86;have b1:=a8.cell 1;have i1:=Ae a8;simp only[gR,gP,gQ]at b1;go_upto_block 0 with fail;generalize w.alloc (.cells (KM r (Y n r.s.args.length p)) 192)=s at*;obtain⟨b0,b2,b3,b4,b5,b6,b7,b8⟩:=a8.e8 0 2 3 4 5 6 7 8;simp only[gR,gP,gQ]at b0 b2 b3 b4 b5 b6 b7 b8;obtain⟨B,HI,HB,O1⟩:=Ba hE hI a8 o1;have HC:D (∀d,O (o.own l) s d->d.cell? ⟨w.heap.size,0,Z⟩=T (G A r.f)/\d.cell? ⟨w.heap.size,1,Z⟩=T (G A r.s.kind)/\d.cell? ⟨w.heap.size,2,Z⟩=T (G A r.s.cY)/\d.cell? ⟨w.heap.size,3,Z⟩=T (G A r.s.cM)/\d.cell? ⟨w.heap.size,4,Z⟩=T (G A r.s.field)/\d.cell? ⟨w.heap.size,5,Z⟩=T (G A r.s.cK)/\d.cell? ⟨w.heap.size,6,Z⟩=T (Y n r.s.args.length p)/\d.cell? ⟨w.heap.size,7,Z⟩=T (G A r.s.next)/\d.cell? ⟨w.heap.size,8,Z⟩=T (G A r.s.taken)):=fun d h3=>by have f0:=HB.o.d8 h3 f5;obtain⟨M,N,Q,R,U,V,r6,r7,r8⟩:=f0.e9 0 1 2 3 4 5 6 7 8;simp only[gR,gP,gQ]at M N Q R U V r6 r7 r8;exact⟨M,N,Q,R,U,V,r6,r7,r8⟩
 have c1:D (∀d,O (fun k=>o.own l k/\k≠l) s d->d.cell? ⟨l,8,Z⟩=T (.map (T (o.om 5)))/\d.cell? ⟨w.heap.size,0,Z⟩=T (G A r.f)/\d.cell? ⟨w.heap.size,1,Z⟩=T (G A r.s.kind)/\d.cell? ⟨w.heap.size,2,Z⟩=T (G A r.s.cY)/\d.cell? ⟨w.heap.size,3,Z⟩=T (G A r.s.cM)/\d.cell? ⟨w.heap.size,4,Z⟩=T (G A r.s.field)/\d.cell? ⟨w.heap.size,5,Z⟩=T (G A r.s.cK)/\d.cell? ⟨w.heap.size,6,Z⟩=T (Y n r.s.args.length p)/\d.cell? ⟨w.heap.size,7,Z⟩=T (G A r.s.next)/\d.cell? ⟨w.heap.size,8,Z⟩=T (G A r.s.taken)):=fun d h3=>by have q8:=(B.o.r.cI.d8 h3 (fun q=>q.2 rfl)).cell 8;simp only[Hh,gR,gP,gQ]at q8;exact⟨q8,HC.o d (h3.mono fun _ _ q=>q.1)⟩
 have i2:=Ae hE.r.cI;have p8:=hE.r.cI.cell 8;simp only[Hh,gR,gP,gQ]at p8;clear hE hI a8 o1;have k0:(r.s.kind=1\/r.s.kind=2\/r.s.kind=4)\/r.s.kind=6\/r.s.kind=7\/(r.s.kind=3\/r.s.kind=5\/r.s.kind=8\/r.s.kind=9)\/(r.s.kind=0\/10<=r.s.kind):=by omega
 rcases k0 with b|b|b|b|b
 .have a3:=a1.o.tg (by omega) (by omega) (by omega) (by omega);have c2:D (AM P y r.tg):=Bm a0 a3;have d9:r.tg<16400:=GG I.o a0 a3;have a7:D (¬AS r):=fun q=>by unfold AS at q;omega
  have h1:=I.o.lp;obtain⟨ka,d3⟩:=(B.o.r.d0 r.tg 0 (.inl rfl)).2 c2.o;have hg:∃X,X<19200/\(least P).I r.tg X/\((r.s.kind=1/\pN r.s.cK 0=X/\1<=r.s.cK/\r.s.cK<=y)\/(r.s.kind=2/\r.sr=X/\r.s.cM<=4001)\/(r.s.kind=4/\fN r.s.cM=X/\r.s.cM<P.length)):=by
   rcases b with b|b|b
   .have f4:=(I.o.dQ r.f a0 r.s HP.o.2).1 b;exact⟨_,by unfold pN;omega,a6.o.1 b,.inl ⟨b,rfl,f4⟩⟩
   .have a4:=a1.o.sr (by omega);exact⟨_,Nat.lt_trans (GG I.o a0 a4) (by decide),a6.o.2.1 b,.inr (.inl ⟨b,rfl,by omega⟩)⟩
   .have c4:=a1.o.func (.inl b);exact⟨_,by unfold fN;omega,a6.o.2.2.1 b,.inr (.inr ⟨b,rfl,c4⟩)⟩
  clear b;obtain⟨X,lX,hI,hX⟩:=hg;have e6:=J hI;have e2:D (∀S:Sy,S.I r.tg X->KY P r S):=fun S hS=>by
   rcases hX with⟨q,e,_⟩|⟨q,e,_⟩|⟨q,e,_⟩<;>subst e
   .exact⟨fun _=>hS,fun z=>by omega,fun z=>by omega,fun z=>by omega,fun z=>by omega⟩
   .exact⟨fun z=>by omega,fun _=>hS,fun z=>by omega,fun z=>by omega,fun z=>by omega⟩
   .exact⟨fun z=>by omega,fun z=>by omega,fun _=>hS,fun z=>by omega,fun z=>by omega⟩
  clear hI;have hg:((((r.s.kind:Nat):Int)==1)=true/\pN r.s.cK 0=X/\1<=r.s.cK/\r.s.cK<=y)\/((((r.s.kind:Nat):Int)==1)=false/\(((r.s.kind:Nat):Int)==2)=true/\r.sr=X/\r.s.cM<=4001)\/((((r.s.kind:Nat):Int)==1)=false/\(((r.s.kind:Nat):Int)==2)=false/\(((r.s.kind:Nat):Int)==4)=true/\fN r.s.cM=X/\r.s.cM<P.length):=by
   rcases hX with⟨q,e⟩|⟨q,e⟩|⟨q,e⟩<;>rw[q]
   .exact .inl ⟨rfl,e⟩
   .exact .inr (.inl ⟨rfl,rfl,e⟩)
   .exact .inr (.inr ⟨rfl,rfl,rfl,e⟩)
  clear hX;rcases hg with⟨k1,hX,d6,h5⟩|⟨k1,k2,hX,d6⟩|⟨k1,k2,k4,hX,d6⟩
  all_goals
   have c3:=J hX;clear hX;go_wp2_with fail;go_region_held3(fun f=>f.cell? ⟨w.heap.size,0,Z⟩=T (G A r.f)/\f.cell? ⟨w.heap.size,1,Z⟩=T (G A r.s.kind)/\f.cell? ⟨w.heap.size,2,Z⟩=T (G A r.s.cY)/\f.cell? ⟨w.heap.size,3,Z⟩=T (G A r.s.cM)/\f.cell? ⟨w.heap.size,4,Z⟩=T (G A r.s.field)/\f.cell? ⟨w.heap.size,5,Z⟩=T (G A r.s.cK)/\f.cell? ⟨w.heap.size,6,Z⟩=T (Y n r.s.args.length p)/\f.cell? ⟨w.heap.size,7,Z⟩=T (G A r.s.next)/\f.cell? ⟨w.heap.size,8,Z⟩=T (G A r.s.taken)) (go_keep)
    (first
      |(go_at_call 121;refine(DI r (Y n r.s.args.length p) _ (by omega) (by omega)).mono ?_;rintro e w3 ⟨rfl,F⟩;have m:=J (O.trans (X:=kJ) (a:=s) (by repeat first|exact BI _ _|apply BG|apply BH|apply BE) F);clear F;obtain⟨M,N,Q,R,U,V,r6,r7,r8⟩:=HC.o w3 (m.o.mono fun _ _ q=>q.elim))
      |(go_at_call 85;refine(JE r.s.cK 0 _ (by omega) (by omega) (by omega)).mono ?_;rw[c3.o];rintro e f ⟨rfl,hw⟩;have hw:=hw.symm;subst hw)
      |(go_at_call 122;refine(ES r (Y n r.s.args.length p) _ (by omega) (by omega)).mono ?_;rw[c3.o];rintro e w4 ⟨rfl,o4⟩;have m:=J (m.o.trans o4);clear o4;obtain⟨M,N,Q,R,U,V,r6,r7,r8⟩:=HC.o w4 (m.o.mono fun _ _ q=>q.elim))
      |(go_at_call 123;refine(Wb r.s.cM _ (by omega)).mono ?_;rw[c3.o];rintro e f ⟨rfl,hw⟩;have hw:=hw.symm;subst hw)
      |(go_at_call 120;refine(Js P l fv mn y L o v H r.tg ka fb _ (B.o.s9 O5.o).r d3 SF.o (by omega) (fun q=>by have:=(B.o.s9 m.o).r.ownLt (k:=ka) (.inr (.inr (.inl ⟨0,_,d3⟩)));omega)).mono ?_;rintro e E ⟨rfl,o6,s6⟩;have SS:=J s6;clear s6;obtain⟨M,N,Q,R,U,V,r6,r7,r8⟩:=HC.o E ((O5.o.mono (fun _ _ q=>q.elim)).trans SS.o.on))
      |(go_at_call 88;refine(Ko X _ (by omega)).mono ?_;rintro e H ⟨fb,rfl,g8,sf,o5⟩;have O5:=J (m.o.trans o5);have SF:=J sf;clear o5 sf;obtain⟨M,N,Q,R,U,V,r6,r7,r8⟩:=HC.o H (O5.o.mono fun _ _ q=>q.elim)))
   all_goals
    have HX:D (Bg P l fv mn y L o v w E r):=Nx.bg (O1.o.trans O5.o) ⟨o6,_,SS.o,Sv.give_up v _ _,fun X' q=>q.give (fun t ht=>by rw[ht];exact e6.o),e2.o _ (.inr ⟨rfl,rfl⟩)⟩ a7.o;go_wp2_with fail;go_end0;exact⟨rfl,HX.o⟩
 .have k1:(((r.s.kind:Nat):Int)==1)=false:=by rw[b];rfl
  have k2:(((r.s.kind:Nat):Int)==2)=false:=by rw[b];rfl
  have k4:(((r.s.kind:Nat):Int)==4)=false:=by rw[b];rfl
  have k6:(((r.s.kind:Nat):Int)==6)=true:=by rw[b];rfl
  have a3:=a1.o.tg (by rw[b];decide) (by rw[b];decide) (by rw[b];decide) (by rw[b];decide);have c2:D (AM P y r.tg):=Bm a0 a3;have d9:r.tg<16400:=GG I.o a0 a3;have a4:=a1.o.sr (by omega);have e3:D (AM P y r.sr):=Bm a0 a4;have g2:r.sr<16400:=GG I.o a0 a4;have a7:D (¬AS r):=fun q=>by unfold AS at q;omega
  have K:=J b;clear b;go_wp2_with fail;go_region_held3(fun f=>f.cell? ⟨w.heap.size,0,Z⟩=T (G A r.f)/\f.cell? ⟨w.heap.size,1,Z⟩=T (G A r.s.kind)/\f.cell? ⟨w.heap.size,2,Z⟩=T (G A r.s.cY)/\f.cell? ⟨w.heap.size,3,Z⟩=T (G A r.s.cM)/\f.cell? ⟨w.heap.size,4,Z⟩=T (G A r.s.field)/\f.cell? ⟨w.heap.size,5,Z⟩=T (G A r.s.cK)/\f.cell? ⟨w.heap.size,6,Z⟩=T (Y n r.s.args.length p)/\f.cell? ⟨w.heap.size,7,Z⟩=T (G A r.s.next)/\f.cell? ⟨w.heap.size,8,Z⟩=T (G A r.s.taken)) (go_keep)
   (first
     |(go_at_call 122;refine(ES r (Y n r.s.args.length p) _ (by omega) (by omega)).mono ?_;rintro e w3 ⟨rfl,F⟩;have m:=J (O.trans (X:=kJ) (a:=s) (by repeat first|exact BI _ _|apply BG|apply BH|apply BE) F);clear F;obtain⟨M,N,Q,R,U,V,r6,r7,r8⟩:=HC.o w3 (m.o.mono fun _ _ q=>q.elim))
     |(go_at_call 121;refine(DI r (Y n r.s.args.length p) _ (by omega) (by omega)).mono ?_;rintro e w4 ⟨rfl,o4⟩;have O5:=J (m.o.trans o4);clear o4;obtain⟨M,N,Q,R,U,V,r6,r7,r8⟩:=HC.o w4 (O5.o.mono fun _ _ q=>q.elim))
     |(go_at_call 124;refine(GY P l fv mn y L o v w4 r.sr r.tg (B.o.s9 O5.o).r e3.o c2.o g2 d9 (a6.o.2.2.2.1 K.o)).mono ?_;rintro e E ⟨rfl,o6,v6,s6,u6,i6,q6⟩;have SS:=J s6;have UU:=J (And.intro u6 (And.intro i6 q6));clear s6 u6 i6 q6;obtain⟨M,N,Q,R,U,V,r6,r7,r8⟩:=HC.o E ((O5.o.mono (fun _ _ q=>q.elim)).trans SS.o.on)))
  all_goals
   have HX:D (Bg P l fv mn y L o v w E r):=Nx.bg (O1.o.trans O5.o) ⟨o6,v6,SS.o,UU.o.1,UU.o.2.1,⟨fun q=>jY (K.o.symm.trans q) (by decide),fun q=>jY (K.o.symm.trans q) (by decide),fun q=>jY (K.o.symm.trans q) (by decide),fun _=>UU.o.2.2,fun q=>jY (K.o.symm.trans q) (by decide)⟩⟩ a7.o;go_wp2_with fail;go_end0;exact⟨rfl,HX.o⟩
 .have k1:(((r.s.kind:Nat):Int)==1)=false:=by rw[b];rfl
  have k2:(((r.s.kind:Nat):Int)==2)=false:=by rw[b];rfl
  have k4:(((r.s.kind:Nat):Int)==4)=false:=by rw[b];rfl
  have k6:(((r.s.kind:Nat):Int)==6)=false:=by rw[b];rfl
  have k7:(((r.s.kind:Nat):Int)==7)=true:=by rw[b];rfl
  have hR:=I.o.rl HP.o (by rw[b];decide) (by rw[b];decide) (by rw[b];decide) (by rw[b];decide);have c4:=a1.o.func (.inr b);have h4:=a1.o.many b;have h7:=I.o.ok.eH r.s.cM;have HR:=J hR;clear hR;have a7:D (¬AS r):=fun q=>by unfold AS at q;omega
  have K:=J b;clear b;go_wp2_with fail;refine(Pp P l fv mn y L o v s I.o B.o r r.s.cM (Y n r.s.args.length p) HI.o HR.o c4 (by omega) (a6.o.2.2.2.2 K.o)).mono ?_;rintro e E ⟨rfl,o6,v6,s6,u6,i6,q6⟩;have HX:D (Bg P l fv mn y L o v w E r):=Nx.bg O1.o ⟨o6,v6,s6,u6,i6,⟨fun q=>jY (K.o.symm.trans q) (by decide),fun q=>jY (K.o.symm.trans q) (by decide),fun q=>jY (K.o.symm.trans q) (by decide),fun q=>jY (K.o.symm.trans q) (by decide),fun _=>q6⟩⟩ a7.o;clear s6 u6 i6 q6;go_wp2_with fail;go_end0;exact⟨rfl,HX.o⟩
 .have k1:(((r.s.kind:Nat):Int)==1)=false:=by simp;omega
  have k2:(((r.s.kind:Nat):Int)==2)=false:=by simp;omega
  have k4:(((r.s.kind:Nat):Int)==4)=false:=by simp;omega
  have k6:(((r.s.kind:Nat):Int)==6)=false:=by simp;omega
  have k7:(((r.s.kind:Nat):Int)==7)=false:=by simp;omega
  have d0:AS r:=by unfold AS;omega
  have e4:=J d0;obtain⟨C,hC⟩:∃C,r.at=C:=⟨_,rfl⟩;have hK:(r.s.kind≠9/\r.sr=C/\r.s.cM<=4001/\C<16400)\/(r.s.kind=9/\r.tg=C/\r.s.cY<=4001/\C<16400):=by
   unfold Rl.at at hC;by_cases h9:r.s.kind=9
   .rw[jR h9]at hC;have a3:=a1.o.tg (by rw[h9];decide) (by rw[h9];decide) (by rw[h9];decide) (by rw[h9];decide);exact .inr ⟨h9,hC,by omega,by rw[<-hC];exact GG I.o a0 a3⟩
   .rw[jQ h9]at hC;have a4:=a1.o.sr (by omega);exact .inl ⟨h9,hC,by omega,by rw[<-hC];exact GG I.o a0 a4⟩
  have g7:C<16400:=by rcases hK with q|q;exact q.2.2.2;exact q.2.2.2
  have e0:=J hC;clear d0 hC;have c7:D (∀d,O kJ s d->(Instr.lookup 118 (.map (T (o.om 5))) (G A C) false).run prog d=.ok (JV o C) d):=fun d h3=>by
   have q:=(B.o.s9 h3).r.fm.look Xj underlying118 (QK d) (k:=C) (by omega) false;unfold JV;cases hq:o.fw C with
   |none=>exact q.1 hq
   |some t=>exact q.2 t hq
  obtain⟨cs,a9,f1,c5⟩:=B.o.r.fwAt C;have h0:=e7.o C;have e8:=J a9;have g3:=J c5;have d7:∀k,(JV o C).ownBlock=T k->o.own l k/\k≠l:=fun k b=>by
   refine⟨?_,Am a9 B.o.r.cI (by decide) k b⟩;unfold JV at b;cases hc:o.fw C with
   |none=>rw[hc]at b;cases b
   |some t0=>rw[hc]at b;unfold Io at b;cases b;exact .inr (.inr (.inr ⟨C,t0,hc,rfl⟩))
  have d1:∀(Wc:World) (g a2:Nat) (H:World),O kJ s Wc->Wc.grownBy H (JV o C).ownBlock->((JV o C).ownBlock=T g\/g=Wc.heap.size)->H.ownsRow 0 192 9 (Y (T ⟨g,0,Z⟩) ((o.rl C).length+1) a2) ((o.rl C).length+1) (cs.flatten++YO r (Y n r.s.args.length p))->
   ∃E,(Instr.mapUpdate 118 (.map (T (o.om 5))) (G A C) (Io (g,(o.rl C).length+1,a2))).run prog H=.ok () E/\Bg P l fv mn y L o v w E r/\O (fun k=>o.own l k/\k≠l) s H/\O (fun k=>o.own l k/\k≠l) s E:=fun Wc g a2 H hc hg hl c0=>by
   have g5:O (fun k=>(JV o C).ownBlock=T k) s H:=O.grown (hc.mono (fun _ _ q=>q.elim)) hg (fun j hj=>.inl hj);have f3:=B.o.r.fm.d8 g5 (fun q=>by obtain⟨g4,e⟩:=DD a9 _ q;exact B.o.r.fm.ne e rfl);obtain⟨E,h6,m6,o6⟩:=f3.put Xj underlying118 (k:=C) (a:=(g,(o.rl C).length+1,a2)) (by omega) trivial;have y5:O (fun k=>o.own l k/\k≠l) s H:=g5.mono fun k _ q=>d7 k q
   have n5:o.om 5≠l:=by obtain⟨_,_,e⟩:=B.o.r.fm.isMap;exact(B.o.r.dU e).1
   refine⟨E,h6,Bg.from O1.o (B.o.r.waitB (t:=(g,(o.rl C).length+1,a2)) hc e0.o e4.o (Ac a9 hc (fun _ _ q=>q)) f1 (fun i q q'=>?_) (Ac HI.o hc (fun _ _ q=>q)) hg (hl.imp id fun q=>by have:=hc.size;dsimp only;omega) c0 m6 o6),y5,y5.thn o6 fun k _ q=>by rw[q];exact⟨.inr (.inl ⟨5,by omega,rfl⟩),n5⟩⟩;obtain⟨u,e,hr⟩:=c5 i q q';exact⟨u,e,Ac hr hc (fun _ _ q=>q)⟩
  have e5:=J d1;clear a9 c5 d7 d1;have hg:(D (∀d,Calls prog 122 #[.agg (KM r (Y n r.s.args.length p))] d fun e f=>e=.returned (G A C)/\O kJ d f)/\((((r.s.kind:Nat):Int)==3)=true\/(((r.s.kind:Nat):Int)==3)=false/\(((r.s.kind:Nat):Int)==5)=true\/(((r.s.kind:Nat):Int)==3)=false/\(((r.s.kind:Nat):Int)==5)=false/\(((r.s.kind:Nat):Int)==8)=true))\/(D (∀d,Calls prog 121 #[.agg (KM r (Y n r.s.args.length p))] d fun e f=>e=.returned (G A C)/\O kJ d f)/\(((r.s.kind:Nat):Int)==3)=false/\(((r.s.kind:Nat):Int)==5)=false/\(((r.s.kind:Nat):Int)==8)=false/\(((r.s.kind:Nat):Int)==9)=true):=by
   rcases hK with⟨h9,hs,hl,_⟩|⟨h9,ht,hl,_⟩
   .exact .inl ⟨fun d=>by rw[<-hs];exact ES r _ d (by omega) hl,by simp;omega⟩
   .exact .inr ⟨fun d=>by rw[<-ht];exact DI r _ d (by omega) hl,by simp;omega⟩
  clear b hK;rcases hg with⟨c8,k3|⟨k3,k5⟩|⟨k3,k5,k8⟩⟩|⟨c8,k3,k5,k8,k9⟩
  all_goals
   go_wp2_with fail;go_region_held3(fun f=>f.cell? ⟨l,8,Z⟩=T (.map (T (o.om 5)))/\f.cell? ⟨w.heap.size,0,Z⟩=T (G A r.f)/\f.cell? ⟨w.heap.size,1,Z⟩=T (G A r.s.kind)/\f.cell? ⟨w.heap.size,2,Z⟩=T (G A r.s.cY)/\f.cell? ⟨w.heap.size,3,Z⟩=T (G A r.s.cM)/\f.cell? ⟨w.heap.size,4,Z⟩=T (G A r.s.field)/\f.cell? ⟨w.heap.size,5,Z⟩=T (G A r.s.cK)/\f.cell? ⟨w.heap.size,6,Z⟩=T (Y n r.s.args.length p)/\f.cell? ⟨w.heap.size,7,Z⟩=T (G A r.s.next)/\f.cell? ⟨w.heap.size,8,Z⟩=T (G A r.s.taken)) (go_keep)
    (first
      |((first|go_at_call 122|go_at_call 121);refine(c8.o _).mono ?_;rintro e w3 ⟨rfl,F⟩;(first|(have m:=J (O.trans ((O.refl kJ s).drew) F))|(have m:=J (O.trans ((O.refl kJ s).drew.alloc _) F))|(have m:=J (m.o.trans F))|(have m:=J (O.trans (m.o.alloc _) F)));(first|(have b9:D (W s.heap.size (KM r (Y n r.s.args.length p)) 192 w3):=W.d8 (W.new s.drew _ _) F id)|(have b9:=J (b9.o.d8 F id))|(have b9:=J (W.d8 (W.new _ _ _) F id))|skip);clear F;have L1:=c7.o _ m.o;have L2:=c7.o _ (m.o.alloc (.cells (KM r (Y n r.s.args.length p)) 192));obtain⟨q8,M,N,Q,R,U,V,r6,r7,r8⟩:=c1.o w3 (m.o.mono fun _ _ q=>q.elim))
      |(refine step_append_lies _ rfl _ _ 224 rfl 0 192 i0 (.agg cE) 9 88 underlying224 f2 f9 g0 g1 rfl (by decide) (JV o C) (o.rl C).length cs.flatten rfl (Ac e8.o (X:=kJ) (by first|exact m.o|exact m.o.alloc _) (fun _ _ q=>q)) _ 1 1 (YO r (Y n r.s.args.length p)) rfl rfl (by first|exact Pm b9.o|exact Pm (W.new _ _ _)) (fun x hx=>by unfold YO Kr at hx;simp only[jJ,iR,or_false]at hx;rcases hx with rfl|rfl|rfl|rfl|rfl|rfl|rfl|rfl|rfl<;>rfl) (by decide) (by unfold maxLen;omega) (by omega) (iF _) _ rfl ?_;intro g a2 H c0 d2 d5 h2;have FF:=J (e5.o _ g a2 H (by first|exact m.o|exact m.o.alloc _) d2 d5 c0);obtain⟨E,d8,c9,f7,f8⟩:=FF.o;unfold Io at d8;dsimp only at d8;have e1:=J c9;clear d2 d5 c0 c9;obtain⟨q8,M,N,Q,R,U,V,r6,r7,r8⟩:=c1.o H f7;have S6:=J (c1.o E f8);obtain⟨i3,s0,s1,s2,s3,s4,s5,s6,s7,s8⟩:=S6.o;clear FF S6))
   all_goals
    go_wp2_with fail;go_end0;exact⟨rfl,e1.o⟩
 .have k1:(((r.s.kind:Nat):Int)==1)=false:=by simp;omega
  have k2:(((r.s.kind:Nat):Int)==2)=false:=by simp;omega
  have k4:(((r.s.kind:Nat):Int)==4)=false:=by simp;omega
  have k6:(((r.s.kind:Nat):Int)==6)=false:=by simp;omega
  have k7:(((r.s.kind:Nat):Int)==7)=false:=by simp;omega
  have k3:(((r.s.kind:Nat):Int)==3)=false:=by simp;omega
  have k5:(((r.s.kind:Nat):Int)==5)=false:=by simp;omega
  have k8:(((r.s.kind:Nat):Int)==8)=false:=by simp;omega
  have k9:(((r.s.kind:Nat):Int)==9)=false:=by simp;omega
  have HX:D (Bg P l fv mn y L o v w s r):=Nx.bg O1.o ⟨o,v,⟨B.o.r,fun _ q=>.inl q,rfl,O.refl _ _⟩,.rf _,fun _ q=>q,⟨fun q=>by omega,fun q=>by omega,fun q=>by omega,fun q=>by omega,fun q=>by omega⟩⟩ (fun q=>by unfold AS at q;omega);clear b;go_wp2_with fail;go_end0;exact⟨rfl,HX.o⟩
theorem Jb.get{w g n m}{l:List Rl}(h:Jb 0 w (Y (T ⟨g,0,Z⟩) n m) l){i:Nat}(r:i<l.length):
 ∃a,(∀j,j<9->w.cell? ⟨g,i*9+j,Z⟩=(YO l[i] a)[j]?)/\Ay 0 w a l[i].s.args:=by
 obtain⟨c,k,u,f⟩:=h;have s:=Ag k;subst s;have d:i<c.length:=by omega
 have p:∀x,x∈c->x.length=9:=by intro x t;obtain⟨j,b,rfl⟩:=iP.1 t;obtain⟨_,e,_⟩:=f j b (by omega);rw[e];rfl
 obtain⟨a,e,o⟩:=f i d r;refine⟨a,fun j b=>?_,o⟩;have q:=k.cellAt (i*9+j) (by omega);rw[q,CD p d b,e]
theorem RO(P u F L z C o v w)(a3:AnOk P z C)(h:Ed P u F L z C o v w)(c nb:Nat)(m:Nat->Prop)(hs:Bn nb m w)(hn:¬o.own u nb)(g6:v.s.le (least P))(hm:∀t,m t->v.s.I c t)(hW:∀r,v.W c r->LZ P r/\AS r/\r.at=c)(hl:(o.rl c).length<=100000)(hc:AM P z c):
 Calls prog 87 #[.pointer (T ⟨u,0,Z⟩),G A c,.map (T nb)] w fun e w'=>e=.returned (.tuple #[])/\Nx P u F L z C o v w w' (fun v'=>(∀b t,v.s.F c b->m t->v'.s.I b t)/\∀r t,v.W c r->m t->Dk P r t v'.s):=by
 obtain⟨kf,g5⟩:=(h.r.d0 c 3 (.inr rfl)).2 hc;have lc:c<16400:=hc.lt a3.dC a3.ok.t8 a3.lp;have p7:=h.r.cI.cell 7;have e9:=Ae h.r.cI;simp only[Hh,gR,gP,gQ]at p7;have l3:=((h.r.mp 3 (by omega)).look Eh underlying67 (Cs w) (k:=c) (by omega) false).2 kf g5;have h0:=(h.r.st 3 c kf g5).iff (m':=v.s.F c) fun n=>by simp[Ch]
 unfold Hd at l3;have k6:=hs.lt;obtain⟨HA,H,B,i3,d3,HM,HW,f4⟩:=En a3 h h0 hs g6 hm hW hn;clear h h0 hs g6 hm hW hn a3;go_enter func87,ntmps87;go_wp2_with fail;refine(DZ kf (v.s.F c) w B.o H.o.tb H.o.tl).mono ?_;rintro e w1 ⟨nv,l,rfl,V,a7,a2,d⟩;obtain⟨na,nl,nc,rfl⟩:=Ad V;have e7:=Ag V;subst e7;obtain⟨d1,i0,i4⟩:=Ax (H.o.s9 d) (Aq V (iF _)) (i3.o.d8 d id);have j7:l.length<=19200:=DQ 19200 l a7 fun x hx=>by obtain⟨_,_,f0⟩:=B.o;exact f0.lt ((a2 x).1 hx)
 have f2:=J a2;have k1:=d.size;have f5:=J d;have SW:D (Ee P u F L z C o o v w1 w1):=⟨d1.o.r,fun _ q=>.inl q,rfl,O.refl _ _⟩;clear V a7 a2 d B p7 l3 e9;go_wp2_with fail;go_loopw[21] (fun i wr=>∃(k:Nat) (d:So) (y:Sv),k<=l.length/\i=G A k/\D (Ee P u F L z C o d y w1 wr)/\D (v.up y/\(∀X,BQ P X v->BQ P X y)/\∀j b t,j<k->l[j]? =T b->m t->y.s.I b t)) (fun i _=>l.length-(intOf i).toNat)
 case atStart=>exact⟨0,o,v,by omega,rfl,SW,⟨.rf _,fun _ q=>q,fun j a _ q=>by omega⟩⟩
 case round=>
  clear SW;obtain⟨k,d,y,hk,rfl,HS,HQ⟩:=hrel;have a5:=d1.o.next HS.o;have j4:¬d.own u nb:=fun q=>(HS.o.ow _ q).elim f4.o fun q=>by omega
  have d0:=i4.o.d8 HS.o.on f4.o;by_cases a1:k<l.length
  .have b9:=d1.o.r.ints i0.o HS.o.on;obtain⟨gl,rfl⟩:=Ap b9 (by omega);have a6:=b9.cellAt k (by omega);rw[iV,gV a1]at a6;simp only[Option.map_some]at a6;have j5:=(b9.lt gl rfl).2;have hF:=(f2.o l[k]).1 (iA _);have e0:=d3.o.f _ _ hF;have e1:=(Yy HA.o e0).2;have k5:=e1.lt HA.o.dC HA.o.ok.t8 HA.o.lp;obtain⟨kb,e4⟩:=(a5.r.d0 l[k] 0 (.inl rfl)).2 e1;have j2:nb≠kb:=fun q=>j4 (q▸.inr (.inr (.inl ⟨0,_,e4⟩)))
   have e5:(k:Int)<(l.length:Int):=by omega
   have e3:k+1<=l.length:=a1;have HG:=J (gV a1);obtain⟨h3,h9,a4,a9⟩:=Ba e0 e4 a5 d0;clear b9 hF e0 e1 e4 a5 d0;generalize l[k]=x at*;go_wp2_with fail;refine(Js P u F L z C d y wr x kb nb m a4.o.r h9.o a9.o (by omega) j2).mono ?_;rintro e w2 ⟨rfl,f,s2⟩;have U:=J (HS.o.trans s2);have M:D (v.up (y.give x m)/\(∀X,BQ P X v->BQ P X (y.give x m))/\∀j b t,j<k+1->l[j]? =T b->m t->(y.give x m).s.I b t):=⟨HQ.o.1.tr (Sv.give_up _ _ _),fun X q=>(HQ.o.2.1 X q).give fun t K=>(Ew P).flow c x t h3.o (d3.o.i c t (HM.o t K)),fun j b t Q I K=>by
    by_cases e:j=k
    .subst e;rw[HG.o]at I;cases I;exact .inr ⟨rfl,K⟩
    .exact .inl (HQ.o.2.2 j b t (by omega) I K)⟩
   clear s2 HQ HS;go_wp2_with fail;go_roundw
   case rel=>exact⟨k+1,f,_,e3,by go_num,U,M⟩
   case measure=>simp[intOf];omega
  .have e:k=l.length:=by omega
   subst e;have e5:decide ((l.length:Int)<(l.length:Int))=false:=by simp
   have a4:=J a5;have a9:=J d0;clear a5 d0;go_wp2_with fail;refine(DZ nb m wr a9.o a4.o.tb a4.o.tl).mono ?_;rintro e w2 ⟨nv,s,rfl,V,a7,a2,f⟩;obtain⟨k7,k9,k8,rfl⟩:=Ad V;have e7:=Ag V;subst e7;have j8:s.length<=19200:=DQ 19200 s a7 fun x hx=>by obtain⟨_,_,f0⟩:=a9.o;exact f0.lt ((a2 x).1 hx)
   obtain⟨a0,i1,f3⟩:=Ax (a4.o.s9 f) (Aq V (iF _)) a2;have k2:=f.size;have i5:=J f;have e8:d.rl=o.rl:=congrArg Prod.fst HS.o.rl;have j9:(d.rl c).length<=100000:=by rw[e8];exact hl
   have g4:=a0.o.r.fwAt c;obtain⟨fa,fl,fc,e2,i9⟩:∃a l cc,JV d c=Y a l cc/\l=(d.rl c).length:=by obtain⟨cs,q,_⟩:=g4;obtain⟨a,l,cc,e⟩:=Ad q;rw[e]at q;exact⟨a,l,cc,e,Ag q⟩
   subst i9;have lk:(Instr.lookup 118 (.map (T (d.om 5))) (G A c) false).run prog w2=.ok (Y fa (d.rl c).length fc) w2:=by
    rw[<-e2];have q:=a0.o.r.fm.look Xj underlying118 (QK w2) (k:=c) (by omega) false;unfold JV;cases hq:d.fw c with
    |none=>exact q.1 hq
    |some t=>exact q.2 t hq
   have p8:=a0.o.r.cI.cell 8;have e9:=Ae a0.o.r.cI;simp only[Hh,gR,gP,gQ]at p8;have SW:D (Ee P u F L z C d d y w2 w2):=⟨a0.o.r,fun _ q=>.inl q,rfl,O.refl _ _⟩;have f6:=J e8;have h4:=J e2;clear V a7 a2 f e8 e2 g4;go_wp2_with fail;go_loopw[39] (fun i wr=>∃(k:Nat) (f:So) (E:Sv),k<=(d.rl c).length/\i=G A k/\D (Ee P u F L z C d f E w2 wr)/\D (y.up E/\(∀X,BQ P X y->BQ P X E)/\∀j r t,j<k->(d.rl c)[j]? =T r->m t->Dk P r t E.s)) (fun i _=>(d.rl c).length-(intOf i).toNat)
   case atStart=>exact⟨0,d,y,by omega,rfl,SW,⟨.rf _,fun _ q=>q,fun j a _ q=>by omega⟩⟩
   case round=>
    clear SW p8 lk e9;obtain⟨k,f,E,hk,rfl,U,M⟩:=hrel;have d8:=a0.o.next U.o;by_cases a1:k<(d.rl c).length
    .have a8:=d8.r.fwAt c;have q1:f.rl=d.rl:=congrArg Prod.fst U.o.rl;have q2:f.fw=d.fw:=congrArg Prod.snd U.o.rl;have q3:JV f c=JV d c:=by unfold JV;rw[q2]
     rw[q1,q3,h4.o]at a8;obtain⟨g,rfl⟩:∃g,fa=T ⟨g,0,Z⟩:=by obtain⟨cs,q,_⟩:=a8;exact Ap q (by omega)
     have lg:g<wr.heap.size:=by obtain⟨cs,q,_⟩:=a8;exact(q.lt g rfl).2
     obtain⟨av,N,hI⟩:=a8.get a1;have c0:=N 0 (by omega);have c1:=N 1 (by omega);have c2:=N 2 (by omega);have c3:=N 3 (by omega);have c4:=N 4 (by omega);have c5:=N 5 (by omega);have c6:=N 6 (by omega);have c7:=N 7 (by omega);have c8:=N 8 (by omega);simp only[YO,Kr,gP,gQ,iH]at c0 c1 c2 c3 c4 c5 c6 c7 c8;have hv:v.W c (d.rl c)[k]:=(H.o.r.fvr c _).2 (by rw[<-f6.o];exact iA _);have g9:=HW.o _ hv;have HG:=J (gV a1);have e5:(k:Int)<((d.rl c).length:Int):=by omega
     have e3:k+1<=(d.rl c).length:=a1;obtain⟨aa,al,ac,rfl⟩:=Ad hI;have i8:=Ag hI;subst i8;obtain⟨HI,d5,f1⟩:=Ax hI g9 d8;clear a8 N hI hv g9 d8 q1 q2 q3;generalize (d.rl c)[k]=r at*;have o5:O kJ wr (wr.alloc (.cells (KM r (Y aa r.s.args.length ac)) 192)):=(O.refl _ wr).alloc _;have g3:=W.new wr (KM r (Y aa r.s.args.length ac)) 192;have d9:=f1.o.s9 o5;have f9:=Ac HI.o o5 (fun _ _ q=>q);have g2:=Ac (a0.o.r.ints i1.o U.o.on) o5 (fun _ _ q=>q);have j3:¬f.own u wr.heap.size:=fun q=>by have:=f1.o.r.ownLt q;omega
     have k0:(wr.alloc (.cells (KM r (Y aa r.s.args.length ac)) 192)).heap.size=wr.heap.size+1:=by simp
     go_upto_block 4 with fail;generalize wr.alloc (.cells (KM r (Y aa r.s.args.length ac)) 192)=W5 at*;have f7:D (Ee P u F L z C f f E W5 W5):=⟨d9.r,fun _ q=>.inl q,rfl,O.refl _ _⟩;obtain⟨d2,h6,i2,h1,i6⟩:=BB d9 f9 g2 g3 o5;clear c0 c1 c2 c3 c4 c5 c6 c7 c8 d9 f9 g2 g3 o5 lg;generalize wr.heap.size=rb at*;go_wp2_with fail;go_loopw[45] (fun i wi=>∃(p:Nat) (o3:So) (R:Sv),p<=s.length/\i=G A p/\D (Ee P u F L z C f o3 R W5 wi)/\D (E.up R/\(∀X,BQ P X E->BQ P X R)/\∀j t,j<p->s[j]? =T t->Dk P r t R.s)) (fun i _=>s.length-(intOf i).toNat)
     case atStart=>exact⟨0,f,E,by omega,rfl,f7,⟨.rf _,fun _ q=>q,fun j a q=>by omega⟩⟩
     case round=>
      clear f7;obtain⟨p,o3,R,j6,rfl,B,S⟩:=hrel;have f8:=d2.o.next B.o;by_cases e6:p<s.length
      .have c9:=d2.o.r.ints i2.o B.o.on;have g0:=d2.o.r.ints h6.o B.o.on;have d7:=h1.o.d8 B.o.on j3;obtain⟨gl,rfl⟩:=Ap c9 (by omega);have a6:=c9.cellAt p (by omega);rw[iV,gV e6]at a6;simp only[Option.map_some]at a6;have j5:=(c9.lt gl rfl).2;have g7:=(f3.o s[p]).1 (iA _);have g1:(least P).I r.at s[p]:=by rw[d5.o.2.2];exact d3.o.i _ _ (HM.o _ g7)
       have h5:=J (gV e6);have j1:(p:Int)<(s.length:Int):=by omega
       have j0:p+1<=s.length:=e6;obtain⟨b0,b1,b2,b3,b4,b5,b6,b7,b8⟩:=d7.e9 0 1 2 3 4 5 6 7 8;have k4:=Ae d7;simp only[gR,gP,gQ]at b0 b1 b2 b3 b4 b5 b6 b7 b8;obtain⟨h2,h7,h8⟩:=Ax f8 g0 g1;clear c9 g0 d7 f8 g7 g1;generalize s[p]=x at*;go_wp2_with fail;refine(Ry P u F L z C o3 R wr HA.o h2.o r x (Y aa r.s.args.length ac) h7.o d5.o.1 d5.o.2.1 h8.o).mono ?_;rintro e w7 ⟨rfl,o7,v7,s7,u7,i7,q7⟩;have d6:=J (B.o.trans s7);have d4:D (E.up v7/\(∀X,BQ P X E->BQ P X v7)/\∀j t,j<p+1->s[j]? =T t->Dk P r t v7.s):=⟨S.o.1.tr u7,fun X q=>i7 X (S.o.2.1 X q),fun j t Q I=>by
        by_cases e:j=p
        .subst e;rw[h5.o]at I;cases I;exact q7
        .exact(S.o.2.2 j t (by omega) I).up u7.le.s⟩
       clear s7 u7 i7 q7 S B;go_wp2_with fail;go_roundw
       case rel=>exact⟨p+1,o7,v7,j0,by go_num,d6,d4⟩
       case measure=>simp[intOf];omega
      .have e:p=s.length:=by omega
       subst e;have j1:decide ((s.length:Int)<(s.length:Int))=false:=by simp
       have d6:=J ((U.o.s9 i6.o).trans B.o);have d4:D (y.up R/\(∀X,BQ P X y->BQ P X R)/\∀j r t,j<k+1->(d.rl c)[j]? =T r->m t->Dk P r t R.s):=⟨M.o.1.tr S.o.1,fun X q=>S.o.2.1 X (M.o.2.1 X q),fun j r' t Q I K=>by
        by_cases e:j=k
        .subst e;rw[HG.o]at I;cases I;obtain⟨i,hi,e⟩:=iP.1 ((f3.o t).2 K);exact S.o.2.2 i t hi (by rw[gV hi,e])
        .exact(M.o.2.2 j r' t (by omega) I K).up S.o.1.le.s⟩
       clear M U S B;go_wp2_with fail;go_roundw
       case rel=>exact⟨k+1,o3,R,e3,by go_num,d6,d4⟩
       case measure=>simp[intOf];omega
    .have e:k=(d.rl c).length:=by omega
     subst e;have e5:decide (((d.rl c).length:Int)<((d.rl c).length:Int))=false:=by simp
     have HX:D (Nx P u F L z C o v w wr (fun v'=>(∀b t,v.s.F c b->m t->v'.s.I b t)/\∀r t,v.W c r->m t->Dk P r t v'.s)):=by
      have t1:=(HS.o.s9 i5.o).trans U.o;refine⟨f,E,⟨t1.r,fun j Q=>(t1.ow j Q).imp id fun q=>iG f5.o.size q,t1.rl,(f5.o.mono (fun _ _ q=>q.elim)).trans t1.on⟩,HQ.o.1.tr M.o.1,fun X q=>M.o.2.1 X (HQ.o.2.1 X q),fun b t hF K=>?_,fun r t hr K=>?_⟩
      .obtain⟨j,Q,e⟩:=iP.1 ((f2.o b).2 hF);exact M.o.1.le.s.i _ _ (HQ.o.2.2 j b t Q (by rw[gV Q,e]) K)
      .have g8:=(H.o.r.fvr c r).1 hr;rw[<-f6.o]at g8;obtain⟨j,Q,e⟩:=iP.1 g8;exact M.o.2.2 j r t Q (by rw[gV Q,e]) K
     go_wp2_with fail;go_end0;exact⟨rfl,HX.o⟩
structure Gu(P:List PFn)(g:Nat)(m:Value)(n p l:Nat)(o o':So)(v':Sv)(w w':World):Prop where
 e:Ed P g m n p l o' v' w'
 ow:∀k,o'.own g k->o.own g k\/w.heap.size<=k
 on:O (o.own g) w w'
section
variable{P:List PFn}{g:Nat}{m:Value}{n p l:Nat}{o x y:So}{v B C:Sv}{w s w2:World}
theorem Gu.rf(h:Ed P g m n p l o v w):Gu P g m n p l o o v w w:=⟨h,fun _ q=>.inl q,O.refl _ _⟩
theorem Gu.more(h:Gu P g m n p l o x B w s)(r:BN P g m n p l y C w2)(b:∀k,y.own g k->x.own g k\/s.heap.size<=k)(a:O (x.own g) s w2):Gu P g m n p l o y C w w2:=
 ⟨h.e.nxt r b a,fun k c=>(b k c).elim (h.ow k) fun q=>.inr (iG h.on.size q),h.on.thn a fun j d q=>(h.ow j q).elim id fun r=>jY r (by omega)⟩
theorem Gu.s9(h:Gu P g m n p l o x B w s)(k:O kJ s w2):Gu P g m n p l o x B w w2:=⟨h.e.s9 k,h.ow,h.on.dM k⟩
structure Ph(P:List PFn)(o:So)(v:Sv)(D:Rl->Prop)(cnt:Nat):Prop where
 raw:v.raw
 ok:BQ P (fun _ _=>False) v
 w:∀a q,v.W a q->LZ P q/\AS q/\q.at=a
 d:∀r,D r->KY P r v.s/\(AS r->v.W r.at r)
 len:∀c,(o.rl c).length<=cnt
theorem Ph.next{o i v j d e r}(h:Ph P o v d e)(k:bW P g m n p l o i v j w s r)(u:LZ P r){E:Rl->Prop}(t:∀q,E q->d q\/q=r):Ph P i j E (e+1):=by
 refine⟨k.raw h.raw,k.ok _ h.raw h.ok,fun a q b=>?_,fun q b=>?_,fun c=>iG (k.len c) (Nat.succ_le_succ (h.len c))⟩
 .rcases k.w2 a q b with z|⟨F,H,I⟩
  .exact h.w a q z
  .rw[I];exact⟨u,F,H.symm⟩
 .rcases t q b with z|rfl
  .exact⟨(h.d q z).1.up k.le,fun f=>k.w1 _ _ ((h.d q z).2 f)⟩
  .exact⟨k.beg,k.fol⟩
structure Zp(P:List PFn)(o:So)(v:Sv):Prop where
 ok:BQ P (fun _ _=>False) v
 w:∀a q,v.W a q->LZ P q/\AS q/\q.at=a
 b:∀r,LZ P r->KY P r v.s/\(AS r->v.W r.at r)
 len:∀c,(o.rl c).length<=100000
theorem Zp.later{o i v d}(h:Zp P o v)(u:v.took.up d)(k:BQ P (fun _ _=>False) d)(b:i.rl=o.rl):Zp P i d:=
 ⟨k,fun a q e=>h.w a q (by have:=u.le.w;rw[this]at e;exact e),fun r b=>⟨(h.b r b).1.up u.le.s,fun f=>by rw[u.le.w];exact(h.b r b).2 f⟩,fun c=>by rw[b];exact h.len c⟩
theorem Ed.d8(h:Ed P g m n p l o v w){X:Nat->Prop}(c:O X w s)(f:∀k,X k->¬o.own g k)(d:∀k a t b,X k->w.heap[k]? ≠T (.cells a t b))(e:¬X 0):Ed P g m n p l o v s:=
 ⟨h.r.d8 c f (fun k a b q=>d k a _ b q),h.pl.d8 c (fun k a t b q r=>jY r (d k a t b q)),h.tb.d8 c e h.tl,iI h.tl c.size,h.tn⟩
theorem Ed.took(h:Ed P g m n p l o v w){a}(r:w.heap.size<=a)(j:BW IU IT a (fun _=>Z) s)(f:W g (Hh (o.tk a) m n p l) 120 s)(c:O (fun k=>k=g) w s):Ed P g m n p l (o.tk a) v.took s/\∀k,(o.tk a).own g k->o.own g k\/k=a:=by
 have d:∀k,(o.tk a).own g k->o.own g k\/k=a:=fun k b=>by
  rcases b with q|⟨t,u,q⟩|⟨t,i,q⟩|q
  .exact .inl (.inl q)
  .by_cases e:t=2
   .rw[e,So.tk_2]at q;exact .inr q
   .rw[So.tk_om e]at q;exact .inl (.inr (.inl ⟨t,u,q⟩))
  .exact .inl (.inr (.inr (.inl ⟨t,i,(So.tk_bk q).2⟩)))
  .exact .inl (.inr (.inr (.inr q)))
 exact⟨h.nxt (h.r.took r j f c) (fun k b=>(d k b).imp id fun q=>by omega) (c.mono fun k _ q=>.inl q),d⟩
end
theorem Zp.done{P:List PFn}{g:Nat}{m:Value}{n p l:Nat}{o:So}{v:Sv}{w:World}(h:Zp P o v)(k:BN P g m n p l o v w)(b:∀c,o.bk 2 c=Z):v.s.le (least P)/\(least P).le v.s:=by refine h.ok.done (fun c t q=>?_) (fun r a=>(h.b r a).1) (fun r a=>(h.b r a).2);obtain⟨d,e⟩:=k.ins 2 c t (by omega) (LJ.2 q);rw[b c]at e;cases e
theorem U0(P d fv F E C o v w)(b5:AnOk P E C)(h:Ed P d fv F E C o v w)(h0:Ph P o v (fun _=>False) 0):
 Calls prog 41 #[.pointer (T ⟨d,0,Z⟩)] w fun e w'=>e=.returned (.tuple #[])/\∃o' v',Gu P d fv F E C o o' v' w w'/\v'.s.le (least P)/\(least P).le v'.s:=by
 obtain⟨Q,fl,K,k2,k1⟩:∃a l c,fv=Y a l c/\l=P.length:=by obtain⟨cs,q,_⟩:=h.pl;obtain⟨a,l,c,e⟩:=Ad q;rw[e]at q;exact⟨a,l,c,e,Ag q⟩
 subst k1;subst k2;have l6:=b5.dC;have p0:=h.r.cI.cell 0;have b3:=Ae h.r.cI;simp only[Hh,gR,gP]at p0;have X:=J b5;have B0:D (Gu P d (Y Q P.length K) F E C o o v w w):=Gu.rf h;have H0:=J h0;clear h b5 h0;go_enter func41,ntmps41;go_wp2_with fail;go_loopw[14] (fun i wr=>∃(k:Nat) (N:So) (V:Sv),k<=P.length/\i=G A k/\D (Gu P d (Y Q P.length K) F E C o N V w wr)/\D (Ph P N V (fun r=>LZ P r/\r.f<k) (k*4001))) (fun i _=>P.length-(intOf i).toNat)
 case atStart=>exact⟨0,o,v,by omega,rfl,B0,⟨H0.o.raw,H0.o.ok,H0.o.w,fun r q=>by omega,fun c=>by have:=H0.o.len c;omega⟩⟩
 case round=>
  clear B0 H0 p0 b3;obtain⟨k,N,V,hk,rfl,p,y⟩:=hrel;by_cases a4:k<P.length
  .obtain⟨gf,rfl⟩:∃g,Q=T ⟨g,0,Z⟩:=by obtain⟨cs,q,_⟩:=p.o.e.pl;exact Ap q (by omega)
   have l4:gf<wr.heap.size:=by obtain⟨cs,q,_⟩:=p.o.e.pl;exact(q.lt gf rfl).2
   obtain⟨vv,sv,f5,_,b2⟩:=p.o.e.pl.get a4
   obtain⟨sa,sc,rfl,d5⟩:=b2.form
   have c3:=f5 3 (by omega)
   simp only[OA,gP,gQ]at c3
   have d3:As P k=P[k]:=by unfold As;rw[gV a4];rfl
   rw[<-d3]at c3 b2 d5
   have p0:=p.o.e.r.cI.cell 0
   have b3:=Ae p.o.e.r.cI
   simp only[Hh,gR,gP]at p0
   have l9:=X.o.ok.many k
   have k6:(k:Int)<(P.length:Int):=by omega
   have k5:k+1<=P.length:=a4
   have l5:=J d3
   have B1:D (Gu P d (Y (T ⟨gf,0,Z⟩) P.length K) F E C o N V w wr):=p.o
   have Q1:D (Ph P N V (fun r=>LZ P r/\(r.f<k\/(r.f=k/\∃j,j<0/\(As P k).r9[j]? =T r.s))) (k*4001+0)):=⟨y.o.raw,y.o.ok,y.o.w,fun r q=>by
    rcases q with⟨q1,q2|⟨_,j,q2,_⟩⟩
    .exact y.o.d r ⟨q1,q2⟩
    .omega,fun c=>y.o.len c⟩
   have j7:=J b2
   have S1:D (Gu P d (Y (T ⟨gf,0,Z⟩) P.length K) F E C N N V wr wr):=Gu.rf p.o.e
   have j5:=J d5
   clear f5 d3 p y b2 d5
   go_wp2_with fail
   clear p0 b3 c3 l4
   go_loopw[27] (fun i wi=>∃(j:Nat) (b:So) (f:Sv),j<=(As P k).r9.length/\i=G A j/\D (Gu P d (Y (T ⟨gf,0,Z⟩) P.length K) F E C N b f wr wi)/\D (Ph P b f (fun r=>LZ P r/\(r.f<k\/(r.f=k/\∃i,i<j/\(As P k).r9[i]? =T r.s))) (k*4001+j))) (fun i _=>(As P k).r9.length-(intOf i).toNat)
   case atStart=>exact⟨0,N,V,by omega,rfl,S1,Q1⟩
   case round=>
    obtain⟨j,b,f,hj,rfl,a2,a1⟩:=hrel;by_cases c9:j<(As P k).r9.length
    .obtain⟨gs,rfl,i2⟩:=j5.o (by omega);have h6:=j7.o.d8 a2.o.on S1.o.e.r.noPlan;have m8:gs<wr.heap.size:=iI i2 a2.o.on.size;obtain⟨av,a0,hI⟩:=h6.get c9;have c0:=a0 0 (by omega);have c1:=a0 1 (by omega);have c2:=a0 2 (by omega);have c3:=a0 3 (by omega);have c4:=a0 4 (by omega);have c5:=a0 5 (by omega);have c6:=a0 6 (by omega);have c7:=a0 7 (by omega);simp only[Kr,gP,gQ,iH]at c0 c1 c2 c3 c4 c5 c6 c7;have g1:(As P k).r9[j]∈(As P k).r9:=iA _;have HG:=J (gV c9);have k4:(j:Int)<((As P k).r9.length:Int):=by omega
     have k3:j+1<=(As P k).r9.length:=c9;obtain⟨aa,al,ac,rfl⟩:=Ad hI;have j9:=Ag hI;subst j9;have HI:=J hI;have e4:=J g1;clear h6 a0 hI g1 S1 Q1 i2;generalize (As P k).r9[j]=s at*;have o5:O kJ wr (wr.alloc (.cells (Kr s (Y aa s.args.length ac)).toArray 189)):=(O.refl _ wr).alloc _;have e8:=a2.o.s9 o5;have f3:=Ac HI.o o5 (fun _ _ q=>q);have d8:=J e8;have i3:=J f3;clear e8 f3 o5;go_wp2_with fail;refine(TY P d _ F E C b f _ X.o d8.o.e ⟨k,s⟩ (Y aa s.args.length ac) i3.o ⟨a4,e4.o⟩ (fun c=>by have:=a1.o.len c;omega)).mono ?_;rintro e w6 ⟨rfl,o6,v6,b6⟩;have b9:=J (d8.o.more b6.so b6.ow b6.on);have b8:D (Ph P o6 v6 (fun r=>LZ P r/\(r.f<k\/(r.f=k/\∃i,i<j+1/\(As P k).r9[i]? =T r.s))) (k*4001+(j+1))):=a1.o.next b6 ⟨a4,e4.o⟩ fun q hq=>by
      rcases hq with⟨q1,q2|⟨q2,i,q3,q4⟩⟩
      .exact .inl ⟨q1,.inl q2⟩
      .by_cases e:i=j
       .subst e;rw[HG.o]at q4;refine .inr ?_;obtain⟨qf,qs⟩:=q;simp only[gX]at q2 q4;rw[q2,q4]
       .exact .inl ⟨q1,.inr ⟨q2,i,by omega,q4⟩⟩
     clear b6;go_wp2_with fail;go_roundw
     case rel=>exact⟨j+1,o6,v6,k3,by go_num,b9,b8⟩
     case measure=>simp[intOf];omega
    .have e:j=(As P k).r9.length:=by omega
     subst e;have k4:decide (((As P k).r9.length:Int)<((As P k).r9.length:Int))=false:=by simp
     have b9:=J (B1.o.more a2.o.e.r a2.o.ow a2.o.on);have b8:D (Ph P b f (fun r=>LZ P r/\r.f<k+1) ((k+1)*4001)):=⟨a1.o.raw,a1.o.ok,a1.o.w,fun r hr=>by
      refine a1.o.d r ⟨hr.1,?_⟩;by_cases e:r.f=k
      .refine .inr ⟨e,?_⟩;have:=hr.1.2;rw[e]at this;obtain⟨i,hi,e2⟩:=iP.1 this;exact⟨i,hi,by rw[gV hi,e2]⟩
      .exact .inl (by have:=hr.2;omega),fun c=>by have:=a1.o.len c;omega⟩
     clear a2 a1 S1 Q1;go_wp2_with fail;go_roundw
     case rel=>exact⟨k+1,b,f,k5,by go_num,b9,b8⟩
     case measure=>simp[intOf];omega
  .have e:k=P.length:=by omega
   subst e;have k6:decide ((P.length:Int)<(P.length:Int))=false:=by simp
   have Q2:D (Zp P N V):=⟨y.o.ok,y.o.w,fun r hr=>y.o.d r ⟨hr,hr.1⟩,fun c=>by have:=y.o.len c;omega⟩;have B2:D (Gu P d (Y Q P.length K) F E C o N V w wr):=p.o;obtain⟨mf,g2⟩:=Ou;obtain⟨M,hJ⟩:∃M:Nat->World->Prop,M=fun n wz=>∃(b:So) (f:Sv),D (Gu P d (Y Q P.length K) F E C o b f w wz)/\D (Zp P b f)/\D (f.left 16400 n):=⟨_,rfl⟩
   have d9:D (∃n,M n wr):=⟨_,by rw[hJ];exact⟨N,V,B2,Q2,rfl⟩⟩;have HJ:=J hJ;have e3:=J g2;clear y p Q2 B2 hJ g2;go_wp2_with fail;go_loopw[] (fun wz=>∃n,M n wz) (fun wz=>mf (fun n=>M n wz))
   case atStart=>exact d9.o
   case round=>
    clear d9;obtain⟨n0,g3⟩:=hrel;have g4:=(e3.o (fun n=>M n wr) n0 g3).1;obtain⟨nn,d1⟩:∃nn,nn=mf (fun n=>M n wr):=⟨_,rfl⟩;have g5:M nn wr:=by rw[d1];exact g4
    rw[HJ.o]at g5;obtain⟨b,f,I,y,HL⟩:=g5;have i9:=J d1;clear g3 g4 d1 n0;have hR:=I.o.e.r;have p6:=hR.cI.cell 6;have f6:=hR.cI.frozen 6;have b3:=Ae hR.cI;simp only[Hh,gR,gP,gQ]at p6;have b0:=hR.mp 2 (by omega);obtain⟨ln,l8,k7,a9⟩:=b0.len underlying67 3;have m9:=b0.lt;by_cases hz:ln=0
    .subst hz;have HD:=J (y.o.done hR (a9.1 rfl));clear hR b0 a9 HL;go_wp2_with fail;go_end0;exact⟨rfl,b,f,I.o,HD.o⟩
    .have l7:0<ln:=by omega
     have hv:∃c t,c<16400/\t<16400/\f.N c t:=by
      apply Classical.byContradiction;intro q;refine hz (a9.2 fun c=>?_);cases hq:b.bk 2 c with
      |none=>rfl
      |some x=> obtain⟨t,ht⟩:=hR.d2 c x hq;have hi:=Du X.o (y.o.ok.le.i _ _ (y.o.ok.np c t ht));exact jY ⟨c,t,hi.1.lt X.o.dC X.o.ok.t8 X.o.lp,hi.2.lt X.o,ht⟩ q
     have a5:=@run_makeMap prog;have HV:=J hv;clear hz a9 hv hR b0;go_upto_region 12 with fail;have h7:(wr.setCell ⟨d,6,Z⟩ (.map (T wr.heap.size))).heap.size=wr.heap.size:=by simp
     have f4:W d (Hh (b.tk wr.heap.size) (Y Q P.length K) F E C) 120 ((wr.setCell ⟨d,6,Z⟩ (.map (T wr.heap.size))).alloc (.map #[] 0)):=(I.o.e.r.cI.set 6 (.map (T wr.heap.size))).alloc _;have g0:BW IU IT wr.heap.size (fun _=>Z) ((wr.setCell ⟨d,6,Z⟩ (.map (T wr.heap.size))).alloc (.map #[] 0)):=by have q:=BW.made (R:=IU) (dc:=IT) (wr.setCell ⟨d,6,Z⟩ (.map (T wr.heap.size)));rw[h7]at q;exact q
     have a6:O (fun k=>k=d) wr ((wr.setCell ⟨d,6,Z⟩ (.map (T wr.heap.size))).alloc (.map #[] 0)):=((O.refl _ wr).t9 6 _).alloc _;have l2:((wr.setCell ⟨d,6,Z⟩ (.map (T wr.heap.size))).alloc (.map #[] 0)).heap.size=wr.heap.size+1:=by simp
     obtain⟨f0,g9⟩:=I.o.e.took (gS _) g0 f4 a6;have g8:=I.o.e.r.outk (gS wr.heap.size);clear f4 g0 h7;generalize (wr.setCell ⟨d,6,Z⟩ (.map (T wr.heap.size))).alloc (.map #[] 0)=S at*;have l0:b.om 2≠d:=by obtain⟨_,_,e⟩:=(I.o.e.r.mp 2 (by omega)).isMap;exact(I.o.e.r.dU e).1
     have e1:=J ((I.o.e.r.mp 2 (by omega)).d8 a6 l0);have h5:∀c x,b.bk 2 c=T x->Bn x (f.N c) S/\x<wr.heap.size:=fun c x hx=>by have q:=I.o.e.r.st 2 c x hx;obtain⟨_,_,e⟩:=q.isMap;exact⟨(q.d8 a6 (I.o.e.r.dU e).1).iff fun t=>LJ,q.lt⟩
     obtain⟨j6,a8,e6,e5,j0⟩:=BB h5 f0 g9 g8 a6;have n1:b.om 2<S.heap.size:=by omega
     clear h5 f0 g9 g8 a6 p6 f6 k7 a5;go_wp2_with(at_range;refine EC _ rfl _ 67 rfl 69 underlying67 (b.om 2) rfl e1.o ?_;intro w3 a3 d2 h2);try go_frame
     obtain⟨H,h1⟩:∃H,H=S.heap.size:=⟨_,rfl⟩;rw[<-h1]at a3 h2⊢;have R0:=J a3;have g6:¬(b.tk wr.heap.size).own d H:=fun q=>by have:=a8.o.r.ownLt q;omega
     have S0:D (Ee P d (Y Q P.length K) F E C (b.tk wr.heap.size) (b.tk wr.heap.size) f.took S w3):=⟨(a8.o.s9 d2).r,fun _ q=>.inl q,rfl,d2.mono fun _ _ q=>q.elim⟩;have K0:D (f.took.up f.took/\BQ P (fun a t=>(∃x,b.bk 2 a=T x)/\f.N a t) f.took):=⟨.rf _,y.o.ok.took.kept fun c t q=>⟨I.o.e.r.ins 2 c t (by omega) (LJ.2 q),q⟩⟩;have e7:=J g6;have m0:S.heap.size<=H:=by omega
     have m1:H<=S.heap.size:=by omega
     have m5:wr.heap.size<S.heap.size:=by omega
     have m6:S.heap.size<=wr.heap.size+1:=by omega
     clear a3 d2 g6 e1 h1 l2 h2;generalize i0:wr=wz at*;have j8:=J i0;clear i0;go_loopw[] (fun wi=>∃(b4:Nat->Prop) (U:So) (L:Sv),D (FY IU IT (b.om 2) H (b.bk 2) b4 wi)/\D (Ee P d (Y Q P.length K) F E C (b.tk wz.heap.size) U L S wi)/\D (f.took.up L/\BQ P (fun a t=>b4 a/\f.N a t) L)/\D (¬U.own d H)) (fun wi=>wi.rangeLeft (b.om 2) H)
     case atStart=>exact⟨_,_,_,R0,S0,K0,e7⟩
     case round=>
      clear R0 S0 K0 e7;obtain⟨b4,U,L,HR,p,HK,b7⟩:=hrel;go_wp2_with(at_next;refine EU _ rfl _ rfl Eh (b.om 2) H rfl HR.o ?_ ?_);rotate_left
      .intro k x w4 hk m3 c8 a3 k8 b1 m4 k0;unfold Hd at k0;obtain⟨_,_,_,_,f8⟩:=HR.o.iter;have l3:0≠H:=by have:=a8.o.tl;omega
       have f1:=a8.o.next p.o;have f2:=f1.d8 b1 (fun z q=>by rw[q];exact b7.o) (fun z cs t fz q r=>by rw[q,f8]at r;cases r) (fun q=>l3 q);obtain⟨h3,m7⟩:=j6.o k x c8;have d6:=e5.o.1 k x c8;have i1:¬U.own d x:=fun q=>(p.o.ow _ q).elim d6 fun q=>by omega
       have h4:=(h3.d8 p.o.on d6).d8 b1 (fun q=>by omega);obtain⟨t0,h8⟩:=I.o.e.r.d2 k x c8;have f7:=(Du X.o (y.o.ok.le.i _ _ (y.o.ok.np k t0 h8))).1;have a7:U.rl=b.rl:=congrArg Prod.fst p.o.rl;have m2:H<w4.heap.size:=a3.ltr;have d0:∀t,f.N k t->L.s.I k t:=fun t ht=>HK.o.1.le.s.i _ _ (y.o.ok.np k t ht)
       have h9:∀r,L.W k r->LZ P r/\AS r/\r.at=k:=fun r hr=>y.o.w k r (by have:=HK.o.1.le.w;rw[this]at hr;exact hr)
       obtain⟨d7,j3,j1,i7⟩:=Ba (RO P d (Y Q P.length K) F E C U L w4 X.o f2 k x (f.N k) h4 i1 HK.o.2.le d0 h9 (by rw[a7];exact y.o.len k) f7) a3 b1 d0;have l1:¬U.own d (b.om 2):=fun q=>(p.o.ow _ q).elim e5.o.2 fun q=>by omega
       clear f1 f2 h3 d6 i1 h4 h8 f7 a7 h9 a3 b1 d0 f8;go_wp2_with fail;refine d7.o.mono ?_;rintro e w5 ⟨rfl,o5,v5,s5,u5,i5,q5⟩;have d4:=j3.o.d8 s5.on l1 b7.o;have j2:=J d4.1;have k9:w5.rangeLeft (b.om 2) H<wr.rangeLeft (b.om 2) H:=by rw[d4.2];exact k8
       have j4:D (Ee P d (Y Q P.length K) F E C (b.tk wz.heap.size) o5 v5 S w5):=⟨s5.r,fun j hj=>(s5.ow j hj).elim (p.o.ow j) fun q=>.inr (by have:=p.o.on.size;omega),s5.rl.trans p.o.rl,(p.o.on.thn j1.o fun j hj q=>by omega).thn s5.on fun j hj q=>(p.o.ow j q).elim id fun q=>by omega⟩;have i4:D (f.took.up v5/\BQ P (fun a t=>(b4 a/\a≠k)/\f.N a t) v5):=by
        refine⟨HK.o.1.tr u5,BQ.passed (c:=k) (m:=f.N k) (v:=L) ((i5 _ HK.o.2).kept fun a t q=>?_) u5 i7.o q5.1 q5.2⟩;by_cases e:a=k
        .subst e;exact .inr ⟨rfl,q.2⟩
        .exact .inl ⟨⟨q.1,e⟩,q.2⟩
       have i8:D (¬o5.own d H):=fun q=>(s5.ow _ q).elim b7.o fun q=>by omega
       clear s5 u5 i5 q5 d4 d7;go_wp2_with fail;go_roundw
       case rel=>exact⟨_,_,_,j2,j4,i4,i8⟩
       case measure=>exact k9
      .intro hd;have g7:BQ P (fun _ _=>False) L:=HK.o.2.kept fun a t q=>hd a q.1
       have a7:U.rl=b.rl:=congrArg Prod.fst p.o.rl;obtain⟨mm,a5⟩:∃mm,L.left 16400 mm:=⟨_,rfl⟩;have f9:mm<nn:=Sv.left_lt (B:=16400) (v:=f) (u:=L) (x:=f.took) ⟨rfl,fun _ _ q=>q⟩ HK.o.1 HV.o (fun c t q=>y.o.ok.np c t q) HL.o a5;have e9:Gu P d (Y Q P.length K) F E C o U L w wr:=I.o.more p.o.r (fun j hj=>(p.o.ow j hj).elim (fun q=>(e6.o j q).imp id fun q=>by omega) fun q=>.inr (by omega)) (((j0.o.mono fun j _ q=>by rw[q];exact .inl rfl).thn p.o.on fun j hj q=>(e6.o j q).elim id fun q=>by omega));have e0:D (M mm wr):=by rw[HJ.o];exact⟨U,L,e9,y.o.later HK.o.1 g7 a7,a5⟩
       have i6:D (mf (fun n=>M n wr)<mf (fun n=>M n wz)):=by have:=(e3.o (fun n=>M n wr) mm e0.o).2;rw[<-i9.o];exact Nat.lt_of_le_of_lt this f9
       clear g7 a7 a5 f9 e9;go_wp2_with fail;go_roundw
       case rel=>exact⟨mm,e0.o⟩
       case measure=>rw[j8.o];exact i6.o
section
variable{α:Type}{R:Value->Option (DataW Unit×List MemPlace)}{mk:α->Value}{d:α->DataW Unit}{ok:α->Prop}{b:Nat}{g:Nat->Option α}{w f:World}
theorem BW.block(h:BW R d b g w)(e:f.heap[b]? =w.heap[b]?):BW R d b g f:=by obtain⟨a,⟨i,c,k,r⟩,j⟩:=h;exact⟨a,⟨i,c,by rw[e];exact k,r⟩,j⟩
theorem BW.entry{t e:TypeId}(h:BW R d b g w)(E:Q8 R mk d ok)(B:Tryz.prog.underlying t=T (.map 3 e)){z:Value}(M:∀u:World,(zeroValue e).run prog u=.ok z u){k:Nat}(I:k<20000)(P:g k=Z):
 ∃(n:Array MapEntry) (i:Nat),w.heap[b]? =T (.map n i)/\
  (∀m:World,m.heap[b]? =T (.map n i)->(Instr.mapEntry t (.map (T b)) (G A k)).run prog m=.ok (.tuple #[z,goInt i]) (ChangeMaps.setBlock m b (.map (n.push ⟨G A k,z,i⟩) (i+1))))/\
  (∀(m:World) (p:Value),m.heap[b]? =T (.map (n.push ⟨G A k,z,i⟩) (i+1))->(Instr.entryStore t (.map (T b)) (goInt i) p).run prog m=.ok () (ChangeMaps.setBlock m b (.map (n.push ⟨G A k,p,i⟩) (i+1))))/\
  ∀(a:α),ok a->∀m:World,m.heap[b]? =T (.map (n.push ⟨G A k,mk a,i⟩) (i+1))->BW R d b (fun x=>if x=k then T a else g x) m:=by
 have S:=(h.look E B (M w) I true).1 P;have V:=fun(a:α) (s:ok a)=>h.put E B I s
 obtain⟨a0,⟨n,i,v,F,hs,rfl⟩,C⟩:=h;have y:=Tc I;obtain⟨s1,s2,_⟩:=F.stamped;have L:∀m:World,(Instr.findKey 3 (G A k) n.toList).run prog m=.ok Z m:=fun m=>by
  rcases C8.find m y n.toList F.keys with⟨r,_⟩|⟨j,K,r,H,C⟩
  .exact r
  .exfalso;rcases C8.find w y n.toList F.keys with⟨_,q⟩|⟨j',e',q1,q2,q3⟩
   .exact q K (List.mem_of_getElem? H) C
   .simp[Instr.lookup,run_underlying B,MapKept.run_getObj_map v,C8.check w _ y,q1,Result.andThen]at S
 refine⟨n,i,v,fun m o=>?_,fun m p o=>?_,fun a s m o=>?_⟩
 .simp[Instr.mapEntry,run_underlying B,MapKept.run_getObj_map o,C8.check m false y,L m,M,MapKept.run_setObj_map _ o,Result.andThen,ChangeMaps.setBlock]
 .have Q:(n.push ⟨G A k,z,i⟩).findIdx? (fun e=>((e.born:Nat):Int)==((i:Nat):Int))=T n.size:=by rw[WideElems.findIdx_arr];exact WideElems.findIdx_born (l:=(n.push ⟨G A k,z,i⟩).toList) (j:=n.size) (e0:=⟨G A k,z,i⟩) (by simp only[Array.toList_push,jZ,iU,List.map_nil];refine List.nodup_append.2 ⟨s2,by simp,fun a s c N e1=>?_⟩;simp only[iL]at N;obtain⟨x,X,rfl⟩:=jD.1 s;have:=s1 x X;omega) (by simp)
  have U:(n.push ⟨G A k,z,i⟩).modify n.size (fun e=>{e with val:=p})=n.push ⟨G A k,p,i⟩:=by apply Array.ext';rw[Array.toList_modify,Array.toList_push,Array.toList_push,<-Array.length_toList,WideElems.modify_last]
  simp[Instr.entryStore,MapKept.run_getObj_map o,asInt,asIntOf,goInt,Q,U,MapKept.run_setObj_map _ o,Result.andThen,ChangeMaps.setBlock]
 .obtain⟨f,r,H,_⟩:=V a s;have C:(Instr.mapUpdate t (.map (T b)) (G A k) (mk a)).run prog w=.ok () (ChangeMaps.setBlock w b (.map (n.push ⟨G A k,mk a,i⟩) (i+1))):=by simp[Instr.mapUpdate,run_underlying B,MapKept.run_getObj_map v,C8.check w false y,L w,MapKept.run_setObj_map _ v,Result.andThen,ChangeMaps.setBlock]
  rw[C]at r;cases r;refine H.block ?_;rw[o];exact(ChangeMaps.heap_setBlock_same v _).symm
end
