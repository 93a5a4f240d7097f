/- One of the texts of the proof: AnP AnQ AnR. -/
import Derived.Test.YtegmjgjkcdbmkaaGreatDoorS13
import Derived.Deep.AppendLies
set_option maxRecDepth 100000
set_option maxHeartbeats 4000000
namespace Go.Proofs.YtegmjgjkcdbmkaaGreatDoor
open Go.RowKit Go.Maps
structure aC(P:List PFn)(sb:Nat)(fv:Value)(mn pn cn:Nat)(o o':So)(v v':Sv)(w w':World)(r:Rl):Prop where
 so:Bp P sb fv mn pn cn o' v' w'
 ow:∀k,o'.own sb k→o.own sb k∨w.heap.size≤k
 on:Ab (o.own sb) w w'
 le:v.s.le v'.s
 w1:∀a q,v.W a q→v'.W a q
 w2:∀a q,v'.W a q→v.W a q∨(A2 r∧a=r.at∧q=r)
 raw:v.raw→v'.raw
 ok:∀X,v.raw→Bs P X v→Bs P X v'
 beg:Mz P r v'.s
 fol:A2 r→v'.W r.at r
 len:∀c,(o'.rl c).length≤(o.rl c).length+1
def Bg(P:List PFn)(f:Nat)(b:Value)(c e a:Nat)(o:So)(v:Sv)(w h:World)(r:Rl):Prop:=∃d g,aC P f b c e a o d v g w h r
theorem Nx.bg{P n f j m d o v w t p r}(g:Ab (fun _=>False) w t)(h:Nx P n f j m d o v t p (fun b=>Mz P r b.s))(x:¬A2 r):Bg P n f j m d o v w p r:=by obtain ⟨l,b,s,u,i,q⟩:=h;refine ⟨l,b,s.r,fun k y=>(s.ow k y).imp id fun q=>rO g.size q,(g.mono (fun _ _ q=>q.elim)).trans s.on,u.le.s,fun a q h=>by rw [u.le.w];exact h,fun a q h=>.inl (by rw [←u.le.w];exact h),fun h=>h.up u,fun X _ h=>i X h,q,fun h=>absurd h x,fun c=>?_⟩;have e:l.rl=o.rl:=congrArg Prod.fst s.rl;rw [e];omega
theorem Dn.nxt{P a c d g b o e v j w i}(h:Dn P a c d g b o v w)(r:Bp P a c d g b e j i)(l:∀k,e.own a k→o.own a k∨w.heap.size≤k)(f:Ab (o.own a) w i):Dn P a c d g b e j i:=
 ⟨r,h.pl.O f h.r.noPlan,h.tb.O f h.tn h.tl,rP h.tl f.size,fun q=>(l _ q).elim h.tn fun q=>by have:=h.tl;omega⟩
theorem Bp.waitB{P s A K L z o v w W d y c t r}{g:List (List Value)}{f:Value}(h:Bp P s A K L z o v w)(O:Ab (fun _=>False) w W)(m:r.at=c)(E:A2 r)(a0:W.ownsRow 0 208 9 (DV o c) (o.rl c).length g.flatten)(D:g.length=(o.rl c).length)
 (Z:∀i (h:i<g.length) (h':i<(o.rl c).length),∃f,g[i]=Nd (o.rl c)[i] f∧AD 0 W f (o.rl c)[i].s.args)(R:AD 0 W f r.s.args)(Q:W.grownBy d (DV o c).ownBlock)(F:(DV o c).ownBlock=some t.1∨w.heap.size≤t.1)(Y:d.ownsRow 0 208 9 (DX t) ((o.rl c).length+1) (g.flatten++Nd r f))
 (V:Bv TB TA (o.om 5) (fun x=>if x=c then some t else o.fw x) y)(I:Ab (fun k=>k=o.om 5) d y):Bg P s A K L z o v w y r:=by
 have B:Ab (fun k=>(DV o c).ownBlock=some k) W d:=Ab.grown (Ab.refl _ _) Q (fun j U=>.inl U);have C:Ab (fun k=>(DV o c).ownBlock=some k) w d:=(O.mono (fun _ _ q=>q.elim)).trans B;have J:∀{u:Value} {l:List Nat},AD 0 W u l→AD 0 d u l:=fun n=>Av n B (D6 a0 (by decide))
 have N:Hn 0 d (DX t) (o.rl c++[r]):=by
  refine ⟨g++[Nd r f],?_,by simp [D],fun i S T=>?_⟩
  ·rw [List.flatten_append,rV];simp only [List.flatten_cons,List.flatten_nil,List.append_nil,List.length_singleton];exact Y
  ·simp only [rV,List.length_singleton] at S T;by_cases G:i<(o.rl c).length
   ·obtain ⟨u,e,n⟩:=Z i (by omega) G;rw [List.getElem_append_left (by omega),List.getElem_append_left G];exact ⟨u,e,J n⟩
   ·have e:i=(o.rl c).length:=by omega
    subst e;rw [List.getElem_append_right (by omega),List.getElem_append_right (by omega)];simp only [D,Nat.sub_self,List.getElem_cons_zero];exact ⟨f,rfl,J R⟩
 have hw:=h.wait (r:=r) C F N V I;have H:∀k,(DV o c).ownBlock=some k→o.own s k:=fun k b=>by
  unfold DV at b;cases m:o.fw c with
  | none=>rw [m] at b;cases b
  | some t0=>rw [m] at b;unfold DX at b;cases b;exact .inr (.inr (.inr ⟨c,t0,m,rfl⟩))
 have p:r.s.kind≠1∧r.s.kind≠2∧r.s.kind≠4∧r.s.kind≠6∧r.s.kind≠7:=by unfold A2 at E;omega
 refine ⟨_,_,hw,fun k b=>?_,(C.mono fun k _ q=>H k q).thn I fun k _ q=>by rw [q];exact .inr (.inl ⟨5,by omega,rfl⟩),.rf _,fun a q h=>.inl h,fun a q h=>h.imp id fun h=>⟨E,m▸h.1,h.2⟩,fun h=>h,fun X n h=>h.wait fun x hx=>n _ x hx,⟨fun q=>absurd q p.1,fun q=>absurd q p.2.1,fun q=>absurd q p.2.2.1,fun q=>absurd q p.2.2.2.1,fun q=>absurd q p.2.2.2.2⟩,fun _=>.inr ⟨m,rfl⟩,fun x=>?_⟩
 ·rcases b with q | q | q | ⟨M,t',q,rfl⟩
  ·exact .inl (.inl q)
  ·exact .inl (.inr (.inl q))
  ·exact .inl (.inr (.inr (.inl q)))
  ·unfold So.wt at q;dsimp only at q;split at q
   ·cases q;exact F.imp (H _) id
   ·exact .inl (.inr (.inr (.inr ⟨M,t',q,rfl⟩)))
 ·unfold So.wt;dsimp only;split
  ·next e=>rw [e];simp
  ·omega
abbrev ZA:Array Value:=#[.int .i64 0,.int .i64 0,.int .i64 0,.int .i64 0,.int .i64 0,.int .i64 0,.slice none 0 0,.int .i64 0,.int .i64 0]
theorem Tryz.infoRule:(Tryz.prog.info? 208).map (fun i=>(i.zero,i.size,i.bytes))=some (some (.agg ZA),9,88):=by kernel_rfl
theorem DN{w:World}{b:Nat}{a:List Value}{t:TypeId}(h:Ak b a.toArray t w):∀j u,a[j]? =some u→w.cell? ((⟨b,0,none⟩:Addr).add j)=some u:=fun j u d=>by
 have:=h.cell j;rw [dM,d] at this;by_cases c:j=0
 ·subst c;simpa [Addr.add] using this
 ·simpa [Addr.add,c] using this
theorem Bg.from{P f b d e a o v w W g r}(c:Ab (fun _=>False) w W)(h:Bg P f b d e a o v W g r):Bg P f b d e a o v w g r:=by obtain ⟨j,l,h⟩:=h;exact ⟨j,l,h.so,fun k i=>(h.ow k i).imp id fun q=>rO c.size q,(c.mono (fun _ _ q=>q.elim)).trans h.on,h.le,h.w1,h.w2,h.raw,h.ok,h.beg,h.fol,h.len⟩
theorem Se(P l fv mn F cn o v w)(A:AnOk P F cn)(h:Dn P l fv mn F cn o v w)(r:Rl)(av:Value)(hi:AD 0 w av r.s.args)(hr:Ly P r)(f4:∀c,(o.rl c).length≤100000):
 Calls Tryz.prog 96 #[.pointer (some ⟨l,0,none⟩),.agg (Hi r av)] w fun e d=>e=.returned (.tuple #[])∧Bg P l fv mn F cn o v w d r:=by
 obtain ⟨i0,e2,e3,e4,e5⟩:=info_parts Tryz.infoRule;obtain ⟨B,al,C,rfl⟩:=Ad hi;have f5:=Aq hi;subst f5;have o1:Ab (fun _=>False) w (w.alloc (.cells (Hi r (.slice B r.s.args.length C)) 208)):=(Ab.refl _ w).alloc _;have a5:=Ak.new w (Hi r (.slice B r.s.args.length C)) 208;have hE:=h.i9 o1;have hI:=Ac hi o1 (fun _ _ q=>q);have f7:∀k,o.own l k→k<w.heap.size:=fun k q=>h.r.ownLt q
 have f6:¬o.own l w.heap.size:=fun q=>by have:=f7 _ q;omega
 have f0:=A.ok.ok r.f hr.1 r.s hr.2;have HA:=Aa A;have HP:=Aa hr;have a3:=Aa f0;have d7:=Aa ((CU P).beg r hr);have e1:=Aa f4;have f8:=A.bA;have R:=hr.1;have g4:=A.ok.l8 r.f;have f9:=f0.kind;clear h hi A hr f0 f4;go_enter Tryz.func96,Tryz.ntmps96;have b1:=a5.cell 1;have g6:=Ae a5;simp only [dM,dJ,dK] at b1;go_upto_block 0 with fail;generalize w.alloc (.cells (Hi r (.slice B r.s.args.length C)) 208)=W at*;have b0:=a5.cell 0;have b2:=a5.cell 2;have b3:=a5.cell 3;have b4:=a5.cell 4;have b5:=a5.cell 5;have b6:=a5.cell 6;have b7:=a5.cell 7;have b8:=a5.cell 8;simp only [dM,dJ,dK] at b0 b2 b3 b4 b5 b6 b7 b8;have s:=Aa hE;have HI:=Aa hI;have HB:=Aa a5;have O1:=Aa o1;have HC:dN (∀n,Ab (o.own l) W n→n.cell? ⟨w.heap.size,0,none⟩=some (.int .i64 r.f)∧n.cell? ⟨w.heap.size,1,none⟩=some (.int .i64 r.s.kind)∧n.cell? ⟨w.heap.size,2,none⟩=some (.int .i64 r.s.aQ)∧n.cell? ⟨w.heap.size,3,none⟩=some (.int .i64 r.s.r9)∧n.cell? ⟨w.heap.size,4,none⟩=some (.int .i64 r.s.field)∧n.cell? ⟨w.heap.size,5,none⟩=some (.int .i64 r.s.m9)∧n.cell? ⟨w.heap.size,6,none⟩=some (.slice B r.s.args.length C)∧n.cell? ⟨w.heap.size,7,none⟩=some (.int .i64 r.s.next)∧n.cell? ⟨w.heap.size,8,none⟩=some (.int .i64 r.s.taken)):=fun n h3=>by have c5:=HB.o.O h3 f6;have H:=c5.cell 0;have I:=c5.cell 1;have J:=c5.cell 2;have K:=c5.cell 3;have L:=c5.cell 4;have M:=c5.cell 5;have N:=c5.cell 6;have O:=c5.cell 7;have Q:=c5.cell 8;simp only [dM,dJ,dK] at H I J K L M N O Q;exact ⟨H,I,J,K,L,M,N,O,Q⟩
 have a4:dN (∀n,Ab (fun k=>o.own l k∧k≠l) W n→n.cell? ⟨l,8,none⟩=some (.map (some (o.om 5)))∧n.cell? ⟨w.heap.size,0,none⟩=some (.int .i64 r.f)∧n.cell? ⟨w.heap.size,1,none⟩=some (.int .i64 r.s.kind)∧n.cell? ⟨w.heap.size,2,none⟩=some (.int .i64 r.s.aQ)∧n.cell? ⟨w.heap.size,3,none⟩=some (.int .i64 r.s.r9)∧n.cell? ⟨w.heap.size,4,none⟩=some (.int .i64 r.s.field)∧n.cell? ⟨w.heap.size,5,none⟩=some (.int .i64 r.s.m9)∧n.cell? ⟨w.heap.size,6,none⟩=some (.slice B r.s.args.length C)∧n.cell? ⟨w.heap.size,7,none⟩=some (.int .i64 r.s.next)∧n.cell? ⟨w.heap.size,8,none⟩=some (.int .i64 r.s.taken)):=fun n h3=>by have q8:=(s.o.r.s9.O h3 (fun q=>q.2 rfl)).cell 8;simp only [Gf,dM,dJ,dK] at q8;exact ⟨q8,HC.o n (h3.mono fun _ _ q=>q.1)⟩
 have g9:=Ae hE.r.s9;have p8:=hE.r.s9.cell 8;simp only [Gf,dM,dJ,dK] at p8;clear hE hI a5 o1;have k0:r.s.kind=1∨r.s.kind=2∨r.s.kind=4∨r.s.kind=6∨r.s.kind=7∨(r.s.kind=3∨r.s.kind=5∨r.s.kind=8)∨r.s.kind=9∨(r.s.kind=0∨10≤r.s.kind):=by omega
 rcases k0 with b | b | b | b | b | b | b | b
 ·have k1:(((r.s.kind:Nat):Int)==1)=true:=by rw [b];rfl
  have a2:=a3.o.tg (by rw [b];decide) (by rw [b];decide) (by rw [b];decide) (by rw [b];decide);have c6:dN (A8 P F r.tg):=AX R a2;have e0:r.tg<16400:=D2 HA.o R a2;have g2:=(HA.o.bG r.f R r.s HP.o.2).1 b;have g0:=HA.o.lp;have g8:pN r.s.m9 0<19200:=by unfold pN;omega
  have c4:dN (¬A2 r):=fun q=>by unfold A2 at q;omega
  have D:=Aa b;clear b;obtain ⟨ka,c7⟩:=(s.o.r.d0 r.tg 0 (.inl rfl)).2 c6.o;go_wp2_with fail;go_region_held3 (fun d=>d.cell? ⟨w.heap.size,0,none⟩=some (.int .i64 r.f)∧d.cell? ⟨w.heap.size,1,none⟩=some (.int .i64 r.s.kind)∧d.cell? ⟨w.heap.size,2,none⟩=some (.int .i64 r.s.aQ)∧d.cell? ⟨w.heap.size,3,none⟩=some (.int .i64 r.s.r9)∧d.cell? ⟨w.heap.size,4,none⟩=some (.int .i64 r.s.field)∧d.cell? ⟨w.heap.size,5,none⟩=some (.int .i64 r.s.m9)∧d.cell? ⟨w.heap.size,6,none⟩=some (.slice B r.s.args.length C)∧d.cell? ⟨w.heap.size,7,none⟩=some (.int .i64 r.s.next)∧d.cell? ⟨w.heap.size,8,none⟩=some (.int .i64 r.s.taken)) (go_keep)
   (first
     | (go_at_call 127;refine (Cb r (.slice B r.s.args.length C) _ (by omega) (by omega)).mono ?_;rintro e Z ⟨rfl,p⟩;have f:=Aa (Ab.trans (X:=fun _=>False) (a:=W) (by repeat (first | exact Ab.refl _ _ | refine Ab.drew ?_ | refine Ab.drewN ?_ _ | refine Ab.alloc ?_ _)) p);clear p;obtain ⟨H,I,J,K,L,M,N,O,Q⟩:=HC.o Z (f.o.mono fun _ _ q=>q.elim))
     | (go_at_call 65;refine (Iw r.s.m9 0 _ (by omega) (by omega) (by omega)).mono ?_;rintro e d ⟨rfl,hw⟩;have hw:=hw.symm;subst hw)
     | (go_at_call 126;refine (E7 P l fv mn F cn o v m r.tg ka fb _ (s.o.i9 U.o).r c7 SF.o (by omega) (fun q=>by have:=(s.o.i9 f.o).r.ownLt (k:=ka) (.inr (.inr (.inl ⟨0,_,c7⟩)));omega)).mono ?_;rintro e y ⟨rfl,S,s6⟩;have SS:=Aa s6;clear s6;obtain ⟨H,I,J,K,L,M,N,O,Q⟩:=HC.o y ((U.o.mono (fun _ _ q=>q.elim)).trans SS.o.on))
     | (go_at_call 98;refine (Fh (pN r.s.m9 0) _ (by omega)).mono ?_;rintro e m ⟨fb,rfl,f2,sf,o5⟩;have U:=Aa (f.o.trans o5);have SF:=Aa sf;clear o5 sf;obtain ⟨H,I,J,K,L,M,N,O,Q⟩:=HC.o m (U.o.mono fun _ _ q=>q.elim)))
  all_goals
   have HX:dN (Bg P l fv mn F cn o v w y r):=by refine Nx.bg (O1.o.trans U.o) ⟨S,_,SS.o,Sv.give_up v _ _,fun X q=>q.give (fun t ht=>by rw [ht];exact d7.o.1 D.o),?_⟩ c4.o;refine ⟨fun _=>.inr ⟨rfl,rfl⟩,fun q=>absurd (D.o.symm.trans q) (by decide),fun q=>absurd (D.o.symm.trans q) (by decide),fun q=>absurd (D.o.symm.trans q) (by decide),fun q=>absurd (D.o.symm.trans q) (by decide)⟩
   go_wp2_with fail;go_end0;exact ⟨rfl,HX.o⟩
 ·have k1:(((r.s.kind:Nat):Int)==1)=false:=by rw [b];rfl
  have k2:(((r.s.kind:Nat):Int)==2)=true:=by rw [b];rfl
  have a2:=a3.o.tg (by rw [b];decide) (by rw [b];decide) (by rw [b];decide) (by rw [b];decide);have c6:dN (A8 P F r.tg):=AX R a2;have e0:r.tg<16400:=D2 HA.o R a2;have a1:=a3.o.sr (by omega);have d8:dN (A8 P F r.sr):=AX R a1;have d9:r.sr<16400:=D2 HA.o R a1;have c4:dN (¬A2 r):=fun q=>by unfold A2 at q;omega
  have D:=Aa b;clear b;obtain ⟨ka,c7⟩:=(s.o.r.d0 r.tg 0 (.inl rfl)).2 c6.o;go_wp2_with fail;go_region_held3 (fun d=>d.cell? ⟨w.heap.size,0,none⟩=some (.int .i64 r.f)∧d.cell? ⟨w.heap.size,1,none⟩=some (.int .i64 r.s.kind)∧d.cell? ⟨w.heap.size,2,none⟩=some (.int .i64 r.s.aQ)∧d.cell? ⟨w.heap.size,3,none⟩=some (.int .i64 r.s.r9)∧d.cell? ⟨w.heap.size,4,none⟩=some (.int .i64 r.s.field)∧d.cell? ⟨w.heap.size,5,none⟩=some (.int .i64 r.s.m9)∧d.cell? ⟨w.heap.size,6,none⟩=some (.slice B r.s.args.length C)∧d.cell? ⟨w.heap.size,7,none⟩=some (.int .i64 r.s.next)∧d.cell? ⟨w.heap.size,8,none⟩=some (.int .i64 r.s.taken)) (go_keep)
   (first
     | (go_at_call 127;refine (Cb r (.slice B r.s.args.length C) _ (by omega) (by omega)).mono ?_;rintro e Z ⟨rfl,p⟩;have f:=Aa (Ab.trans (X:=fun _=>False) (a:=W) (by repeat (first | exact Ab.refl _ _ | refine Ab.drew ?_ | refine Ab.drewN ?_ _ | refine Ab.alloc ?_ _)) p);clear p;obtain ⟨H,I,J,K,L,M,N,O,Q⟩:=HC.o Z (f.o.mono fun _ _ q=>q.elim))
     | (go_at_call 128;refine (CV r (.slice B r.s.args.length C) _ (by omega) (by omega)).mono ?_;rintro e w4 ⟨rfl,o4⟩;have f:=Aa (f.o.trans o4);clear o4;obtain ⟨H,I,J,K,L,M,N,O,Q⟩:=HC.o w4 (f.o.mono fun _ _ q=>q.elim))
     | (go_at_call 126;refine (E7 P l fv mn F cn o v m r.tg ka fb _ (s.o.i9 U.o).r c7 SF.o (by omega) (fun q=>by have:=(s.o.i9 f.o).r.ownLt (k:=ka) (.inr (.inr (.inl ⟨0,_,c7⟩)));omega)).mono ?_;rintro e y ⟨rfl,S,s6⟩;have SS:=Aa s6;clear s6;obtain ⟨H,I,J,K,L,M,N,O,Q⟩:=HC.o y ((U.o.mono (fun _ _ q=>q.elim)).trans SS.o.on))
     | (go_at_call 98;refine (Fh (r.sr) _ (by omega)).mono ?_;rintro e m ⟨fb,rfl,f2,sf,o5⟩;have U:=Aa (f.o.trans o5);have SF:=Aa sf;clear o5 sf;obtain ⟨H,I,J,K,L,M,N,O,Q⟩:=HC.o m (U.o.mono fun _ _ q=>q.elim)))
  all_goals
   have HX:dN (Bg P l fv mn F cn o v w y r):=by refine Nx.bg (O1.o.trans U.o) ⟨S,_,SS.o,Sv.give_up v _ _,fun X q=>q.give (fun t ht=>by rw [ht];exact d7.o.2.1 D.o),?_⟩ c4.o;refine ⟨fun q=>absurd (D.o.symm.trans q) (by decide),fun _=>.inr ⟨rfl,rfl⟩,fun q=>absurd (D.o.symm.trans q) (by decide),fun q=>absurd (D.o.symm.trans q) (by decide),fun q=>absurd (D.o.symm.trans q) (by decide)⟩
   go_wp2_with fail;go_end0;exact ⟨rfl,HX.o⟩
 ·have k1:(((r.s.kind:Nat):Int)==1)=false:=by rw [b];rfl
  have k2:(((r.s.kind:Nat):Int)==2)=false:=by rw [b];rfl
  have k4:(((r.s.kind:Nat):Int)==4)=true:=by rw [b];rfl
  have a2:=a3.o.tg (by rw [b];decide) (by rw [b];decide) (by rw [b];decide) (by rw [b];decide);have c6:dN (A8 P F r.tg):=AX R a2;have e0:r.tg<16400:=D2 HA.o R a2;have f3:=a3.o.func (.inl b);have g7:fN r.s.r9<19200:=by unfold fN;omega
  have c4:dN (¬A2 r):=fun q=>by unfold A2 at q;omega
  have D:=Aa b;clear b;obtain ⟨ka,c7⟩:=(s.o.r.d0 r.tg 0 (.inl rfl)).2 c6.o;go_wp2_with fail;go_region_held3 (fun d=>d.cell? ⟨w.heap.size,0,none⟩=some (.int .i64 r.f)∧d.cell? ⟨w.heap.size,1,none⟩=some (.int .i64 r.s.kind)∧d.cell? ⟨w.heap.size,2,none⟩=some (.int .i64 r.s.aQ)∧d.cell? ⟨w.heap.size,3,none⟩=some (.int .i64 r.s.r9)∧d.cell? ⟨w.heap.size,4,none⟩=some (.int .i64 r.s.field)∧d.cell? ⟨w.heap.size,5,none⟩=some (.int .i64 r.s.m9)∧d.cell? ⟨w.heap.size,6,none⟩=some (.slice B r.s.args.length C)∧d.cell? ⟨w.heap.size,7,none⟩=some (.int .i64 r.s.next)∧d.cell? ⟨w.heap.size,8,none⟩=some (.int .i64 r.s.taken)) (go_keep)
   (first
     | (go_at_call 127;refine (Cb r (.slice B r.s.args.length C) _ (by omega) (by omega)).mono ?_;rintro e Z ⟨rfl,p⟩;have f:=Aa (Ab.trans (X:=fun _=>False) (a:=W) (by repeat (first | exact Ab.refl _ _ | refine Ab.drew ?_ | refine Ab.drewN ?_ _ | refine Ab.alloc ?_ _)) p);clear p;obtain ⟨H,I,J,K,L,M,N,O,Q⟩:=HC.o Z (f.o.mono fun _ _ q=>q.elim))
     | (go_at_call 129;refine (U6 r.s.r9 _ (by omega)).mono ?_;rintro e d ⟨rfl,hw⟩;have hw:=hw.symm;subst hw)
     | (go_at_call 126;refine (E7 P l fv mn F cn o v m r.tg ka fb _ (s.o.i9 U.o).r c7 SF.o (by omega) (fun q=>by have:=(s.o.i9 f.o).r.ownLt (k:=ka) (.inr (.inr (.inl ⟨0,_,c7⟩)));omega)).mono ?_;rintro e y ⟨rfl,S,s6⟩;have SS:=Aa s6;clear s6;obtain ⟨H,I,J,K,L,M,N,O,Q⟩:=HC.o y ((U.o.mono (fun _ _ q=>q.elim)).trans SS.o.on))
     | (go_at_call 98;refine (Fh (fN r.s.r9) _ (by omega)).mono ?_;rintro e m ⟨fb,rfl,f2,sf,o5⟩;have U:=Aa (f.o.trans o5);have SF:=Aa sf;clear o5 sf;obtain ⟨H,I,J,K,L,M,N,O,Q⟩:=HC.o m (U.o.mono fun _ _ q=>q.elim)))
  all_goals
   have HX:dN (Bg P l fv mn F cn o v w y r):=by refine Nx.bg (O1.o.trans U.o) ⟨S,_,SS.o,Sv.give_up v _ _,fun X q=>q.give (fun t ht=>by rw [ht];exact d7.o.2.2.1 D.o),?_⟩ c4.o;refine ⟨fun q=>absurd (D.o.symm.trans q) (by decide),fun q=>absurd (D.o.symm.trans q) (by decide),fun _=>.inr ⟨rfl,rfl⟩,fun q=>absurd (D.o.symm.trans q) (by decide),fun q=>absurd (D.o.symm.trans q) (by decide)⟩
   go_wp2_with fail;go_end0;exact ⟨rfl,HX.o⟩
 ·have k1:(((r.s.kind:Nat):Int)==1)=false:=by rw [b];rfl
  have k2:(((r.s.kind:Nat):Int)==2)=false:=by rw [b];rfl
  have k4:(((r.s.kind:Nat):Int)==4)=false:=by rw [b];rfl
  have k6:(((r.s.kind:Nat):Int)==6)=true:=by rw [b];rfl
  have a2:=a3.o.tg (by rw [b];decide) (by rw [b];decide) (by rw [b];decide) (by rw [b];decide);have c6:dN (A8 P F r.tg):=AX R a2;have e0:r.tg<16400:=D2 HA.o R a2;have a1:=a3.o.sr (by omega);have d8:dN (A8 P F r.sr):=AX R a1;have d9:r.sr<16400:=D2 HA.o R a1;have c4:dN (¬A2 r):=fun q=>by unfold A2 at q;omega
  have D:=Aa b;clear b;go_wp2_with fail;go_region_held3 (fun d=>d.cell? ⟨w.heap.size,0,none⟩=some (.int .i64 r.f)∧d.cell? ⟨w.heap.size,1,none⟩=some (.int .i64 r.s.kind)∧d.cell? ⟨w.heap.size,2,none⟩=some (.int .i64 r.s.aQ)∧d.cell? ⟨w.heap.size,3,none⟩=some (.int .i64 r.s.r9)∧d.cell? ⟨w.heap.size,4,none⟩=some (.int .i64 r.s.field)∧d.cell? ⟨w.heap.size,5,none⟩=some (.int .i64 r.s.m9)∧d.cell? ⟨w.heap.size,6,none⟩=some (.slice B r.s.args.length C)∧d.cell? ⟨w.heap.size,7,none⟩=some (.int .i64 r.s.next)∧d.cell? ⟨w.heap.size,8,none⟩=some (.int .i64 r.s.taken)) (go_keep)
   (first
     | (go_at_call 128;refine (CV r (.slice B r.s.args.length C) _ (by omega) (by omega)).mono ?_;rintro e Z ⟨rfl,p⟩;have f:=Aa (Ab.trans (X:=fun _=>False) (a:=W) (by repeat (first | exact Ab.refl _ _ | refine Ab.drew ?_ | refine Ab.drewN ?_ _ | refine Ab.alloc ?_ _)) p);clear p;obtain ⟨H,I,J,K,L,M,N,O,Q⟩:=HC.o Z (f.o.mono fun _ _ q=>q.elim))
     | (go_at_call 127;refine (Cb r (.slice B r.s.args.length C) _ (by omega) (by omega)).mono ?_;rintro e w4 ⟨rfl,o4⟩;have U:=Aa (f.o.trans o4);clear o4;obtain ⟨H,I,J,K,L,M,N,O,Q⟩:=HC.o w4 (U.o.mono fun _ _ q=>q.elim))
     | (go_at_call 130;refine (FT P l fv mn F cn o v w4 r.sr r.tg (s.o.i9 U.o).r d8.o c6.o d9 e0 (d7.o.2.2.2.1 D.o)).mono ?_;rintro e y ⟨rfl,S,v6,s6,u6,i6,q6⟩;have SS:=Aa s6;have UU:=Aa (And.intro u6 (And.intro i6 q6));clear s6 u6 i6 q6;obtain ⟨H,I,J,K,L,M,N,O,Q⟩:=HC.o y ((U.o.mono (fun _ _ q=>q.elim)).trans SS.o.on)))
  all_goals
   have HX:dN (Bg P l fv mn F cn o v w y r):=Nx.bg (O1.o.trans U.o) ⟨S,v6,SS.o,UU.o.1,UU.o.2.1,⟨fun q=>absurd (D.o.symm.trans q) (by decide),fun q=>absurd (D.o.symm.trans q) (by decide),fun q=>absurd (D.o.symm.trans q) (by decide),fun _=>UU.o.2.2,fun q=>absurd (D.o.symm.trans q) (by decide)⟩⟩ c4.o;go_wp2_with fail;go_end0;exact ⟨rfl,HX.o⟩
 ·have k1:(((r.s.kind:Nat):Int)==1)=false:=by rw [b];rfl
  have k2:(((r.s.kind:Nat):Int)==2)=false:=by rw [b];rfl
  have k4:(((r.s.kind:Nat):Int)==4)=false:=by rw [b];rfl
  have k6:(((r.s.kind:Nat):Int)==6)=false:=by rw [b];rfl
  have k7:(((r.s.kind:Nat):Int)==7)=true:=by rw [b];rfl
  have hR:=HA.o.rl HP.o (by rw [b];decide) (by rw [b];decide) (by rw [b];decide) (by rw [b];decide);have f3:=a3.o.func (.inr b);have g1:=a3.o.many b;have g3:=HA.o.ok.bX r.s.r9;have HR:=Aa hR;clear hR;have c4:dN (¬A2 r):=fun q=>by unfold A2 at q;omega
  have D:=Aa b;clear b;go_wp2_with fail;refine (Np P l fv mn F cn o v W HA.o s.o r r.s.r9 (.slice B r.s.args.length C) HI.o HR.o f3 (by omega) (d7.o.2.2.2.2 D.o)).mono ?_;rintro e y ⟨rfl,S,v6,s6,u6,i6,q6⟩;have HX:dN (Bg P l fv mn F cn o v w y r):=Nx.bg O1.o ⟨S,v6,s6,u6,i6,⟨fun q=>absurd (D.o.symm.trans q) (by decide),fun q=>absurd (D.o.symm.trans q) (by decide),fun q=>absurd (D.o.symm.trans q) (by decide),fun q=>absurd (D.o.symm.trans q) (by decide),fun _=>q6⟩⟩ c4.o;clear s6 u6 i6 q6;go_wp2_with fail;go_end0;exact ⟨rfl,HX.o⟩
 ·rcases b with b | b | b
  ·have k1:(((r.s.kind:Nat):Int)==1)=false:=by rw [b];rfl
   have k2:(((r.s.kind:Nat):Int)==2)=false:=by rw [b];rfl
   have k4:(((r.s.kind:Nat):Int)==4)=false:=by rw [b];rfl
   have k6:(((r.s.kind:Nat):Int)==6)=false:=by rw [b];rfl
   have k7:(((r.s.kind:Nat):Int)==7)=false:=by rw [b];rfl
   have k3:(((r.s.kind:Nat):Int)==3)=true:=by rw [b];rfl
   have a1:=a3.o.sr (by omega);have d8:dN (A8 P F r.sr):=AX R a1;have d9:r.sr<16400:=D2 HA.o R a1;have a7:r.at=r.sr:=by unfold Rl.at;rw [if_neg (by omega)]
   have a9:A2 r:=by unfold A2;omega
   have d0:=Aa a9;have c8:=Aa a7;have D:=Aa b;clear b a7 a9;have a6:dN (∀n,Ab (fun _=>False) W n→(Instr.lookup 142 (.map (some (o.om 5))) (.int .i64 r.sr) false).run Tryz.prog n=.ok (DV o r.sr) n):=fun n h3=>by
    have q:=(s.o.i9 h3).r.fm.look IB Tryz.underlying142 (Ge n) (k:=r.sr) (by omega) false;unfold DV;cases hq:o.fw r.sr with
    | none=>exact q.1 hq
    | some t=>exact q.2 t hq
   obtain ⟨cs,G,d3,a0⟩:=s.o.r.fwAt r.sr;have e8:=e1.o r.sr;have d2:=Aa G;have e6:=Aa a0;have c2:∀k,(DV o r.sr).ownBlock=some k→o.own l k∧k≠l:=fun k b=>by
    refine ⟨?_,Aj G s.o.r.s9 (by decide) k b⟩;unfold DV at b;cases z:o.fw r.sr with
    | none=>rw [z] at b;cases b
    | some t0=>rw [z] at b;unfold DX at b;cases b;exact .inr (.inr (.inr ⟨r.sr,t0,z,rfl⟩))
   have b9:∀(V:World) (g E:Nat) (m:World),Ab (fun _=>False) W V→V.grownBy m (DV o r.sr).ownBlock→((DV o r.sr).ownBlock=some g∨g=V.heap.size)→m.ownsRow 0 208 9 (.slice (some ⟨g,0,none⟩) ((o.rl r.sr).length+1) E) ((o.rl r.sr).length+1) (cs.flatten++Nd r (.slice B r.s.args.length C))→
    ∃y,(Instr.mapUpdate 142 (.map (some (o.om 5))) (.int .i64 r.sr) (DX (g,(o.rl r.sr).length+1,E))).run Tryz.prog m=.ok () y∧Bg P l fv mn F cn o v w y r∧Ab (fun k=>o.own l k∧k≠l) W m∧Ab (fun k=>o.own l k∧k≠l) W y:=fun V g E m z hg hl Y=>by
    have g5:Ab (fun k=>(DV o r.sr).ownBlock=some k) W m:=Ab.grown (z.mono (fun _ _ q=>q.elim)) hg (fun j hj=>.inl hj);have d4:=s.o.r.fm.O g5 (fun q=>by obtain ⟨e7,e⟩:=B8 G _ q;exact s.o.r.fm.ne e rfl);obtain ⟨y,h6,m6,S⟩:=d4.put IB Tryz.underlying142 (k:=r.sr) (a:=(g,(o.rl r.sr).length+1,E)) (by omega) trivial;have y5:Ab (fun k=>o.own l k∧k≠l) W m:=g5.mono fun k _ q=>c2 k q
    have n5:o.om 5≠l:=by obtain ⟨_,_,e⟩:=s.o.r.fm.isMap;exact (s.o.r.bR e).1
    refine ⟨y,h6,Bg.from O1.o (s.o.r.waitB (t:=(g,(o.rl r.sr).length+1,E)) z c8.o d0.o (Ac G z (fun _ _ q=>q)) d3 (fun i q q'=>?_) (Ac HI.o z (fun _ _ q=>q)) hg (hl.imp id fun q=>by have:=z.size;dsimp only;omega) Y m6 S),y5,y5.thn S fun k _ q=>by rw [q];exact ⟨.inr (.inl ⟨5,by omega,rfl⟩),n5⟩⟩;obtain ⟨u,e,hr⟩:=a0 i q q';exact ⟨u,e,Ac hr z (fun _ _ q=>q)⟩
   have d1:=Aa b9;clear G a0 c2 b9;go_wp2_with fail;go_region_held3 (fun d=>d.cell? ⟨l,8,none⟩=some (.map (some (o.om 5)))∧d.cell? ⟨w.heap.size,0,none⟩=some (.int .i64 r.f)∧d.cell? ⟨w.heap.size,1,none⟩=some (.int .i64 r.s.kind)∧d.cell? ⟨w.heap.size,2,none⟩=some (.int .i64 r.s.aQ)∧d.cell? ⟨w.heap.size,3,none⟩=some (.int .i64 r.s.r9)∧d.cell? ⟨w.heap.size,4,none⟩=some (.int .i64 r.s.field)∧d.cell? ⟨w.heap.size,5,none⟩=some (.int .i64 r.s.m9)∧d.cell? ⟨w.heap.size,6,none⟩=some (.slice B r.s.args.length C)∧d.cell? ⟨w.heap.size,7,none⟩=some (.int .i64 r.s.next)∧d.cell? ⟨w.heap.size,8,none⟩=some (.int .i64 r.s.taken)) (go_keep)
    (first
      | (go_at_call 128;refine (CV r (.slice B r.s.args.length C) _ (by omega) (by omega)).mono ?_;rintro e Z ⟨rfl,p⟩;(first | (have f:=Aa (Ab.trans ((Ab.refl (fun _=>False) W).drew) p)) | (have f:=Aa (Ab.trans ((Ab.refl (fun _=>False) W).drew.alloc _) p)) | (have f:=Aa (f.o.trans p)) | (have f:=Aa (Ab.trans (f.o.alloc _) p)));(first | (have T:dN (Ak W.heap.size (Hi r (.slice B r.s.args.length C)) 208 Z):=Ak.O (Ak.new W.drew _ _) p (fun q=>q)) | (have T:=Aa (T.o.O p (fun q=>q))) | (have T:=Aa (Ak.O (Ak.new _ _ _) p (fun q=>q))) | skip);clear p;have L1:=a6.o _ f.o;have L2:=a6.o _ (f.o.alloc (.cells (Hi r (.slice B r.s.args.length C)) 208));obtain ⟨q8,H,I,J,K,L,M,N,O,Q⟩:=a4.o Z (f.o.mono fun _ _ q=>q.elim))
      | (refine step_append_lies _ rfl _ _ 242 rfl 0 208 i0 (.agg ZA) 9 88 Tryz.underlying242 e2 e3 e4 e5 rfl (by decide) (DV o r.sr) (o.rl r.sr).length cs.flatten rfl (Ac d2.o (X:=fun _=>False) (by first | exact f.o | exact f.o.alloc _) (fun _ _ q=>q)) _ 1 1 (Nd r (.slice B r.s.args.length C)) rfl rfl (by first | exact DN T.o | exact DN (Ak.new _ _ _)) (fun x hx=>by unfold Nd Hk at hx;simp only [List.mem_cons,List.not_mem_nil,or_false] at hx;rcases hx with rfl | rfl | rfl | rfl | rfl | rfl | rfl | rfl | rfl<;>rfl) (by decide) (by unfold maxLen;omega) (by omega) (rR _) _ rfl ?_;intro g E m Y c0 c1 e9;have FF:=Aa (d1.o _ g E m (by first | exact f.o | exact f.o.alloc _) c0 c1 Y);obtain ⟨y,c3,a8,d5,d6⟩:=FF.o;unfold DX at c3;dsimp only at c3;have c9:=Aa a8;clear c0 c1 Y a8;obtain ⟨q8,H,I,J,K,L,M,N,O,Q⟩:=a4.o m d5;have S6:=Aa (a4.o y d6);obtain ⟨f1,s0,s1,s2,s3,s4,s5,s6,s7,s8⟩:=S6.o;clear FF S6))
   all_goals
    go_wp2_with fail;go_end0;exact ⟨rfl,c9.o⟩
  ·have k1:(((r.s.kind:Nat):Int)==1)=false:=by rw [b];rfl
   have k2:(((r.s.kind:Nat):Int)==2)=false:=by rw [b];rfl
   have k4:(((r.s.kind:Nat):Int)==4)=false:=by rw [b];rfl
   have k6:(((r.s.kind:Nat):Int)==6)=false:=by rw [b];rfl
   have k7:(((r.s.kind:Nat):Int)==7)=false:=by rw [b];rfl
   have k3:(((r.s.kind:Nat):Int)==3)=false:=by rw [b];rfl
   have k5:(((r.s.kind:Nat):Int)==5)=true:=by rw [b];rfl
   have a1:=a3.o.sr (by omega);have d8:dN (A8 P F r.sr):=AX R a1;have d9:r.sr<16400:=D2 HA.o R a1;have a7:r.at=r.sr:=by unfold Rl.at;rw [if_neg (by omega)]
   have a9:A2 r:=by unfold A2;omega
   have d0:=Aa a9;have c8:=Aa a7;have D:=Aa b;clear b a7 a9;have a6:dN (∀n,Ab (fun _=>False) W n→(Instr.lookup 142 (.map (some (o.om 5))) (.int .i64 r.sr) false).run Tryz.prog n=.ok (DV o r.sr) n):=fun n h3=>by
    have q:=(s.o.i9 h3).r.fm.look IB Tryz.underlying142 (Ge n) (k:=r.sr) (by omega) false;unfold DV;cases hq:o.fw r.sr with
    | none=>exact q.1 hq
    | some t=>exact q.2 t hq
   obtain ⟨cs,G,d3,a0⟩:=s.o.r.fwAt r.sr;have e8:=e1.o r.sr;have d2:=Aa G;have e6:=Aa a0;have c2:∀k,(DV o r.sr).ownBlock=some k→o.own l k∧k≠l:=fun k b=>by
    refine ⟨?_,Aj G s.o.r.s9 (by decide) k b⟩;unfold DV at b;cases z:o.fw r.sr with
    | none=>rw [z] at b;cases b
    | some t0=>rw [z] at b;unfold DX at b;cases b;exact .inr (.inr (.inr ⟨r.sr,t0,z,rfl⟩))
   have b9:∀(V:World) (g E:Nat) (m:World),Ab (fun _=>False) W V→V.grownBy m (DV o r.sr).ownBlock→((DV o r.sr).ownBlock=some g∨g=V.heap.size)→m.ownsRow 0 208 9 (.slice (some ⟨g,0,none⟩) ((o.rl r.sr).length+1) E) ((o.rl r.sr).length+1) (cs.flatten++Nd r (.slice B r.s.args.length C))→
    ∃y,(Instr.mapUpdate 142 (.map (some (o.om 5))) (.int .i64 r.sr) (DX (g,(o.rl r.sr).length+1,E))).run Tryz.prog m=.ok () y∧Bg P l fv mn F cn o v w y r∧Ab (fun k=>o.own l k∧k≠l) W m∧Ab (fun k=>o.own l k∧k≠l) W y:=fun V g E m z hg hl Y=>by
    have g5:Ab (fun k=>(DV o r.sr).ownBlock=some k) W m:=Ab.grown (z.mono (fun _ _ q=>q.elim)) hg (fun j hj=>.inl hj);have d4:=s.o.r.fm.O g5 (fun q=>by obtain ⟨e7,e⟩:=B8 G _ q;exact s.o.r.fm.ne e rfl);obtain ⟨y,h6,m6,S⟩:=d4.put IB Tryz.underlying142 (k:=r.sr) (a:=(g,(o.rl r.sr).length+1,E)) (by omega) trivial;have y5:Ab (fun k=>o.own l k∧k≠l) W m:=g5.mono fun k _ q=>c2 k q
    have n5:o.om 5≠l:=by obtain ⟨_,_,e⟩:=s.o.r.fm.isMap;exact (s.o.r.bR e).1
    refine ⟨y,h6,Bg.from O1.o (s.o.r.waitB (t:=(g,(o.rl r.sr).length+1,E)) z c8.o d0.o (Ac G z (fun _ _ q=>q)) d3 (fun i q q'=>?_) (Ac HI.o z (fun _ _ q=>q)) hg (hl.imp id fun q=>by have:=z.size;dsimp only;omega) Y m6 S),y5,y5.thn S fun k _ q=>by rw [q];exact ⟨.inr (.inl ⟨5,by omega,rfl⟩),n5⟩⟩;obtain ⟨u,e,hr⟩:=a0 i q q';exact ⟨u,e,Ac hr z (fun _ _ q=>q)⟩
   have d1:=Aa b9;clear G a0 c2 b9;go_wp2_with fail;go_region_held3 (fun d=>d.cell? ⟨l,8,none⟩=some (.map (some (o.om 5)))∧d.cell? ⟨w.heap.size,0,none⟩=some (.int .i64 r.f)∧d.cell? ⟨w.heap.size,1,none⟩=some (.int .i64 r.s.kind)∧d.cell? ⟨w.heap.size,2,none⟩=some (.int .i64 r.s.aQ)∧d.cell? ⟨w.heap.size,3,none⟩=some (.int .i64 r.s.r9)∧d.cell? ⟨w.heap.size,4,none⟩=some (.int .i64 r.s.field)∧d.cell? ⟨w.heap.size,5,none⟩=some (.int .i64 r.s.m9)∧d.cell? ⟨w.heap.size,6,none⟩=some (.slice B r.s.args.length C)∧d.cell? ⟨w.heap.size,7,none⟩=some (.int .i64 r.s.next)∧d.cell? ⟨w.heap.size,8,none⟩=some (.int .i64 r.s.taken)) (go_keep)
    (first
      | (go_at_call 128;refine (CV r (.slice B r.s.args.length C) _ (by omega) (by omega)).mono ?_;rintro e Z ⟨rfl,p⟩;(first | (have f:=Aa (Ab.trans ((Ab.refl (fun _=>False) W).drew) p)) | (have f:=Aa (Ab.trans ((Ab.refl (fun _=>False) W).drew.alloc _) p)) | (have f:=Aa (f.o.trans p)) | (have f:=Aa (Ab.trans (f.o.alloc _) p)));(first | (have T:dN (Ak W.heap.size (Hi r (.slice B r.s.args.length C)) 208 Z):=Ak.O (Ak.new W.drew _ _) p (fun q=>q)) | (have T:=Aa (T.o.O p (fun q=>q))) | (have T:=Aa (Ak.O (Ak.new _ _ _) p (fun q=>q))) | skip);clear p;have L1:=a6.o _ f.o;have L2:=a6.o _ (f.o.alloc (.cells (Hi r (.slice B r.s.args.length C)) 208));obtain ⟨q8,H,I,J,K,L,M,N,O,Q⟩:=a4.o Z (f.o.mono fun _ _ q=>q.elim))
      | (refine step_append_lies _ rfl _ _ 242 rfl 0 208 i0 (.agg ZA) 9 88 Tryz.underlying242 e2 e3 e4 e5 rfl (by decide) (DV o r.sr) (o.rl r.sr).length cs.flatten rfl (Ac d2.o (X:=fun _=>False) (by first | exact f.o | exact f.o.alloc _) (fun _ _ q=>q)) _ 1 1 (Nd r (.slice B r.s.args.length C)) rfl rfl (by first | exact DN T.o | exact DN (Ak.new _ _ _)) (fun x hx=>by unfold Nd Hk at hx;simp only [List.mem_cons,List.not_mem_nil,or_false] at hx;rcases hx with rfl | rfl | rfl | rfl | rfl | rfl | rfl | rfl | rfl<;>rfl) (by decide) (by unfold maxLen;omega) (by omega) (rR _) _ rfl ?_;intro g E m Y c0 c1 e9;have FF:=Aa (d1.o _ g E m (by first | exact f.o | exact f.o.alloc _) c0 c1 Y);obtain ⟨y,c3,a8,d5,d6⟩:=FF.o;unfold DX at c3;dsimp only at c3;have c9:=Aa a8;clear c0 c1 Y a8;obtain ⟨q8,H,I,J,K,L,M,N,O,Q⟩:=a4.o m d5;have S6:=Aa (a4.o y d6);obtain ⟨f1,s0,s1,s2,s3,s4,s5,s6,s7,s8⟩:=S6.o;clear FF S6))
   all_goals
    go_wp2_with fail;go_end0;exact ⟨rfl,c9.o⟩
  ·have k1:(((r.s.kind:Nat):Int)==1)=false:=by rw [b];rfl
   have k2:(((r.s.kind:Nat):Int)==2)=false:=by rw [b];rfl
   have k4:(((r.s.kind:Nat):Int)==4)=false:=by rw [b];rfl
   have k6:(((r.s.kind:Nat):Int)==6)=false:=by rw [b];rfl
   have k7:(((r.s.kind:Nat):Int)==7)=false:=by rw [b];rfl
   have k3:(((r.s.kind:Nat):Int)==3)=false:=by rw [b];rfl
   have k5:(((r.s.kind:Nat):Int)==5)=false:=by rw [b];rfl
   have k8:(((r.s.kind:Nat):Int)==8)=true:=by rw [b];rfl
   have a1:=a3.o.sr (by omega);have d8:dN (A8 P F r.sr):=AX R a1;have d9:r.sr<16400:=D2 HA.o R a1;have a7:r.at=r.sr:=by unfold Rl.at;rw [if_neg (by omega)]
   have a9:A2 r:=by unfold A2;omega
   have d0:=Aa a9;have c8:=Aa a7;have D:=Aa b;clear b a7 a9;have a6:dN (∀n,Ab (fun _=>False) W n→(Instr.lookup 142 (.map (some (o.om 5))) (.int .i64 r.sr) false).run Tryz.prog n=.ok (DV o r.sr) n):=fun n h3=>by
    have q:=(s.o.i9 h3).r.fm.look IB Tryz.underlying142 (Ge n) (k:=r.sr) (by omega) false;unfold DV;cases hq:o.fw r.sr with
    | none=>exact q.1 hq
    | some t=>exact q.2 t hq
   obtain ⟨cs,G,d3,a0⟩:=s.o.r.fwAt r.sr;have e8:=e1.o r.sr;have d2:=Aa G;have e6:=Aa a0;have c2:∀k,(DV o r.sr).ownBlock=some k→o.own l k∧k≠l:=fun k b=>by
    refine ⟨?_,Aj G s.o.r.s9 (by decide) k b⟩;unfold DV at b;cases z:o.fw r.sr with
    | none=>rw [z] at b;cases b
    | some t0=>rw [z] at b;unfold DX at b;cases b;exact .inr (.inr (.inr ⟨r.sr,t0,z,rfl⟩))
   have b9:∀(V:World) (g E:Nat) (m:World),Ab (fun _=>False) W V→V.grownBy m (DV o r.sr).ownBlock→((DV o r.sr).ownBlock=some g∨g=V.heap.size)→m.ownsRow 0 208 9 (.slice (some ⟨g,0,none⟩) ((o.rl r.sr).length+1) E) ((o.rl r.sr).length+1) (cs.flatten++Nd r (.slice B r.s.args.length C))→
    ∃y,(Instr.mapUpdate 142 (.map (some (o.om 5))) (.int .i64 r.sr) (DX (g,(o.rl r.sr).length+1,E))).run Tryz.prog m=.ok () y∧Bg P l fv mn F cn o v w y r∧Ab (fun k=>o.own l k∧k≠l) W m∧Ab (fun k=>o.own l k∧k≠l) W y:=fun V g E m z hg hl Y=>by
    have g5:Ab (fun k=>(DV o r.sr).ownBlock=some k) W m:=Ab.grown (z.mono (fun _ _ q=>q.elim)) hg (fun j hj=>.inl hj);have d4:=s.o.r.fm.O g5 (fun q=>by obtain ⟨e7,e⟩:=B8 G _ q;exact s.o.r.fm.ne e rfl);obtain ⟨y,h6,m6,S⟩:=d4.put IB Tryz.underlying142 (k:=r.sr) (a:=(g,(o.rl r.sr).length+1,E)) (by omega) trivial;have y5:Ab (fun k=>o.own l k∧k≠l) W m:=g5.mono fun k _ q=>c2 k q
    have n5:o.om 5≠l:=by obtain ⟨_,_,e⟩:=s.o.r.fm.isMap;exact (s.o.r.bR e).1
    refine ⟨y,h6,Bg.from O1.o (s.o.r.waitB (t:=(g,(o.rl r.sr).length+1,E)) z c8.o d0.o (Ac G z (fun _ _ q=>q)) d3 (fun i q q'=>?_) (Ac HI.o z (fun _ _ q=>q)) hg (hl.imp id fun q=>by have:=z.size;dsimp only;omega) Y m6 S),y5,y5.thn S fun k _ q=>by rw [q];exact ⟨.inr (.inl ⟨5,by omega,rfl⟩),n5⟩⟩;obtain ⟨u,e,hr⟩:=a0 i q q';exact ⟨u,e,Ac hr z (fun _ _ q=>q)⟩
   have d1:=Aa b9;clear G a0 c2 b9;go_wp2_with fail;go_region_held3 (fun d=>d.cell? ⟨l,8,none⟩=some (.map (some (o.om 5)))∧d.cell? ⟨w.heap.size,0,none⟩=some (.int .i64 r.f)∧d.cell? ⟨w.heap.size,1,none⟩=some (.int .i64 r.s.kind)∧d.cell? ⟨w.heap.size,2,none⟩=some (.int .i64 r.s.aQ)∧d.cell? ⟨w.heap.size,3,none⟩=some (.int .i64 r.s.r9)∧d.cell? ⟨w.heap.size,4,none⟩=some (.int .i64 r.s.field)∧d.cell? ⟨w.heap.size,5,none⟩=some (.int .i64 r.s.m9)∧d.cell? ⟨w.heap.size,6,none⟩=some (.slice B r.s.args.length C)∧d.cell? ⟨w.heap.size,7,none⟩=some (.int .i64 r.s.next)∧d.cell? ⟨w.heap.size,8,none⟩=some (.int .i64 r.s.taken)) (go_keep)
    (first
      | (go_at_call 128;refine (CV r (.slice B r.s.args.length C) _ (by omega) (by omega)).mono ?_;rintro e Z ⟨rfl,p⟩;(first | (have f:=Aa (Ab.trans ((Ab.refl (fun _=>False) W).drew) p)) | (have f:=Aa (Ab.trans ((Ab.refl (fun _=>False) W).drew.alloc _) p)) | (have f:=Aa (f.o.trans p)) | (have f:=Aa (Ab.trans (f.o.alloc _) p)));(first | (have T:dN (Ak W.heap.size (Hi r (.slice B r.s.args.length C)) 208 Z):=Ak.O (Ak.new W.drew _ _) p (fun q=>q)) | (have T:=Aa (T.o.O p (fun q=>q))) | (have T:=Aa (Ak.O (Ak.new _ _ _) p (fun q=>q))) | skip);clear p;have L1:=a6.o _ f.o;have L2:=a6.o _ (f.o.alloc (.cells (Hi r (.slice B r.s.args.length C)) 208));obtain ⟨q8,H,I,J,K,L,M,N,O,Q⟩:=a4.o Z (f.o.mono fun _ _ q=>q.elim))
      | (refine step_append_lies _ rfl _ _ 242 rfl 0 208 i0 (.agg ZA) 9 88 Tryz.underlying242 e2 e3 e4 e5 rfl (by decide) (DV o r.sr) (o.rl r.sr).length cs.flatten rfl (Ac d2.o (X:=fun _=>False) (by first | exact f.o | exact f.o.alloc _) (fun _ _ q=>q)) _ 1 1 (Nd r (.slice B r.s.args.length C)) rfl rfl (by first | exact DN T.o | exact DN (Ak.new _ _ _)) (fun x hx=>by unfold Nd Hk at hx;simp only [List.mem_cons,List.not_mem_nil,or_false] at hx;rcases hx with rfl | rfl | rfl | rfl | rfl | rfl | rfl | rfl | rfl<;>rfl) (by decide) (by unfold maxLen;omega) (by omega) (rR _) _ rfl ?_;intro g E m Y c0 c1 e9;have FF:=Aa (d1.o _ g E m (by first | exact f.o | exact f.o.alloc _) c0 c1 Y);obtain ⟨y,c3,a8,d5,d6⟩:=FF.o;unfold DX at c3;dsimp only at c3;have c9:=Aa a8;clear c0 c1 Y a8;obtain ⟨q8,H,I,J,K,L,M,N,O,Q⟩:=a4.o m d5;have S6:=Aa (a4.o y d6);obtain ⟨f1,s0,s1,s2,s3,s4,s5,s6,s7,s8⟩:=S6.o;clear FF S6))
   all_goals
    go_wp2_with fail;go_end0;exact ⟨rfl,c9.o⟩
 ·have k1:(((r.s.kind:Nat):Int)==1)=false:=by rw [b];rfl
  have k2:(((r.s.kind:Nat):Int)==2)=false:=by rw [b];rfl
  have k4:(((r.s.kind:Nat):Int)==4)=false:=by rw [b];rfl
  have k6:(((r.s.kind:Nat):Int)==6)=false:=by rw [b];rfl
  have k7:(((r.s.kind:Nat):Int)==7)=false:=by rw [b];rfl
  have k3:(((r.s.kind:Nat):Int)==3)=false:=by rw [b];rfl
  have k5:(((r.s.kind:Nat):Int)==5)=false:=by rw [b];rfl
  have k8:(((r.s.kind:Nat):Int)==8)=false:=by rw [b];rfl
  have k9:(((r.s.kind:Nat):Int)==9)=true:=by rw [b];rfl
  have a2:=a3.o.tg (by rw [b];decide) (by rw [b];decide) (by rw [b];decide) (by rw [b];decide);have c6:dN (A8 P F r.tg):=AX R a2;have e0:r.tg<16400:=D2 HA.o R a2;have a7:r.at=r.tg:=by unfold Rl.at;rw [if_pos b]
  have a9:A2 r:=by unfold A2;omega
  have d0:=Aa a9;have c8:=Aa a7;have D:=Aa b;clear b a7 a9;have a6:dN (∀n,Ab (fun _=>False) W n→(Instr.lookup 142 (.map (some (o.om 5))) (.int .i64 r.tg) false).run Tryz.prog n=.ok (DV o r.tg) n):=fun n h3=>by
   have q:=(s.o.i9 h3).r.fm.look IB Tryz.underlying142 (Ge n) (k:=r.tg) (by omega) false;unfold DV;cases hq:o.fw r.tg with
   | none=>exact q.1 hq
   | some t=>exact q.2 t hq
  obtain ⟨cs,G,d3,a0⟩:=s.o.r.fwAt r.tg;have e8:=e1.o r.tg;have d2:=Aa G;have e6:=Aa a0;have c2:∀k,(DV o r.tg).ownBlock=some k→o.own l k∧k≠l:=fun k b=>by
   refine ⟨?_,Aj G s.o.r.s9 (by decide) k b⟩;unfold DV at b;cases z:o.fw r.tg with
   | none=>rw [z] at b;cases b
   | some t0=>rw [z] at b;unfold DX at b;cases b;exact .inr (.inr (.inr ⟨r.tg,t0,z,rfl⟩))
  have b9:∀(V:World) (g E:Nat) (m:World),Ab (fun _=>False) W V→V.grownBy m (DV o r.tg).ownBlock→((DV o r.tg).ownBlock=some g∨g=V.heap.size)→m.ownsRow 0 208 9 (.slice (some ⟨g,0,none⟩) ((o.rl r.tg).length+1) E) ((o.rl r.tg).length+1) (cs.flatten++Nd r (.slice B r.s.args.length C))→
   ∃y,(Instr.mapUpdate 142 (.map (some (o.om 5))) (.int .i64 r.tg) (DX (g,(o.rl r.tg).length+1,E))).run Tryz.prog m=.ok () y∧Bg P l fv mn F cn o v w y r∧Ab (fun k=>o.own l k∧k≠l) W m∧Ab (fun k=>o.own l k∧k≠l) W y:=fun V g E m z hg hl Y=>by
   have g5:Ab (fun k=>(DV o r.tg).ownBlock=some k) W m:=Ab.grown (z.mono (fun _ _ q=>q.elim)) hg (fun j hj=>.inl hj);have d4:=s.o.r.fm.O g5 (fun q=>by obtain ⟨e7,e⟩:=B8 G _ q;exact s.o.r.fm.ne e rfl);obtain ⟨y,h6,m6,S⟩:=d4.put IB Tryz.underlying142 (k:=r.tg) (a:=(g,(o.rl r.tg).length+1,E)) (by omega) trivial;have y5:Ab (fun k=>o.own l k∧k≠l) W m:=g5.mono fun k _ q=>c2 k q
   have n5:o.om 5≠l:=by obtain ⟨_,_,e⟩:=s.o.r.fm.isMap;exact (s.o.r.bR e).1
   refine ⟨y,h6,Bg.from O1.o (s.o.r.waitB (t:=(g,(o.rl r.tg).length+1,E)) z c8.o d0.o (Ac G z (fun _ _ q=>q)) d3 (fun i q q'=>?_) (Ac HI.o z (fun _ _ q=>q)) hg (hl.imp id fun q=>by have:=z.size;dsimp only;omega) Y m6 S),y5,y5.thn S fun k _ q=>by rw [q];exact ⟨.inr (.inl ⟨5,by omega,rfl⟩),n5⟩⟩;obtain ⟨u,e,hr⟩:=a0 i q q';exact ⟨u,e,Ac hr z (fun _ _ q=>q)⟩
  have d1:=Aa b9;clear G a0 c2 b9;go_wp2_with fail;go_region_held3 (fun d=>d.cell? ⟨l,8,none⟩=some (.map (some (o.om 5)))∧d.cell? ⟨w.heap.size,0,none⟩=some (.int .i64 r.f)∧d.cell? ⟨w.heap.size,1,none⟩=some (.int .i64 r.s.kind)∧d.cell? ⟨w.heap.size,2,none⟩=some (.int .i64 r.s.aQ)∧d.cell? ⟨w.heap.size,3,none⟩=some (.int .i64 r.s.r9)∧d.cell? ⟨w.heap.size,4,none⟩=some (.int .i64 r.s.field)∧d.cell? ⟨w.heap.size,5,none⟩=some (.int .i64 r.s.m9)∧d.cell? ⟨w.heap.size,6,none⟩=some (.slice B r.s.args.length C)∧d.cell? ⟨w.heap.size,7,none⟩=some (.int .i64 r.s.next)∧d.cell? ⟨w.heap.size,8,none⟩=some (.int .i64 r.s.taken)) (go_keep)
   (first
     | (go_at_call 127;refine (Cb r (.slice B r.s.args.length C) _ (by omega) (by omega)).mono ?_;rintro e Z ⟨rfl,p⟩;(first | (have f:=Aa (Ab.trans ((Ab.refl (fun _=>False) W).drew) p)) | (have f:=Aa (Ab.trans ((Ab.refl (fun _=>False) W).drew.alloc _) p)) | (have f:=Aa (f.o.trans p)) | (have f:=Aa (Ab.trans (f.o.alloc _) p)));(first | (have T:dN (Ak W.heap.size (Hi r (.slice B r.s.args.length C)) 208 Z):=Ak.O (Ak.new W.drew _ _) p (fun q=>q)) | (have T:=Aa (T.o.O p (fun q=>q))) | (have T:=Aa (Ak.O (Ak.new _ _ _) p (fun q=>q))) | skip);clear p;have L1:=a6.o _ f.o;have L2:=a6.o _ (f.o.alloc (.cells (Hi r (.slice B r.s.args.length C)) 208));obtain ⟨q8,H,I,J,K,L,M,N,O,Q⟩:=a4.o Z (f.o.mono fun _ _ q=>q.elim))
     | (refine step_append_lies _ rfl _ _ 242 rfl 0 208 i0 (.agg ZA) 9 88 Tryz.underlying242 e2 e3 e4 e5 rfl (by decide) (DV o r.tg) (o.rl r.tg).length cs.flatten rfl (Ac d2.o (X:=fun _=>False) (by first | exact f.o | exact f.o.alloc _) (fun _ _ q=>q)) _ 1 1 (Nd r (.slice B r.s.args.length C)) rfl rfl (by first | exact DN T.o | exact DN (Ak.new _ _ _)) (fun x hx=>by unfold Nd Hk at hx;simp only [List.mem_cons,List.not_mem_nil,or_false] at hx;rcases hx with rfl | rfl | rfl | rfl | rfl | rfl | rfl | rfl | rfl<;>rfl) (by decide) (by unfold maxLen;omega) (by omega) (rR _) _ rfl ?_;intro g E m Y c0 c1 e9;have FF:=Aa (d1.o _ g E m (by first | exact f.o | exact f.o.alloc _) c0 c1 Y);obtain ⟨y,c3,a8,d5,d6⟩:=FF.o;unfold DX at c3;dsimp only at c3;have c9:=Aa a8;clear c0 c1 Y a8;obtain ⟨q8,H,I,J,K,L,M,N,O,Q⟩:=a4.o m d5;have S6:=Aa (a4.o y d6);obtain ⟨f1,s0,s1,s2,s3,s4,s5,s6,s7,s8⟩:=S6.o;clear FF S6))
  all_goals
   go_wp2_with fail;go_end0;exact ⟨rfl,c9.o⟩
 ·have k1:(((r.s.kind:Nat):Int)==1)=false:=by simp;omega
  have k2:(((r.s.kind:Nat):Int)==2)=false:=by simp;omega
  have k4:(((r.s.kind:Nat):Int)==4)=false:=by simp;omega
  have k6:(((r.s.kind:Nat):Int)==6)=false:=by simp;omega
  have k7:(((r.s.kind:Nat):Int)==7)=false:=by simp;omega
  have k3:(((r.s.kind:Nat):Int)==3)=false:=by simp;omega
  have k5:(((r.s.kind:Nat):Int)==5)=false:=by simp;omega
  have k8:(((r.s.kind:Nat):Int)==8)=false:=by simp;omega
  have k9:(((r.s.kind:Nat):Int)==9)=false:=by simp;omega
  have HX:dN (Bg P l fv mn F cn o v w W r):=Nx.bg O1.o ⟨o,v,⟨s.o.r,fun _ q=>.inl q,rfl,Ab.refl _ _⟩,.rf _,fun _ q=>q,⟨fun q=>by omega,fun q=>by omega,fun q=>by omega,fun q=>by omega,fun q=>by omega⟩⟩ (fun q=>by unfold A2 at q;omega);clear b;go_wp2_with fail;go_end0;exact ⟨rfl,HX.o⟩
theorem Hn.get{w g n m}{l:List Rl}(h:Hn 0 w (.slice (some ⟨g,0,none⟩) n m) l){i:Nat}(r:i<l.length):
 ∃a,(∀j,j<9→w.cell? ⟨g,i*9+j,none⟩=(Nd l[i] a)[j]?)∧AD 0 w a l[i].s.args:=by
 obtain ⟨c,k,u,f⟩:=h;have s:=Aq k;subst s;have d:i<c.length:=by omega
 have p:∀x,x∈c→x.length=9:=by intro x t;obtain ⟨j,b,rfl⟩:=List.mem_iff_getElem.1 t;obtain ⟨_,e,_⟩:=f j b (by omega);rw [e];rfl
 obtain ⟨a,e,o⟩:=f i d r;refine ⟨a,fun j b=>?_,o⟩;have q:=k.cellAt (i*9+j) (by omega);rw [q,Cz p d b,e]
theorem Qe(P u E J z C o v w)(A:AnOk P z C)(h:Dn P u E J z C o v w)(c Y:Nat)(m:Nat→Prop)(hs:A9 Y m w)(hn:¬o.own u Y)(g1:v.s.le (least P))(hm:∀t,m t→v.s.I c t)(hW:∀r,v.W c r→Ly P r∧A2 r∧r.at=c)(hl:(o.rl c).length≤100000)(hc:A8 P z c):
 Calls Tryz.prog 97 #[.pointer (some ⟨u,0,none⟩),.int .i64 c,.map (some Y)] w fun e w'=>e=.returned (.tuple #[])∧Nx P u E J z C o v w w' (fun v'=>(∀b t,v.s.F c b→m t→v'.s.I b t)∧∀r t,v.W c r→m t→EZ P r t v'.s):=by
 obtain ⟨kf,g0⟩:=(h.r.d0 c 3 (.inr rfl)).2 hc;have lc:c<16400:=hc.lt A.bA A.ok.l8 A.lp;have p7:=h.r.s9.cell 7;have e4:=Ae h.r.s9;simp only [Gf,dM,dJ,dK] at p7;have l3:=((h.r.mp 3 (by omega)).look Dw Tryz.underlying91 (Ca w) (k:=c) (by omega) false).2 kf g0;have g5:=(h.r.st 3 c kf g0).iff (m':=v.s.F c) fun n=>by simp [BF]
 unfold GG at l3;have k0:=hs.lt;have HA:=Aa A;have H:=Aa h;have B:=Aa g5;have h8:=Aa hs;have c9:=Aa g1;have HM:=Aa hm;have HW:=Aa hW;have e9:=Aa hn;clear h g5 hs g1 hm hW hn A;go_enter Tryz.func97,Tryz.ntmps97;go_wp2_with fail;refine (Df kf (v.s.F c) w B.o H.o.tb H.o.tl).mono ?_;rintro e w1 ⟨nv,l,rfl,R,a3,W,d⟩;obtain ⟨na,nl,nc,rfl⟩:=Ad R;have e2:=Aq R;subst e2;have a9:=Aa (H.o.i9 d);have h5:=Aa (Ao R (rR _));have h9:=Aa (h8.o.O d (fun q=>q));have j2:l.length≤19200:=C8 19200 l a3 fun x hx=>by obtain ⟨_,_,e5⟩:=B.o;exact e5.lt ((W x).1 hx)
 have e7:=Aa W;have j6:=d.size;have f0:=Aa d;have SW:dN (Dp P u E J z C o o v w1 w1):=⟨a9.o.r,fun _ q=>.inl q,rfl,Ab.refl _ _⟩;clear R a3 W d B p7 l3 e4;go_wp2_with fail;go_loopw [21] (fun i wr=>∃(k:Nat) (d:So) (y:Sv),k≤l.length∧i=.int .i64 k∧dN (Dp P u E J z C o d y w1 wr)∧dN (v.up y∧(∀X,Bs P X v→Bs P X y)∧∀j b t,j<k→l[j]? =some b→m t→y.s.I b t)) (fun i _=>l.length-(intOf i).toNat)
 case atStart=>exact ⟨0,o,v,by omega,rfl,SW,⟨.rf _,fun _ q=>q,fun j a _ q=>by omega⟩⟩
 case round=>
  clear SW;obtain ⟨k,d,y,hk,rfl,S,U⟩:=hrel;have a1:=a9.o.next S.o;have i9:¬d.own u Y:=fun q=>(S.o.ow _ q).elim e9.o fun q=>by omega
  have a8:=h9.o.O S.o.on e9.o;by_cases V:k<l.length
  ·have a6:=a9.o.r.ints h5.o S.o.on;obtain ⟨gl,rfl⟩:=AA a6 (by omega);have a2:=a6.cellAt k (by omega);rw [List.getElem?_map,rU V] at a2;simp only [Option.map_some] at a2;have j0:=(a6.lt gl rfl).2;have hF:=(e7.o l[k]).1 (rQ _);have d5:=c9.o.f _ _ hF;have d6:=(Xg HA.o d5).2;have j9:=d6.lt HA.o.bA HA.o.ok.l8 HA.o.lp;obtain ⟨kb,d9⟩:=(a1.r.d0 l[k] 0 (.inl rfl)).2 d6;have i6:Y≠kb:=fun q=>i9 (q▸.inr (.inr (.inl ⟨0,_,d9⟩)))
   have e0:(k:Int)<(l.length:Int):=by omega
   have d8:k+1≤l.length:=V;have HG:=Aa (rU V);have g8:=Aa d5;have h4:=Aa d9;have a0:=Aa a1;have a5:=Aa a8;clear a6 hF d5 d6 d9 a1 a8;generalize l[k]=x at*;go_wp2_with fail;refine (E7 P u E J z C d y wr x kb Y m a0.o.r h4.o a5.o (by omega) i6).mono ?_;rintro e Z ⟨rfl,f,s2⟩;have Q:=Aa (S.o.trans s2);have K:dN (v.up (y.give x m)∧(∀X,Bs P X v→Bs P X (y.give x m))∧∀j b t,j<k+1→l[j]? =some b→m t→(y.give x m).s.I b t):=⟨U.o.1.tr (Sv.give_up _ _ _),fun X q=>(U.o.2.1 X q).give fun t I=>(CU P).flow c x t g8.o (c9.o.i c t (HM.o t I)),fun j b t M G I=>by
    by_cases e:j=k
    ·subst e;rw [HG.o] at G;cases G;exact .inr ⟨rfl,I⟩
    ·exact .inl (U.o.2.2 j b t (by omega) G I)⟩
   clear s2 U S;go_wp2_with fail;go_roundw
   case rel=>exact ⟨k+1,f,_,d8,by go_num,Q,K⟩
   case measure=>simp [intOf];omega
  ·have e:k=l.length:=by omega
   subst e;have e0:decide ((l.length:Int)<(l.length:Int))=false:=by simp
   have a0:=Aa a1;have a5:=Aa a8;clear a1 a8;go_wp2_with fail;refine (Df Y m wr a5.o a0.o.tb a0.o.tl).mono ?_;rintro e Z ⟨nv,s,rfl,R,a3,W,f⟩;obtain ⟨k1,k4,k2,rfl⟩:=Ad R;have e2:=Aq R;subst e2;have j3:s.length≤19200:=C8 19200 s a3 fun x hx=>by obtain ⟨_,_,e5⟩:=a5.o;exact e5.lt ((W x).1 hx)
   have T:=Aa (a0.o.i9 f);have h6:=Aa (Ao R (rR _));have e8:=Aa W;have j7:=f.size;have i0:=Aa f;have e3:d.rl=o.rl:=congrArg Prod.fst S.o.rl;have j4:(d.rl c).length≤100000:=by rw [e3];exact hl
   have f9:=T.o.r.fwAt c;obtain ⟨fa,fl,fc,d7,i3⟩:∃a l cc,DV d c=.slice a l cc∧l=(d.rl c).length:=by obtain ⟨cs,q,_⟩:=f9;obtain ⟨a,l,cc,e⟩:=Ad q;rw [e] at q;exact ⟨a,l,cc,e,Aq q⟩
   subst i3;have lk:(Instr.lookup 142 (.map (some (d.om 5))) (.int .i64 c) false).run Tryz.prog Z=.ok (.slice fa (d.rl c).length fc) Z:=by
    rw [←d7];have q:=T.o.r.fm.look IB Tryz.underlying142 (Ge Z) (k:=c) (by omega) false;unfold DV;cases hq:d.fw c with
    | none=>exact q.1 hq
    | some t=>exact q.2 t hq
   have p8:=T.o.r.s9.cell 8;have e4:=Ae T.o.r.s9;simp only [Gf,dM,dJ,dK] at p8;have SW:dN (Dp P u E J z C d d y Z Z):=⟨T.o.r,fun _ q=>.inl q,rfl,Ab.refl _ _⟩;have f1:=Aa e3;have g9:=Aa d7;clear R a3 W f e3 d7 f9;go_wp2_with fail;go_loopw [39] (fun i wr=>∃(k:Nat) (f:So) (D:Sv),k≤(d.rl c).length∧i=.int .i64 k∧dN (Dp P u E J z C d f D Z wr)∧dN (y.up D∧(∀X,Bs P X y→Bs P X D)∧∀j r t,j<k→(d.rl c)[j]? =some r→m t→EZ P r t D.s)) (fun i _=>(d.rl c).length-(intOf i).toNat)
   case atStart=>exact ⟨0,d,y,by omega,rfl,SW,⟨.rf _,fun _ q=>q,fun j a _ q=>by omega⟩⟩
   case round=>
    clear SW p8 lk e4;obtain ⟨k,f,D,hk,rfl,Q,K⟩:=hrel;have d3:=T.o.next Q.o;by_cases V:k<(d.rl c).length
    ·have a4:=d3.r.fwAt c;have q1:f.rl=d.rl:=congrArg Prod.fst Q.o.rl;have q2:f.fw=d.fw:=congrArg Prod.snd Q.o.rl;have q3:DV f c=DV d c:=by unfold DV;rw [q2]
     rw [q1,q3,g9.o] at a4;obtain ⟨g,rfl⟩:∃g,fa=some ⟨g,0,none⟩:=by obtain ⟨cs,q,_⟩:=a4;exact AA q (by omega)
     have lg:g<wr.heap.size:=by obtain ⟨cs,q,_⟩:=a4;exact (q.lt g rfl).2
     obtain ⟨av,L,hI⟩:=a4.get V;have c0:=L 0 (by omega);have c1:=L 1 (by omega);have c2:=L 2 (by omega);have c3:=L 3 (by omega);have c4:=L 4 (by omega);have c5:=L 5 (by omega);have c6:=L 6 (by omega);have c7:=L 7 (by omega);have c8:=L 8 (by omega);simp only [Nd,Hk,dJ,dK,Nat.add_zero] at c0 c1 c2 c3 c4 c5 c6 c7 c8;have hv:v.W c (d.rl c)[k]:=(H.o.r.fvr c _).2 (by rw [←f1.o];exact rQ _);have g4:=HW.o _ hv;have HG:=Aa (rU V);have e0:(k:Int)<((d.rl c).length:Int):=by omega
     have d8:k+1≤(d.rl c).length:=V;obtain ⟨aa,al,ac,rfl⟩:=Ad hI;have i2:=Aq hI;subst i2;have HI:=Aa hI;have d1:=Aa g4;have e6:=Aa d3;clear a4 L hI hv g4 d3 q1 q2 q3;generalize (d.rl c)[k]=r at*;have o5:Ab (fun _=>False) wr (wr.alloc (.cells (Hi r (.slice aa r.s.args.length ac)) 208)):=(Ab.refl _ wr).alloc _;have f8:=Ak.new wr (Hi r (.slice aa r.s.args.length ac)) 208;have d4:=e6.o.i9 o5;have f4:=Ac HI.o o5 (fun _ _ q=>q);have f7:=Ac (T.o.r.ints h6.o Q.o.on) o5 (fun _ _ q=>q);have i8:¬f.own u wr.heap.size:=fun q=>by have:=e6.o.r.ownLt q;omega
     have j5:(wr.alloc (.cells (Hi r (.slice aa r.s.args.length ac)) 208)).heap.size=wr.heap.size+1:=by simp
     go_upto_block 4 with fail;generalize wr.alloc (.cells (Hi r (.slice aa r.s.args.length ac)) 208)=W5 at*;have f2:dN (Dp P u E J z C f f D W5 W5):=⟨d4.r,fun _ q=>.inl q,rfl,Ab.refl _ _⟩;have b9:=Aa d4;have h1:=Aa f4;have h7:=Aa f7;have g6:=Aa f8;have i1:=Aa o5;clear c0 c1 c2 c3 c4 c5 c6 c7 c8 d4 f4 f7 f8 o5 lg;generalize wr.heap.size=rb at*;go_wp2_with fail;go_loopw [45] (fun i wi=>∃(p:Nat) (o3:So) (N:Sv),p≤s.length∧i=.int .i64 p∧dN (Dp P u E J z C f o3 N W5 wi)∧dN (D.up N∧(∀X,Bs P X D→Bs P X N)∧∀j t,j<p→s[j]? =some t→EZ P r t N.s)) (fun i _=>s.length-(intOf i).toNat)
     case atStart=>exact ⟨0,f,D,by omega,rfl,f2,⟨.rf _,fun _ q=>q,fun j a q=>by omega⟩⟩
     case round=>
      clear f2;obtain ⟨p,o3,N,j1,rfl,B,O⟩:=hrel;have f3:=b9.o.next B.o;by_cases e1:p<s.length
      ·have a7:=b9.o.r.ints h7.o B.o.on;have f5:=b9.o.r.ints h1.o B.o.on;have F:=g6.o.O B.o.on i8;obtain ⟨gl,rfl⟩:=AA a7 (by omega);have a2:=a7.cellAt p (by omega);rw [List.getElem?_map,rU e1] at a2;simp only [Option.map_some] at a2;have j0:=(a7.lt gl rfl).2;have g2:=(e8.o s[p]).1 (rQ _);have f6:(least P).I r.at s[p]:=by rw [d1.o.2.2];exact c9.o.i _ _ (HM.o _ g2)
       have h0:=Aa (rU e1);have i5:(p:Int)<(s.length:Int):=by omega
       have i4:p+1≤s.length:=e1;have b0:=F.cell 0;have b1:=F.cell 1;have b2:=F.cell 2;have b3:=F.cell 3;have b4:=F.cell 4;have b5:=F.cell 5;have b6:=F.cell 6;have b7:=F.cell 7;have b8:=F.cell 8;have j8:=Ae F;simp only [dM,dJ,dK] at b0 b1 b2 b3 b4 b5 b6 b7 b8;have g7:=Aa f3;have h2:=Aa f5;have h3:=Aa f6;clear a7 f5 F f3 g2 f6;generalize s[p]=x at*;go_wp2_with fail;refine (PM P u E J z C o3 N wr HA.o g7.o r x (.slice aa r.s.args.length ac) h2.o d1.o.1 d1.o.2.1 h3.o).mono ?_;rintro e w7 ⟨rfl,o7,v7,s7,u7,i7,q7⟩;have d2:=Aa (B.o.trans s7);have d0:dN (D.up v7∧(∀X,Bs P X D→Bs P X v7)∧∀j t,j<p+1→s[j]? =some t→EZ P r t v7.s):=⟨O.o.1.tr u7,fun X q=>i7 X (O.o.2.1 X q),fun j t M G=>by
        by_cases e:j=p
        ·subst e;rw [h0.o] at G;cases G;exact q7
        ·exact (O.o.2.2 j t (by omega) G).up u7.le.s⟩
       clear s7 u7 i7 q7 O B;go_wp2_with fail;go_roundw
       case rel=>exact ⟨p+1,o7,v7,i4,by go_num,d2,d0⟩
       case measure=>simp [intOf];omega
      ·have e:p=s.length:=by omega
       subst e;have i5:decide ((s.length:Int)<(s.length:Int))=false:=by simp
       have d2:=Aa ((Q.o.i9 i1.o).trans B.o);have d0:dN (y.up N∧(∀X,Bs P X y→Bs P X N)∧∀j r t,j<k+1→(d.rl c)[j]? =some r→m t→EZ P r t N.s):=⟨K.o.1.tr O.o.1,fun X q=>O.o.2.1 X (K.o.2.1 X q),fun j r' t M G I=>by
        by_cases e:j=k
        ·subst e;rw [HG.o] at G;cases G;obtain ⟨i,hi,e⟩:=List.mem_iff_getElem.1 ((e8.o t).2 I);exact O.o.2.2 i t hi (by rw [rU hi,e])
        ·exact (K.o.2.2 j r' t (by omega) G I).up O.o.1.le.s⟩
       clear K Q O B;go_wp2_with fail;go_roundw
       case rel=>exact ⟨k+1,o3,N,d8,by go_num,d2,d0⟩
       case measure=>simp [intOf];omega
    ·have e:k=(d.rl c).length:=by omega
     subst e;have e0:decide (((d.rl c).length:Int)<((d.rl c).length:Int))=false:=by simp
     have HX:dN (Nx P u E J z C o v w wr (fun v'=>(∀b t,v.s.F c b→m t→v'.s.I b t)∧∀r t,v.W c r→m t→EZ P r t v'.s)):=by
      have t1:=(S.o.i9 i0.o).trans Q.o;refine ⟨f,D,⟨t1.r,fun j M=>(t1.ow j M).imp id fun q=>rO f0.o.size q,t1.rl,(f0.o.mono (fun _ _ q=>q.elim)).trans t1.on⟩,U.o.1.tr K.o.1,fun X q=>K.o.2.1 X (U.o.2.1 X q),fun b t hF I=>?_,fun r t hr I=>?_⟩
      ·obtain ⟨j,M,e⟩:=List.mem_iff_getElem.1 ((e7.o b).2 hF);exact K.o.1.le.s.i _ _ (U.o.2.2 j b t M (by rw [rU M,e]) I)
      ·have g3:=(H.o.r.fvr c r).1 hr;rw [←f1.o] at g3;obtain ⟨j,M,e⟩:=List.mem_iff_getElem.1 g3;exact K.o.2.2 j r t M (by rw [rU M,e]) I
     go_wp2_with fail;go_end0;exact ⟨rfl,HX.o⟩
structure Fm(P:List PFn)(g:Nat)(m:Value)(n p l:Nat)(o o':So)(v':Sv)(w w':World):Prop where
 e:Dn P g m n p l o' v' w'
 ow:∀k,o'.own g k→o.own g k∨w.heap.size≤k
 on:Ab (o.own g) w w'
section
variable {P : List PFn} {g : Nat} {m : Value} {n p l : Nat} {o x A : So} {v B C : Sv} {w s y : World}
theorem Fm.rf(h:Dn P g m n p l o v w):Fm P g m n p l o o v w w:=⟨h,fun _ q=>.inl q,Ab.refl _ _⟩
theorem Fm.more(h:Fm P g m n p l o x B w s)(r:Bp P g m n p l A C y)(b:∀k,A.own g k→x.own g k∨s.heap.size≤k)(a:Ab (x.own g) s y):Fm P g m n p l o A C w y:=
 ⟨h.e.nxt r b a,fun k c=>(b k c).elim (h.ow k) fun q=>.inr (rO h.on.size q),h.on.thn a fun j d q=>(h.ow j q).elim id fun r=>absurd r (by omega)⟩
theorem Fm.i9(h:Fm P g m n p l o x B w s)(k:Ab (fun _=>False) s y):Fm P g m n p l o x B w y:=⟨h.e.i9 k,h.ow,h.on.bI k⟩
structure Ph(P:List PFn)(o:So)(v:Sv)(D:Rl→Prop)(cnt:Nat):Prop where
 raw:v.raw
 ok:Bs P (fun _ _=>False) v
 w:∀a q,v.W a q→Ly P q∧A2 q∧q.at=a
 d:∀r,D r→Mz P r v.s∧(A2 r→v.W r.at r)
 len:∀c,(o.rl c).length≤cnt
theorem Ph.next{o e v i D d r}(h:Ph P o v D d)(k:aC P g m n p l o e v i w s r)(t:Ly P r){E:Rl→Prop}(j:∀q,E q→D q∨q=r):Ph P e i E (d+1):=by
 refine ⟨k.raw h.raw,k.ok _ h.raw h.ok,fun a q b=>?_,fun q b=>?_,fun c=>rO (k.len c) (Nat.succ_le_succ (h.len c))⟩
 ·rcases k.w2 a q b with z | ⟨u,F,G⟩
  ·exact h.w a q z
  ·rw [G];exact ⟨t,u,F.symm⟩
 ·rcases j q b with z | rfl
  ·exact ⟨(h.d q z).1.up k.le,fun f=>k.w1 _ _ ((h.d q z).2 f)⟩
  ·exact ⟨k.beg,k.fol⟩
structure Yo(P:List PFn)(o:So)(v:Sv):Prop where
 ok:Bs P (fun _ _=>False) v
 w:∀a q,v.W a q→Ly P q∧A2 q∧q.at=a
 b:∀r,Ly P r→Mz P r v.s∧(A2 r→v.W r.at r)
 len:∀c,(o.rl c).length≤100000
theorem Yo.later{o i v d}(h:Yo P o v)(u:v.took.up d)(k:Bs P (fun _ _=>False) d)(b:i.rl=o.rl):Yo P i d:=
 ⟨k,fun a q e=>h.w a q (by have:=u.le.w;rw [this] at e;exact e),fun r b=>⟨(h.b r b).1.up u.le.s,fun f=>by rw [u.le.w];exact (h.b r b).2 f⟩,fun c=>by rw [b];exact h.len c⟩
theorem Dn.O(h:Dn P g m n p l o v w){X:Nat→Prop}(c:Ab X w s)(f:∀k,X k→¬o.own g k)(d:∀k a t b,X k→w.heap[k]? ≠some (.cells a t b))(e:¬X 0):Dn P g m n p l o v s:=
 ⟨h.r.O c f (fun k a b q=>d k a _ b q),h.pl.O c (fun k a t b q r=>absurd r (d k a t b q)),h.tb.O c e h.tl,rP h.tl c.size,h.tn⟩
theorem Dn.took(h:Dn P g m n p l o v w){a}(r:w.heap.size≤a)(j:Bv Hb Ha a (fun _=>none) s)(f:Ak g (Gf (o.tk a) m n p l) 144 s)(c:Ab (fun k=>k=g) w s):Dn P g m n p l (o.tk a) v.took s∧∀k,(o.tk a).own g k→o.own g k∨k=a:=by
 have d:∀k,(o.tk a).own g k→o.own g k∨k=a:=fun k b=>by
  rcases b with q | ⟨t,u,q⟩ | ⟨t,i,q⟩ | q
  ·exact .inl (.inl q)
  ·by_cases e:t=2
   ·rw [e,So.tk_2] at q;exact .inr q
   ·rw [So.tk_om e] at q;exact .inl (.inr (.inl ⟨t,u,q⟩))
  ·exact .inl (.inr (.inr (.inl ⟨t,i,(So.tk_bk q).2⟩)))
  ·exact .inl (.inr (.inr (.inr q)))
 exact ⟨h.nxt (h.r.took r j f c) (fun k b=>(d k b).imp id fun q=>by omega) (c.mono fun k _ q=>.inl q),d⟩
end
theorem Yo.done{P:List PFn}{g:Nat}{m:Value}{n p l:Nat}{o:So}{v:Sv}{w:World}(h:Yo P o v)(k:Bp P g m n p l o v w)(b:∀c,o.bk 2 c=none):v.s.le (least P)∧(least P).le v.s:=by refine h.ok.done (fun c t q=>?_) (fun r a=>(h.b r a).1) (fun r a=>(h.b r a).2);obtain ⟨d,e⟩:=k.ins 2 c t (by omega) (Kq.2 q);rw [b c] at e;cases e
end Go.Proofs.YtegmjgjkcdbmkaaGreatDoor
