/- Part of the proof: ArN ArP. -/
import Derived.Test.YtaningfhibkemaaGreatDoorG36
set_option maxRecDepth 100000
set_option maxHeartbeats 4000000
namespace Go.Proofs.YtaningfhibkemaaGreatDoor
open Go.RowKit Go.Maps Go.Proofs.Tryz
theorem CA{w a}(h:Below (World.heap w).size w a):O kD w a:=⟨h.os,h.tape,h.output,h.size,fun k b _=>h.block k b⟩
theorem NY(I:QU)(s:ByteArray)(b:List TF)(x:Nat)(G:GoodP b)(E:∀t,t∈b->∀u,u∈t.cF->OK 4000 u)(w:World)(R:JQ w)(S:0<w.heap.size)
 (C:Calls prog 13 #[.string s] w fun e d=>∃(g n B:Nat) (a:Option Addr) (l c:Nat) (U:Nat->Prop),e=.returned (.tuple #[.slice (some ⟨g,0,none⟩) n B,.agg #[.slice a l c,.int .i64 x],.int .i64 0,.int .i64 0])/\DF 4000 U d (.slice a l c) b/\(∀k,U k->k<d.heap.size)/\Below w.heap.size w d):
 Calls prog 8 #[.string s] w fun e d=>∃r,e=.returned (.tuple #[.pointer (some ⟨r,0,none⟩),.int .i64 0,.int .i64 0])/\w.heap.size<=r/\Fu (Bi (fnN b) b 0 0) (vx (fnN b) EC) (BJ (fnN b) b 0 0).1 (BJ (fnN b) b 0 0).2 r d/\O kD w d:=by
 have z:=J C;have j:=J G.anHy;have a1:=J (G.fR E);have HC:=J I;have HT:=J R;clear C G E I R;go_enter func8,ntmps8;go_wp2_with fail;refine z.o.mono ?_;rintro e w2 ⟨g,n,B,a,l,c,U,rfl,N,Q,H⟩;have O2:=J (CA H);have a2:=J N;have a3:=J Q;have h:=J ((O.refl kD w2).alloc (.cells #[.slice a l c,.int .i64 x] 60));clear H z N Q;go_wp2_with(first
  |(go_at_call 16;refine(Yz 4000 U (.slice a l c) b x _ (a2.o.d8 h.o (fun _ _ q=>q)) (fun k hk=>by have:=a3.o k hk;have:=h.o.size;omega) a1.o).mono ?_;rintro e w4 ⟨fv,rfl,M,K⟩;have a0:=J M;have i:=J (O2.o.trans (h.o.trans K));clear M K)
  |(go_at_call 15;refine(Zz HC.o (Bi (fnN b) b 0 0) fv (vx (fnN b) EC) (BJ (fnN b) b 0 0).1 (BJ (fnN b) b 0 0).2 w4 j.o.ok j.o.nm (a0.o.base (gV _)) j.o.mn (HT.o.d8 i.o id S) (gY S i.o.size)).mono ?_;rintro e f ⟨a4,o,m,p,rfl,P,L⟩;have A:=J P;have y:=J (i.o.trans L);clear P L;obtain⟨V,Y,X,rfl⟩:∃a l c,a4=.slice a l c:=(match A.o.pl with|⟨_,q,_⟩=>Ad q);unfold DO))
 have a5:=W.new f (DO (.slice V Y X) (vx (fnN b) EC) (BJ (fnN b) b 0 0).1 (BJ (fnN b) b 0 0).2 o m p) 75;have F:=(O.refl kD f).alloc (.cells (DO (.slice V Y X) (vx (fnN b) EC) (BJ (fnN b) b 0 0).1 (BJ (fnN b) b 0 0).2 o m p) 75);refine gP (v:=.tuple #[.pointer (some ⟨f.heap.size,0,none⟩),.int .i64 0,.int .i64 0]) (by simp[results,results8,go_sem]) rfl ⟨f.heap.size,rfl,y.o.size,⟨_,o,m,p,a5,A.o.s9 F⟩,y.o.trans F⟩
theorem Fu.bY{P g i e j w l b m t}(h:Fu P g i e j w)(f:O (fun k=>k=b) w l)(c:W b m t w)(a:t≠3/\t≠9/\t≠189/\t≠134/\t≠75)(r:0≠b):Fu P g i e j l:=by obtain⟨o,s,n,u,d,p⟩:=h;exact⟨o,s,n,u,d.d8 f (fun q=>by subst q;unfold W at d c;rw[d]at c;cases c;exact a.2.2.2.2 rfl),p.other f c ⟨a.1,a.2.1,a.2.2.1,a.2.2.2.1⟩ r⟩
theorem QA(o:Value)(E:∃a l c,o=.slice a l c)(g b d i f j:Nat)(w:World)(n:Nat)(k:Int)(h:n<1\/b<n\/k<0\/4<=k):
 Calls prog 67 #[.agg (DO o g b d i f j),.int .i64 n,.int .i64 k] w fun e G=>e=.returned (.tuple #[.slice none 0 0,.bool false])/\O kD w G:=by
 have s:D (O kD w (w.alloc (.cells (DO o g b d i f j) 71))):=(O.refl _ w).alloc _;have p:=J (W.new w (DO o g b d i f j) 71);obtain⟨t,x,u,rfl⟩:=E;go_enter func67,ntmps67;go_upto_region 1 with fail;change Code.wp _ _ _ _ (w.alloc (.cells (DO (.slice t x u) g b d i f j) 71));generalize w.alloc (.cells (DO (.slice t x u) g b d i f j) 71)=H at*;have B:=p.o.cell 2;have K:=Ae p.o;simp only[DO,gH,gF,gG]at B;have m:=J s.o;clear s p;rcases(Z:n<1\/(¬n<1/\b<n)\/(¬n<1/\¬b<n/\k<0)\/(¬n<1/\¬b<n/\¬k<0/\4<=k))with q|⟨z,A⟩|⟨z,A,F⟩|⟨z,A,F,L⟩
 .have r:decide ((n:Int)<1)=true:=jX;go_wp2_with fail;refine gP (v:=.tuple #[.slice none 0 0,.bool false]) (by simp[results,results67,go_sem]) rfl ⟨rfl,m.o⟩
 .have r:decide ((n:Int)<1)=false:=jX;have y:decide ((b:Int)<(n:Int))=true:=jX;go_wp2_with fail;refine gP (v:=.tuple #[.slice none 0 0,.bool false]) (by simp[results,results67,go_sem]) rfl ⟨rfl,m.o⟩
 .have r:decide ((n:Int)<1)=false:=jX;have y:decide ((b:Int)<(n:Int))=false:=jX;have C:decide (k<0)=true:=jX;go_wp2_with fail;refine gP (v:=.tuple #[.slice none 0 0,.bool false]) (by simp[results,results67,go_sem]) rfl ⟨rfl,m.o⟩
 .have r:decide ((n:Int)<1)=false:=jX;have y:decide ((b:Int)<(n:Int))=false:=jX;have C:decide (k<0)=false:=jX;have I:decide (4<=k)=true:=jX;go_wp2_with fail;refine gP (v:=.tuple #[.slice none 0 0,.bool false]) (by simp[results,results67,go_sem]) rfl ⟨rfl,m.o⟩
theorem RT(P:List PFn)(m:Value)(f i b g d j:Nat)(w:World)(h:SetsAt P (least P) m f i b g d j w)(n:Nat)(K:n<1\/b<n)(L:n<20000):
 Calls prog 68 #[.agg (DO m f i b g d j),.int .i64 n] w fun e H=>e=.returned (.tuple #[.slice none 0 0,.bool false])/\O kD w H:=by
 have r:D (O kD w (w.alloc (.cells (DO m f i b g d j) 71))):=(O.refl _ w).alloc _;have o:=J (W.new w (DO m f i b g d j) 71);have p:=J h;obtain⟨u,y,x,F⟩:∃a l c,m=.slice a l c:=by obtain⟨I,q,_⟩:=h.pl;exact Ad q
 subst F;clear h;go_enter func68,ntmps68;go_upto_region 1 with fail;change Code.wp _ _ _ _ (w.alloc (.cells (DO (.slice u y x) f i b g d j) 71));generalize w.alloc (.cells (DO (.slice u y x) f i b g d j) 71)=C at*;have E:=o.o.cell 5;have M:=Ae o.o;simp only[DO,gH,gF,gG]at E;obtain⟨s,B,t,G⟩:=(p.o.s9 r.o).em;have A:s n=none:=by
  cases q:s n with
  |none=>rfl
  |some k=>exact jO ((t n).1 ⟨k,q⟩) Z
 have z:=(B.look Ea underlying67 (Ci C) (k:=n) Z true).1 A;unfold GY at z;simp only[if_true]at z;clear B t G A p;go_wp2_with fail;refine gP (v:=.tuple #[.slice none 0 0,.bool false]) (by simp[results,results68,go_sem]) rfl ⟨rfl,r.o⟩
theorem Qw(P:List PFn)(m f g p:Nat)(w:World)(h:Fu P m f g p w)(n:Nat)(k:Int)(i:n<1\/f<n\/k<0\/4<=k):
 Calls prog 30 #[.pointer (some ⟨p,0,none⟩),.int .i64 n,.int .i64 k] w fun e r=>e=.returned (.tuple #[.slice none 0 0,.int .i64 8])/\O kD w r:=by
 obtain⟨A,C,u,M,b,j⟩:=h;obtain⟨x,z,y,B⟩:∃a l c,A=.slice a l c:=by obtain⟨N,q,_⟩:=j.pl;exact Ad q
 subst B;obtain⟨E,F,G,H,I,K,L⟩:=b.e7 0 1 2 3 4 5 6;have Q:=Ae b;simp only[DO,gH,gF,gG]at E F G H I K L;have s:=J (QA (.slice x z y) ⟨_,_,_,rfl⟩ m f g C u M w n k i);clear j b i;go_enter func30,ntmps30;go_wp2_with(first
  |(go_at_call 67;refine s.o.mono ?_;rintro e R ⟨rfl,o⟩;have t:=J o;clear o)
  |(go_at_call 63;refine(Nq none 0 0 _).mono ?_;rintro e r ⟨rfl,d⟩;have d:=d.symm;subst d))
 refine gP (v:=.tuple #[.slice none 0 0,.int .i64 8]) (by simp[results,results30,go_sem]) rfl ⟨rfl,t.o⟩
theorem Ot(P:List PFn)(j m b o:Nat)(w:World)(h:Fu P j m b o w)(n:Nat)(i:n<1\/b<n)(A:n<20000):
 Calls prog 31 #[.pointer (some ⟨o,0,none⟩),.int .i64 n] w fun e p=>e=.returned (.tuple #[.slice none 0 0,.int .i64 8])/\O kD w p:=by
 obtain⟨z,C,t,M,d,f⟩:=h;obtain⟨u,y,x,B⟩:∃a l c,z=.slice a l c:=by obtain⟨N,q,_⟩:=f.pl;exact Ad q
 subst B;obtain⟨E,F,G,H,I,K,L⟩:=d.e7 0 1 2 3 4 5 6;have Q:=Ae d;simp only[DO,gH,gF,gG]at E F G H I K L;have r:=J (RT P (.slice u y x) j m b C t M w f n i A);clear f d i;go_enter func31,ntmps31;go_wp2_with(first
  |(go_at_call 68;refine r.o.mono ?_;rintro e R ⟨rfl,k⟩;have s:=J k;clear k)
  |(go_at_call 63;refine(Nq none 0 0 _).mono ?_;rintro e p ⟨rfl,g⟩;have g:=g.symm;subst g))
 refine gP (v:=.tuple #[.slice none 0 0,.int .i64 8]) (by simp[results,results31,go_sem]) rfl ⟨rfl,s.o⟩
