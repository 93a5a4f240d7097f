/- Part of the proof: RnF RuA RuB RuC RuF. -/
import Derived.Test.YtaningfhibkemaaGreatDoorG08
import Derived.Lib.ItoaNum
import Derived.Sort.Walk0
import Derived.Deep.AppendSrc
set_option maxRecDepth 100000
set_option maxHeartbeats 2000000
namespace Go.Proofs.YtaningfhibkemaaGreatDoor
open Go.Proofs.Tryz Go.RowKit
open Option renaming none->Z,some->T
open Value renaming int->G,slice->Y
open IntKind renaming i64->A
def Pg(c e:Nat)(v:Vl):Prop:=(v.kind=0/\v.dQ=0)\/(v.kind=1/\v.dQ<c)\/(v.kind=2/\v.dQ<e)
def TO(n i:Nat)(t:Tg):Prop:=t.kind=0\/(t.kind=1/\t.cZ<=4000/\t.dE<=3/\t.dE<=i/\i+(3-t.dE)<n)
structure I4(nf:Nat)(m:List Cl):Prop where
 nm:∀i (h:i<m.length),TO m.length i m[i].nm
 vl:∀i (h:i<m.length),Pg nf m.length m[i].v
theorem Pg.more{e n c:Nat}{v:Vl}(h:Pg e n v)(i:n<=c):Pg e c v:=by
 rcases h with h|h|⟨f,g⟩
 .exact .inl h
 .exact .inr (.inl h)
 .exact .inr (.inr ⟨f,by omega⟩)
theorem TO.more{n c i:Nat}{t:Tg}(h:TO n i t)(l:n<=c):TO c i t:=by
 rcases h with h|⟨e,f,g,j,k⟩
 .exact .inl h
 .exact .inr ⟨e,f,g,j,by omega⟩
theorem ZZ(c n:Nat):Pg c n TD:=.inl ⟨rfl,rfl⟩
theorem Yl{m:List Cl}{i:Nat}(h:i<m.length):Et m i=m[i]:=by unfold Et;rw[gV h];rfl
theorem I4.at_{e:Nat}{m:List Cl}(h:I4 e m){i:Nat}(c:i<m.length):TO m.length i (Et m i).nm/\Pg e m.length (Et m i).v:=by rw[Yl c];exact⟨h.nm i c,h.vl i c⟩
theorem I4.set{g:Nat}{m:List Cl}(h:I4 g m){c:Nat}{v:Vl}(j:Pg g m.length v):I4 g (m.set c ⟨(Et m c).nm,v⟩):=by
 refine⟨fun i f=>?_,fun i f=>?_⟩
 .simp only[jV]at f⊢;rw[List.getElem_set];split
  .rename_i e;subst e;exact(h.at_ f).1
  .exact h.nm i f
 .simp only[jV]at f⊢;rw[List.getElem_set];split
  .exact j
  .exact h.vl i f
theorem I4.app{j:Nat}{m l:List Cl}(h:I4 j m)(g:∀i (c:i<l.length),TO (m.length+l.length) (m.length+i) l[i].nm/\l[i].v=TD):I4 j (m++l):=by
 have e:(m++l).length=m.length+l.length:=gW;refine⟨fun i c=>?_,fun i c=>?_⟩
 .rw[e]at c⊢;rw[List.getElem_append];split
  .rename_i f;exact(h.nm i f).more (by omega)
  .rename_i k;have:=(g (i-m.length) (by omega)).1;rw[show m.length+(i-m.length)=i by omega]at this;exact this
 .rw[e]at c⊢;rw[List.getElem_append];split
  .rename_i f;exact(h.vl i f).more (by omega)
  .rename_i k;rw[(g (i-m.length) (by omega)).2];exact ZZ _ _
structure bS(a:List ByteArray)(b:List Nat)(vs:List ByteArray)(s:VS):Prop where
 tg:s.kind≠0->s.kind≠10->s.tg.d9∈vs
 func:s.kind=4\/s.kind=7->s.sr.d9∈a
 many:s.kind=7->b[vx a s.sr.d9]?.getD 0=s.args.length
 sr:s.kind=2\/s.kind=3\/s.kind=5\/s.kind=6\/s.kind=8\/s.kind=9\/s.kind=10->s.sr.d9∈vs
 args:s.kind=7\/s.kind=8->∀t,t∈s.args->t.d9∈vs
 field:s.kind=3->s.field<=3
mutual
def bR(a:List ByteArray)(b:List Nat)(vs:List ByteArray):TS->Prop
 |.mk s []=>s.kind<=10/\bS a b vs s
 |.mk s [(_,ts)]=>(s.kind=11\/s.kind=12)/\Yd a b vs ts
 |.mk s [(_,ts),(_,ts2)]=>s.kind=11/\Yd a b vs ts/\Yd a b vs ts2
 |.mk _ (_::_::_::_)=>False
def Yd(a:List ByteArray)(b:List Nat)(vs:List ByteArray):List TS->Prop
 |[]=>True
 |t::ts=>bR a b vs t/\Yd a b vs ts
end
structure XOk(a:List ByteArray)(b:List Nat)(X:List XF):Prop where
 len:X.length=a.length
 us:∀f,Yd a b (CK X f).t8 (CK X f).cP
 dC:∀f,(CK X f).t8.length<=12
 pm:∀f,(CK X f).u9<=(CK X f).t8.length
 eH:∀f,f<X.length->b[f]?.getD 0=(CK X f).u9
 pl:∀f,(CK X f).pl+nL 1 (CK X f).cP<=4000
 ca:∀f,(CK X f).ca+nL 8 (CK X f).cP<=4000
structure Zq(K nf:Nat)(S:RS):Prop where
 m:I4 nf S.c.dF
 ml:S.c.dF.length+20*S.left<=K
 pl:S.c.fV.length+S.c.eD.length+20*S.left<=K
 gv:Pg nf S.c.dF.length S.eL
structure Y5(K nf:Nat)(S S':RS):Prop where
 inv:Zq K nf S'
 lo:S.c.dF.length<=S'.c.dF.length
 left:S'.left<=S.left
theorem Iy{l:List ByteArray}{s:ByteArray}(h:s∈l):vx l s<l.length/\BC l s 0=(vx l s:Int):=by have c:=C0 l s 0;have e:=c.1.2 h;unfold vx;omega
def bN(a:List ByteArray)(b:List Nat)(X:List XF)(F:Nat):Prop:=∀(K c f:Nat) (e:List TS) (g h:Nat) (S:RS),
 Zq K a.length S->S.left<F->f+(CK X c).t8.length<=S.c.dF.length->Yd a b (CK X c).t8 e->g+nL 1 e<=4000->Y5 K a.length S (KE X a F c f e g h S).2
section
variable{a:List ByteArray}{b:List Nat}{X:List XF}(d:XOk a b X)
include d
omit d in
theorem Uk{F K f base k ca:Nat}{g:List TS}(p:bN a b X F)(m:Yd a b (CK X f).t8 g)(o:k+nL 1 g<=4000):∀(n:Nat) (S:RS),Zq K a.length S->S.left<F->base+(CK X f).t8.length<=S.c.dF.length->Y5 K a.length S (Ks (KE X a F f base g k ca) n S).2
 |0,S,h,_,_=>⟨h,gS _,gS _⟩
 |n+1,S,h,t,s=>by
  unfold Ks;simp only;split
  .exact⟨⟨h.m,h.ml,h.pl,h.gv⟩,gS _,gS _⟩
  .have I:=p K f base g k ca {S with c:={S.c with ch:=(Rn S.c.ch).2}} ⟨h.m,h.ml,h.pl,h.gv⟩ t s m o;generalize KE X a F f base g k ca {S with c:={S.c with ch:=(Rn S.c.ch).2}}=r at I⊢;obtain⟨e,i,j⟩:=I;simp only at i j;split
   .exact⟨e,i,j⟩
   .split
    .exact⟨⟨e.m,e.ml,e.pl,e.gv⟩,i,j⟩
    .have u:=e.ml;have v:=e.pl;have l:=Uk (K:=K) (base:=base) (ca:=ca) p m o n r.2.one ⟨e.m,by simp only[RS.one];omega,by simp only[RS.one];omega,e.gv⟩ (by simp only[RS.one];omega) (by simp only[RS.one];omega);have q:r.2.one.left<=r.2.left:=Nat.sub_le _ _;exact⟨l.inv,iG i l.lo,iG l.left (iG q j)⟩
end
abbrev Xy:ByteArray:=⟨#[48,49,50,51,52,53,54,55,56,57]⟩
theorem Ty:∀n:Nat,n<10->(Xy.extract n (n+1)).data.toList=[UInt8.ofNat (48+n)]:=by decide+kernel
theorem GU{s:ByteArray}{l:List UInt8}(h:s.data.toList=l):s=⟨l.toArray⟩:=by subst h;cases s;simp
theorem Jj:∀n:Nat,(Lib.decDigits n).length<=n+1:=by
 intro n;induction n using Nat.strongRecOn with
 |ind n a=>
  rw[Lib.decDigits];split
  .simp
  .have:=a (n / 10) (by omega);simp only[gW,iM];omega
theorem Vc(r:Nat)(h:r<10)(a:World):(Instr.sliceAt 9 (.string Xy) (T (G A (r:Int))) (T (G A ((r:Int)+1))) Z).run prog a=.ok (.string (Xy.extract r (r+1))) a:=by
 have e:r=0\/r=1\/r=2\/r=3\/r=4\/r=5\/r=6\/r=7\/r=8\/r=9:=by omega
 rcases e with rfl|rfl|rfl|rfl|rfl|rfl|rfl|rfl|rfl|rfl<;>(show _=_)<;>kernel_rfl
theorem Hb:∀(n:Nat),n<=100000->∀(w:World),Calls prog 23 #[G A n] w fun e t=>e=.returned (.string ⟨(Lib.decDigits n).toArray⟩)/\∃m,t=w.drewN m:=by
 intro n;induction n using Nat.strongRecOn with
 |ind n g=>
  intro v w;by_cases h:n<10
  .have k:decide ((n:Int)<10)=true:=by simp;omega
   have c:D (Xy.extract n (n+1)=⟨(Lib.decDigits n).toArray⟩):=GU (by rw[Ty n h,Lib.decDigits_one h]);clear g;go_enter func23,ntmps23;go_wp2;go_ret;exact⟨congrArg (fun s=>Ending.returned (Value.string s)) c.o,0,rfl⟩
  .have k:decide ((n:Int)<10)=false:=by simp;omega
   obtain⟨L,d⟩:∃L,Lib.decDigits (n / 10)=L:=⟨_,rfl⟩;have l:=Jj (n / 10);have a:=g (n / 10) (by omega) (by omega);rw[d]at l a;have a:=J a;obtain⟨r,i⟩:∃r,n % 10=r:=⟨_,rfl⟩;have j:r<10:=by omega
   have o:=Vc r j;obtain⟨x,f⟩:∃x,Xy.extract r (r+1)=x:=⟨_,rfl⟩;have b:=Ty r j;have B:x.size=1:=by
    have:x.data.toList.length=1:=by rw[<-f,b];rfl
    simpa using this
   rw[f]at b o;have c:D ((⟨L.toArray⟩:ByteArray)++x=⟨(Lib.decDigits n).toArray⟩):=GU (by
    have e:Lib.decDigits n=Lib.decDigits (n / 10)++[UInt8.ofNat (48+n % 10)]:=by conv=>lhs;rw[Lib.decDigits,dif_neg h]
    rw[e,i,d];simp only[ByteArray.data_append,Array.toList_append,b])
   have p:D ((n:Int) / 10=((n / 10:Nat):Int)):=by show _=_;omega
   have q:D (IntKind.i64.wrap ((n:Int) / 10)=((n / 10:Nat):Int)):=by show _=_;rw[IntKind.wrap_i64];omega
   have z:(n:Int).tmod 10=(r:Int):=by rw[Int.tmod_eq_emod_of_nonneg (by omega)];omega
   have y:IntKind.i64.wrap ((r:Int)+1)=(r:Int)+1:=by rw[IntKind.wrap_i64];omega
   have u:¬9223372036854775807<L.length+1:=by omega
   clear g i d f b;go_enter func23,ntmps23;go_wp2;go_quiet((go_at_call 23;(first|rw[q.o]|rw[p.o]);exact Calls.quiet_of (a.o _)));go_wp2;go_ret;exact⟨congrArg (fun s=>Ending.returned (Value.string s)) c.o,nq,rfl⟩
def GM(a b:ByteArray):Bool:=decide (a.data.toList<b.data.toList)
def Dn:List ByteArray->ByteArray->List ByteArray
 |[],s=>[s]
 |a::l,s=>if GM a s then a::Dn l s else if a=s then a::l else s::a::l
theorem JQ{P}(w){f j o a}{Q:Exit->Act->World->Prop}(p:o.guard=Z)(s x t)
 (r:o.op=.call {callee:=.builtin .append,args:=#[s,x],argTypes:=#[t,t]})
 (k e i C)(d:P.underlying t=T (.slice e))(q:P.info? e=T i)(g b n E)(y:a.eval s=Y (T ⟨g,0,Z⟩) n b)(u:w.ownsRow k e C (Y (T ⟨g,0,Z⟩) n b) n E)
 (c)(B:a.eval x=Y Z 0 c)(h:wpList P f Q j (a.put o.dst (Y (T ⟨g,0,Z⟩) n b)) w):wpList P f Q (o::j) a w:=
 wpList_plain p fun K m=>by
  have M:n<=b:=by
   rcases u.2 with⟨l,_⟩|⟨I,F,H,z,_,_,L,_⟩
   .simp at l
   .simp only[Value.slice.injEq]at z;omega
  have v:=run_append_room_src (P:=P) w t t o.type e i d q g 0 n b (Y Z 0 c) 0 [] (Src.ofNil w d c) (by omega) (by simp) (by simp);unfold Oper.wp;simp[execOp,r,resolve,invoke,builtin,y,B,v,Result.andThen];exact m _ _ h
theorem UC{w:World}{B:Nat}{e:TypeId}{f:Nat}{v:Value}{n:Nat}{i:List Value}(h:w.ownsRow B e f v (n+1) i):∃g c,v=Y (T ⟨g,0,Z⟩) (n+1) c:=by
 rcases h.2 with⟨_,k⟩|⟨b,a,j,d,_⟩
 .omega
 .exact⟨b,a,d⟩
theorem Oy{w:World}{B:Nat}{e:TypeId}{d:Nat}{g l c n:Nat}{f:List Value}(h:w.ownsRow B e d (Y (T ⟨g,0,Z⟩) l c) n f):n<=c:=by
 rcases h.2 with⟨a,_⟩|⟨k,i,j,b,_,_,m,_⟩
 .simp at a
 .simp only[Value.slice.injEq]at b;omega
theorem QN{B w g n c l}(h:Au B w (Y (T ⟨g,0,Z⟩) n c) l)(k):∀j u,((l.drop k).map Value.string)[j]? =T u->w.cell? ((⟨g,k,Z⟩:Addr).add j)=T u:=by
 intro j u a;have d:=Ag h;subst d;rw[iV,List.getElem?_drop]at a;have e:k+j<l.length:=by
  rcases jG (k+j) l.length with q|q
  .exact q
  .rw[iS q]at a;cases a
 have b:=h.cellAt (k+j) (by omega);rw[iV]at b;rw[Addr.add_lit,b];exact a
theorem Yr{l:List ByteArray}{s:ByteArray}{k:Nat}(h:k<l.length)(a:GM l[k] s=true):l.take k++Dn (l.drop k) s=l.take (k+1)++Dn (l.drop (k+1)) s:=by rw[iD h,Dn,jR a,iX h,jU];rfl
theorem Yq{l:List ByteArray}{s:ByteArray}{k:Nat}(h:k<l.length)(b:GM l[k] s=false)(a:l[k]=s):Dn (l.drop k) s=l.drop k:=by rw[iD h,Dn,jQ (by simp[b]),jR a]
theorem Ys{l:List ByteArray}{s:ByteArray}{k:Nat}(h:k<l.length)(b:GM l[k] s=false)(a:l[k]≠s):Dn (l.drop k) s=s::l.drop k:=by rw[iD h,Dn,jQ (by simp[b]),jQ a]
theorem LY(B v l s w)(h:Au B w v l)(hl:l.length<=1000000):
 Calls prog 70 #[v,.string s] w fun e w'=>∃n,e=.returned n/\Au w.heap.size w' n (Dn l s)/\O kJ w w':=by
 obtain⟨C,t,I,K,L⟩:=info_parts Tryz.infoStr;obtain⟨va,vl,S,rfl⟩:=Ad h;have b4:=Ag h;subst b4;obtain⟨V,hV⟩:∃V,Dn l s=V:=⟨_,rfl⟩;rw[hV];have HV:D (l.take 0++Dn (l.drop 0) s=V):=hV;have HR:=J h;clear hV h;go_enter func70,ntmps70;go_wp2;go_loopw[5,6] (fun ov i wr=>∃k:Nat,k<=l.length/\i=G A k/\D (wr.ownsRow w.heap.size 9 1 ov k ((l.take k).map Value.string))/\D (O kJ w wr)/\D (l.take k++Dn (l.drop k) s=V)) (fun _ i _=>l.length-(intOf i).toNat)
 case atStart=>exact⟨0,by omega,rfl,iB _ _ _ _,O.refl _ _,HV⟩
 case round=>
  obtain⟨k,hk,rfl,d,H,P⟩:=hrel;clear HV;have F:Au B wr (Y va l.length S) l:=Ac HR.o H.o (fun _ _ q=>q);by_cases a0:k<l.length
  .obtain⟨g,rfl⟩:=Ap F (by omega);have c:=F.cellAt k (by omega);rw[iV,gV a0]at c;simp only[Option.map_some]at c;have lg:=(F.lt g rfl).2;have b9:=(HR.o.lt g rfl).2;have a6:Op.bytesLess l[k].toList s.toList=GM l[k] s:=by unfold GM;rw[bytesLess_eq,Lib.toList_data,Lib.toList_data]
   cases N:GM l[k] s with
   |true=>
    rw[N]at a6;have p:=J ((Yr a0 N).symm.trans P.o);have b3:=J (iX a0);generalize l[k]=a at*;have l0:=H.o.size;clear P N;go_wp2_with(at_builtin;refine jA _ rfl _ _ 51 rfl w.heap.size 9 C (.string ByteArray.empty) 1 16 underlying51 t I K L rfl (by decide) _ _ _ rfl (d.o.alloc _) ⟨wr.heap.size,0,Z⟩ 1 1 [.string a] rfl rfl (cell_one_new _ _ _) (fun x b=>by simp at b;subst b;rfl) (by unfold maxLen;omega) (by omega) (by simp;omega) ?_;intro n E z r a1);have a8:=J z;have b0:=J (O.grown (H.o.alloc _) r (fun j f=>.inr (d.o.lt j f).1));clear z r a1 d H;go_wp2;go_roundw
    case rel=>exact⟨k+1,by omega,by go_num,by rw[b3.o,jZ];exact a8,b0,p⟩
    case measure=>simp[intOf];omega
   |false=>
    rw[N]at a6;have b7:=Oy F;have b8:¬S=k:=by omega
    have hz:=H.o.size;by_cases he:l[k]=s
    .have b1:(l[k].toList==s.toList)=true:=by rw[he];simp
     have p:D (l.take k++l.drop k=V):=by rw[<-Yq a0 N he];exact P.o
     have a3:=J F;generalize l[k]=a at*;clear P N he F;go_wp2_with(at_builtin;refine jA _ rfl _ _ 51 rfl w.heap.size 9 C (.string ByteArray.empty) 1 16 underlying51 t I K L rfl (by decide) _ _ _ rfl d.o ⟨g,k,Z⟩ (l.length-k) (S-k) ((l.drop k).map Value.string) rfl (by simp) (QN a3.o k) (fun x b=>by obtain⟨y,_,rfl⟩:=jD.1 b;rfl) (by unfold maxLen;omega) (by omega) (by omega) ?_;intro n E z r a1);go_wp2;go_ret;refine⟨n,rfl,?_,O.grown H.o r (fun j f=>.inr (d.o.lt j f).1)⟩;unfold Au;rw[<-p.o,jZ];have e:(l.take k++l.drop k).length=k+(l.length-k):=by simp;omega
     rw[e];exact z
    .have b1:(l[k].toList==s.toList)=false:=by
      cases hq:(l[k].toList==s.toList)with
      |false=>rfl
      |true=>exact jY (CA (by simpa using hq)) he
     have p:D (l.take k++s::l.drop k=V):=by rw[<-Ys a0 N he];exact P.o
     have a3:=J F
     generalize l[k]=a at*
     clear P N he F
     have M:True:=trivial
     have a9:∀W',(wr.alloc (.cells #[.string s] 9)).grownBy W' u5.ownBlock->Au B W' (Y (T ⟨g,0,Z⟩) l.length S) l:=fun W' hg=>Ac a3.o (X:=fun j=>u5.ownBlock=T j) (O.grown ((O.refl _ _).alloc _) hg (fun j f=>.inl f)) (fun j f q=>by simp[Value.ownBlock]at f;subst f;have:=(d.o.lt _ q).1;omega)
     go_wp2_with(first|(at_builtin;have _t:=M;refine jA _ rfl _ _ 51 rfl w.heap.size 9 C (.string ByteArray.empty) 1 16 underlying51 t I K L rfl (by decide) _ _ _ rfl (d.o.alloc _) ⟨wr.heap.size,0,Z⟩ 1 1 [.string s] rfl rfl (cell_one_new _ _ _) (fun x b=>by simp at b;subst b;rfl) (by unfold maxLen;omega) (by omega) (by simp;omega) ?_;intro R Q m o a4;clear M)|(at_builtin;refine jA _ rfl _ _ 51 rfl w.heap.size 9 C (.string ByteArray.empty) 1 16 underlying51 t I K L rfl (by decide) _ _ _ rfl m ⟨g,k,Z⟩ (l.length-k) (S-k) ((l.drop k).map Value.string) rfl (by simp) (QN (a9 _ o) k) (fun x b=>by obtain⟨y,_,rfl⟩:=jD.1 b;rfl) (by unfold maxLen;omega) (by omega) (by have:=o.size;simp at this;omega) ?_;intro n E z r a1))
     go_wp2
     go_ret
     refine⟨n,rfl,?_,O.grown (O.grown (H.o.alloc _) o (fun j f=>.inr (d.o.lt j f).1)) r (fun j f=>.inr (m.lt j f).1)⟩
     unfold Au
     have e:V.length=k+1+(l.length-k):=by rw[<-p.o];simp;omega
     have e2:V.map Value.string=(l.take k).map Value.string++[.string s]++(l.drop k).map Value.string:=by rw[<-p.o];simp
     rw[e,e2]
     exact z
  .have e:k=l.length:=by omega
   subst e;have p:l++[s]=V:=by have:=P.o;simpa[Dn]using this
   have p:=J p;have hz:=H.o.size;have d:wr.ownsRow w.heap.size 9 1 u5 l.length (l.map Value.string):=by have:=d.o;simpa using this
   have d:=J d;clear P;have M:True:=trivial;have a5:∀(n:Value) (Q E:World) (R:Value),(wr.alloc (.cells #[.string s] 9)).grownBy Q u5.ownBlock->Q.ownsRow w.heap.size 9 1 R (l.length+1) (l.map Value.string++[.string s])->Q.grownBy E R.ownBlock->E.ownsRow w.heap.size 9 1 n (l.length+1) (l.map Value.string++[.string s])->Au w.heap.size E n V/\O kJ w E:=by intro n Q E R h1 U h3 h4;refine⟨?_,O.grown (O.grown (H.o.alloc _) h1 (fun j f=>.inr (d.o.lt j f).1)) h3 (fun j f=>.inr (U.lt j f).1)⟩;unfold Au;rw[<-p.o];simpa using h4
   have a2:=J a5;clear a5;rcases F.2 with⟨U,h0⟩|⟨g,b5,b6,a7,_⟩
   .simp only[Value.slice.injEq]at U;obtain⟨rfl,U,rfl⟩:=U;have b2:l=[]:=List.eq_nil_of_length_eq_zero U;subst b2;simp only[iJ,List.map_nil,jO,iY]at a2 d p⊢;go_wp2_with(first|(at_builtin;have _t:=M;refine jA _ rfl _ _ 51 rfl w.heap.size 9 C (.string ByteArray.empty) 1 16 underlying51 t I K L rfl (by decide) _ _ _ rfl (d.o.alloc _) ⟨wr.heap.size,0,Z⟩ 1 1 [.string s] rfl rfl (cell_one_new _ _ _) (fun x b=>by simp at b;subst b;rfl) (by unfold maxLen;omega) (by omega) (by simp;omega) ?_;intro R Q m o a4;clear M)|(at_builtin;obtain⟨g2,c2,rfl⟩:=UC m;refine JQ _ rfl _ _ 51 rfl w.heap.size 9 C 1 underlying51 t g2 c2 1 _ rfl m 0 rfl ?_));go_wp2;go_ret;obtain⟨f1,f2⟩:=a2.o _ _ _ _ o m (World.grownBy.refl _ _) m;exact⟨_,rfl,f1,f2⟩
   .simp only[Value.slice.injEq]at a7;obtain⟨rfl,_,rfl⟩:=a7;by_cases hc:S=l.length
    .subst hc;go_wp2_with(first|(at_builtin;have _t:=M;refine jA _ rfl _ _ 51 rfl w.heap.size 9 C (.string ByteArray.empty) 1 16 underlying51 t I K L rfl (by decide) _ _ _ rfl (d.o.alloc _) ⟨wr.heap.size,0,Z⟩ 1 1 [.string s] rfl rfl (cell_one_new _ _ _) (fun x b=>by simp at b;subst b;rfl) (by unfold maxLen;omega) (by omega) (by simp;omega) ?_;intro R Q m o a4;clear M)|(at_builtin;refine jA _ rfl _ _ 51 rfl w.heap.size 9 C (.string ByteArray.empty) 1 16 underlying51 t I K L rfl (by decide) _ _ _ rfl m ⟨g,0,Z⟩ 0 0 [] rfl rfl (fun j u hu=>by simp at hu) (fun x b=>by simp at b) (by unfold maxLen;omega) (by omega) (by have:=o.size;simp at this;omega) ?_;intro n E z r a1));go_wp2;go_ret;obtain⟨f1,f2⟩:=a2.o _ _ _ _ o m r (by simpa using z);exact⟨_,rfl,f1,f2⟩
    .go_wp2_with(first|(at_builtin;have _t:=M;refine jA _ rfl _ _ 51 rfl w.heap.size 9 C (.string ByteArray.empty) 1 16 underlying51 t I K L rfl (by decide) _ _ _ rfl (d.o.alloc _) ⟨wr.heap.size,0,Z⟩ 1 1 [.string s] rfl rfl (cell_one_new _ _ _) (fun x b=>by simp at b;subst b;rfl) (by unfold maxLen;omega) (by omega) (by simp;omega) ?_;intro R Q m o a4;clear M)|(at_builtin;refine jA _ rfl _ _ 51 rfl w.heap.size 9 C (.string ByteArray.empty) 1 16 underlying51 t I K L rfl (by decide) _ _ _ rfl m ⟨g,l.length,Z⟩ 0 (S-l.length) [] rfl rfl (fun j u hu=>by simp at hu) (fun x b=>by simp at b) (by unfold maxLen;omega) (by omega) (by have:=o.size;simp at this;omega) ?_;intro n E z r a1));go_wp2;go_ret;obtain⟨f1,f2⟩:=a2.o _ _ _ _ o m r (by simpa using z);exact⟨_,rfl,f1,f2⟩
def V7(a:List ByteArray)(i:Nat):ByteArray:=a[i]?.getD ByteArray.empty
def bF(X:List XF)(f i:Nat):ByteArray:=(CK X f).t8[i]?.getD ByteArray.empty
theorem Hv{a b c}(h:GM a b=true)(k:GM b c=true):GM a c=true:=by unfold GM at*;simp only[jN]at*;exact List.lt_trans h k
theorem Fo(a):GM a a=false:=by unfold GM;simp only[decide_eq_false_iff_not];exact List.lt_irrefl _
theorem Ny{a b}(h:GM a b=false)(c:a≠b):GM b a=true:=by
 unfold GM at*;simp only[jN,decide_eq_false_iff_not]at*;rcases List.le_iff_lt_or_eq.1 (List.not_lt.1 h)with q|q
 .exact q
 .exact jY (ByteArray.ext (Array.toList_inj.1 q.symm)) c
theorem EG(s x:ByteArray):∀l:List ByteArray,x∈Dn l s↔x=s\/x∈l
 |[]=>by simp[Dn]
 |a::l=>by
  rw[Dn];split
  .rw[jJ,EG s x l,jJ];constructor
   .rintro(h|h|h)
    .exact .inr (.inl h)
    .exact .inl h
    .exact .inr (.inr h)
   .rintro(h|h|h)
    .exact .inr (.inl h)
    .exact .inl h
    .exact .inr (.inr h)
  .split
   .rename_i h;subst h;constructor
    .exact .inr
    .rintro(h|h)
     .rw[h];exact jP ..
     .exact h
   .exact jJ
theorem PW(s:ByteArray):∀l:List ByteArray,(Dn l s).length<=l.length+1
 |[]=>by simp[Dn]
 |a::l=>by
  rw[Dn];have:=PW s l;split
  .simp only[gU];omega
  .split<;>simp only[gU]<;>omega
theorem FU(s:ByteArray):∀l:List ByteArray,l.Pairwise (fun a b=>GM a b=true)->(Dn l s).Pairwise (fun a b=>GM a b=true)
 |[],_=>by simp[Dn]
 |a::l,h=>by
  obtain⟨e,g⟩:=List.pairwise_cons.1 h;rw[Dn];split
  .rename_i d;refine List.pairwise_cons.2 ⟨fun b c=>?_,FU s l g⟩;rcases(EG s b l).1 c with q|q
   .rw[q];exact d
   .exact e b q
  .rename_i d;split
   .exact h
   .rename_i i;have f:=Ny (by simpa using d) i;refine List.pairwise_cons.2 ⟨fun b c=>?_,h⟩;rcases jJ.1 c with q|q
    .rw[q];exact f
    .exact Hv f (e b q)
structure Pe(pb B:Nat)(U:Nat->Prop)(fv sv:Value)(rf:List RF)(fs:List FS)(pl ca:Nat)(w:World):Prop where
 pr:Cg pb fv sv pl ca w
 fn:Cw B w fv rf
 st:BA B U w sv fs
structure aG(fn:List ByteArray)(X:List XF)(rf:List RF):Prop where
 cH:rf.map (fun f=>f.name.d9)=fn
 dC:rf.length<=4001
 gL:∀i,(V7 fn i).size<=4000
 gO:∀i j,(bF X i j).size<=4000
 t8:∀i (h:i<rf.length),rf[i].t8=(CK X i).t8
 gN:∀i,(CK X i).t8.length<=12
theorem aG.eN{a X b}(h:aG a X b):a.length=b.length:=by rw[<-h.cH,iT]
theorem aG.name{b X a}(h:aG b X a){i}(c:i<a.length):a[i].name.d9=V7 b i:=by unfold V7;rw[<-h.cH,iV,gV c];rfl
theorem Pe.s9{e B f b}{U:Nat->Prop}{d j g c w k}(h:Pe e B U d j g c f b w)(a:O kJ w k):Pe e B U d j g c f b k:=by obtain⟨l,r,o,p⟩:=h.st;exact⟨h.pr.cI.d8 a id,h.fn.s9 a,⟨l,Ac r a (fun _ _ q=>q),o,fun i m n=>(p i m n).d8 a (fun _ _ _ _ q=>q.elim)⟩⟩
structure RuS(fn:List ByteArray)(par:List Nat)(X:List XF)(rf:List RF)(fs:List FS):Prop where
 h:aG fn X rf
 x:XOk fn par X
 cT:∀f (hf:f<rf.length),TK fs f (CK X f).cP rf[f].cT (CK X f).pl (CK X f).ca
 gI:∀f,f<rf.length->Dy (CK X f).cP<=4001
 cQ:∀f (hf:f<rf.length),rf[f].cQ.length=(CK X f).u9
 fZ:fs.length<=4001
