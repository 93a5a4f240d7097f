/- Part of the proof: ApO JoA. -/
import Derived.Test.YtaningfhibkemaaGreatDoorG09
import Derived.Deep.Upon
import Derived.Test.YtaningfhibkemaaGreatDoorShelf
import Derived.OwnWalk
set_option maxRecDepth 100000
set_option maxHeartbeats 2000000
namespace Go.Proofs.YtaningfhibkemaaGreatDoor
open Go.RowKit Go.Proofs.Tryz
open Option renaming none->Z,some->T
open Value renaming int->G,slice->Y
open IntKind renaming i64->A
theorem Rg{P:Program}{w:World}(r:Nat)(t p e:TypeId)(i:TypeInfo)(z:Value)(E:P.underlying t=T (.slice e))(x:P.info? e=T i)(hz:i.zero=T z)
 (v:Value)(n:Nat)(l:List Value)(f:w.ownsRow r e i.size v n l)
 (a:Addr)(m c:Nat)(b:List Value)(o:b.length=m*i.size)(y:∀j u,b[j]? =T u->w.cell? (a.add j)=T u)(H:∀u∈b,u.oneCell'=true)
 (I:n+m<=maxLen)(L:(n+m)*i.bytes<=140737488355328){v':Value}{F:World}(C:(Builtin.append_ #[t,t] p #[v,Y (T a) m c]).run P w=.ok v' F):
 F.ownsRow r e i.size v n l:=by
 have a0:n+m<=9223372036854775807:=by simp only[maxLen]at I;omega
 have V:=f;rcases f.2 with⟨rfl,rfl⟩|⟨g,k,h,rfl,K,s,S,M,N,X⟩
 .exact⟨f.1,.inl ⟨rfl,rfl⟩⟩
 .by_cases B:n+m<=k
  .have Q:n*i.size+b.length<=h.size:=by rw[o,N,<-Nat.add_mul];exact Nat.mul_le_mul_right _ B
   have d:=run_append_room (P:=P) w t p e i E x g n k h s a m c b o y H B Q;rw[C]at d;simp only[Result.ok.injEq]at d;rw[d.2];have R:(h.toList.take (n*i.size)).length=n*i.size:=by rw[List.length_take,Array.length_toList];omega
   refine⟨f.1,.inr ⟨g,k,(h.toList.take (n*i.size)++b++h.toList.drop (n*i.size+b.length)).toArray,rfl,K,?_,S,M,?_,?_⟩⟩
   .simp only[World.setRow,Array.getElem?_modify,s,if_true,Option.map_some]
   .simp only[List.size_toArray,gW,R,List.length_drop,Array.length_toList];omega
   .rw[jU,List.take_append_of_le_length (by omega),List.take_of_length_le (by omega)];exact X
  .have U:∀j u,l[j]? =T u->w.cell? ((⟨g,0,Z⟩:Addr).add j)=T u:=f.cells (g:=g) rfl;have d:=run_append_grow (P:=P) w t p e i z E x hz ⟨g,0,Z⟩ n k l f.1 U a m c b o y (by omega) (by omega) (growslice_fits (by omega) L);rw[C]at d;simp only[Result.ok.injEq]at d;rw[d.2];exact Ac V (((O.refl kJ w).drew).alloc _) (fun _ _ q=>q)
theorem Ek{P}(w){S U o a}{Q:Exit->Act->World->Prop}(a0:o.guard=Z)(s x t)
 (ho:o.op=.call {callee:=.builtin .append,args:=#[s,x],argTypes:=#[t,t]})
 (d e i z b q)(N:P.underlying t=T (.slice e))(E:P.info? e=T i)(R:i.zero=T z)
 (M:i.size=b)(B:i.bytes=q)(a2:z.cells.size=b)(a1:0<b)
 (v n k)(hs:a.eval s=v)(I:w.ownsRow d e b v n k)
 (l m c g)(hx:a.eval x=Y (T l) m c)(F:g.length=m*b)(H:∀j u,g[j]? =T u->w.cell? (l.add j)=T u)(r:∀u∈g,u.oneCell'=true)
 (y:n+m<=maxLen)(C:(n+m)*q<=140737488355328)(X:d<=w.heap.size)
 (h:∀p f,f.ownsRow d e b p (n+m) (k++g)->w.grownBy f v.ownBlock->f.ownsRow d e b v n k->wpList P S Q U (a.put o.dst p) f):wpList P S Q (o::U) a w:=
 wpList_plain a0 fun K V=>by
  obtain⟨p,f,L,r1,r2,_⟩:=run_append_own (P:=P) w d t o.type e i z b q N E R M B a2 a1 v n k I l m c g F H r y C X;have r3:f.ownsRow d e b v n k:=by subst M;subst B;exact Rg d t o.type e i z N E R v n k I l m c g F H r y C L
  unfold Oper.wp;simp[execOp,ho,resolve,invoke,builtin,hs,hx,L,Result.andThen];exact V _ _ (h p f r1 r2 r3)
def Gr(l:List PT):List ByteArray:=(l.filter (fun t=>t.kind≠0)).map (fun t=>t.d9)
theorem Vd(l:List PT)(t:PT):Gr (l++[t])=if t.kind=0 then Gr l else Gr l++[t.d9]:=by
 unfold Gr;rw[List.filter_append,jZ];by_cases h:t.kind=0
 .simp[h]
 .simp[h]
theorem XD(l:List PT):(Gr l).length<=l.length:=by unfold Gr;rw[iT];exact List.length_filter_le _ _
theorem YS{l:List PT}{k:Nat}(h:k<l.length):l.take (k+1)=l.take k++[Aj l k]:=by rw[iX h];unfold Aj;rw[gV h];rfl
theorem Tf:∀(a:List ByteArray),(∀x,x∈a->x.size<=4000)->Lib.lens (a.map (fun x=>x.data.toList))<=4000*a.length
 |[],_=>by simp[Lib.lens]
 |x::a,h=>by
  have b:=Tf a (fun y c=>h y (iK _ c));have d:=h x (jP ..);have e:x.data.toList.length=x.size:=by simp
  simp only[Lib.lens,iU,jC,gU]at b⊢;omega
theorem Yt(a:List ByteArray)(h:∀x,x∈a->x.size<=4000)(b:a.length<=4001):(Lib.join (a.map (fun x=>x.data.toList)) [32]).length<=140737488355328:=by
 cases a with
 |nil=>simp[Lib.join_nil]
 |cons x a=> have:=Tf (x::a) h;rw[iU,Lib.join_length];simp only[iU,gU,iT,iJ]at this b⊢;omega
theorem Wo(g n C:Nat)(a:List PT)(w:World)(h:AZ g n C a w)(hs:∀t,t∈a->t.d9.size<=4000):
 Calls prog 14 #[Y (T ⟨g,0,Z⟩) n C] w fun e w'=>(∃s:ByteArray,e=.returned (.string s)/\s.data.toList=Lib.join ((Gr a).map (fun x=>x.data.toList)) [32])/\Below w.heap.size w w':=by
 obtain⟨i0,S,a4,a5,a6⟩:=info_parts Tryz.infoStr;have a0:=h.2.1;have hn:=h.2.2.1;obtain⟨m,F⟩:∃m,a.length=m:=⟨_,rfl⟩;rw[F]at a0;subst a0;have r:=J F;clear F;have lg:=h.lt;have HT:=J h;have M:=J hs;clear h hs;go_enter func14,ntmps14;go_wp2_with(at_make;refine wpList_make_own _ rfl _ _ 51 rfl w.heap.size 9 i0 (.string ByteArray.empty) 1 underlying51 S a4 a5 .i64 .i64 (n:Int) n rfl rfl rfl (by rw[a6];omega) (by unfold maxLen;omega) (gS _) ?_;intro w1 a2 Q);have L:=J a2;have K:D (O kJ w w1):=O.grown (O.refl _ w) Q (fun k V=>by cases V);clear a2 Q;go_loopw[3,11] (fun v i wr=>∃(k:Nat),k<=n/\i=G A k/\D (Au w.heap.size wr v (Gr (a.take k)))/\D (O kJ w wr)) (fun _ i _=>n-(intOf i).toNat)
 case atStart=>exact⟨0,by omega,rfl,L,K⟩
 case round=>
  clear L K;obtain⟨k,V,rfl,d,c⟩:=hrel;have X:=XD (a.take k);rw[List.length_take,r.o]at X;by_cases b3:k<n
  .have y:AZ g n C a wr:=HT.o.d8 c.o id;obtain⟨t0,t1,t2⟩:=y.cells b3;have c0:=y.lt;have H:=YS (l:=a) (k:=k) (by rw[r.o];omega);have b9:(Aj a k).d9.size<=4000:=by unfold Aj;rw[gV (by rw[r.o];omega)];exact M.o _ (iA _)
   have f:=Vd (a.take k) (Aj a k);rw[<-H]at f;generalize Aj a k=t at*;have b2:(k:Int)<(n:Int):=by omega
   obtain⟨va,vl,z,rfl⟩:=Ad d.o;have I:=Ag d.o;subst I;have a3:=c.o.size;by_cases o:t.kind=0
   .have b1:((t.kind:Int) !=0)=false:=by simp[o]
    rw[jR o]at f;have B:=J f;clear y H f o;go_wp2;go_roundw
    case rel=>exact⟨k+1,by omega,by go_num,J (by rw[B.o];exact Ac d.o ((O.refl kJ wr).alloc _) (fun _ _ q=>q)),c.o.alloc _⟩
    case measure=>simp[intOf];omega
   .have b1:((t.kind:Int) !=0)=true:=by simp[o]
    rw[jQ o]at f;have B:=J f;have a7:=J (Ac d.o ((O.refl kJ wr).alloc (.cells #[G A t.kind,.string t.d9,G A t.l7] 112)) (fun _ _ q=>q));clear y H f o;go_wp2_with(at_builtin;refine jA _ rfl _ _ 51 rfl w.heap.size 9 i0 (.string ByteArray.empty) 1 16 underlying51 S a4 a5 a6 rfl (by decide) _ _ _ rfl (a7.o.alloc _) ⟨wr.heap.size+1,0,Z⟩ 1 1 [.string t.d9] rfl rfl (AD (by simp) _ _) (fun x b=>by simp at b;subst b;rfl) (by unfold maxLen;omega) (by omega) (by simp;omega) ?_;intro v' w3 a1 R b4);have O3:O kJ w w3:=O.grown ((c.o.alloc _).alloc _) R (fun j U=>.inr (d.o.lt j U).1);have HX:D (Au w.heap.size w3 v' (Gr (a.take (k+1)))):=by rw[B.o];unfold Au;rw[gW,jZ];exact a1
    clear R b4 a1;go_wp2;go_roundw
    case rel=>exact⟨k+1,by omega,by go_num,HX,O3⟩
    case measure=>simp[intOf];omega
  .have e:k=n:=by omega
   have P:a.take k=a:=List.take_of_length_le (by rw[r.o];omega);rw[P]at X;have b2:decide ((k:Int)<(n:Int))=false:=by simp;omega
   have p:=d.o;rw[P]at p;obtain⟨va,vl,z,rfl⟩:=Ad p;have I:=Ag p;subst I;have b6:∀x,x∈Gr a->x.size<=4000:=by intro x b;unfold Gr at b;obtain⟨t,h,rfl⟩:=jD.1 b;exact M.o t (List.mem_filter.1 h).1
   have b0:=Yt (Gr a) b6 (by omega);have a3:=c.o.size;have u:=J p;clear d p;by_cases E:Gr a=[]
   .rw[E];go_wp2_with fail;refine(Tryz.strings_Join_none va z ⟨#[32]⟩ wr).mono ?_;rintro e w2 ⟨rfl,rfl⟩;go_wp2;go_ret;exact⟨⟨_,rfl,by rw[E];simp[Lib.join_nil]⟩,(c.o.below (fun _ q=>q.elim))⟩
   .have b5:0<(Gr a).length:=List.length_pos_iff.2 E;obtain⟨N,rfl⟩:=Ap u.o b5;have lv:=(u.o.lt N rfl).2;have a9:(Gr a).length<=z:=by
     rcases u.o.2 with⟨q,_⟩|⟨g',b7,b8,q,_,_,hc,_⟩
     .simp at q
     .simp only[Value.slice.injEq]at q;omega
    go_wp2_with fail;refine(Tryz.strings_Join N 0 z (Gr a) ⟨#[32]⟩ wr (fun j x b=>?_) lv (by omega) a9 b0).mono ?_
    .have U:j<(Gr a).length:=by
      rcases jG j (Gr a).length with q|q
      .exact q
      .rw[iS q]at b;cases b
     have:=u.o.cellAt j (by omega)
     rw[iV,b]at this
     simpa using this
    rintro e w2 ⟨rfl,a8⟩;go_wp2;go_ret;exact⟨⟨_,rfl,by simp⟩,(c.o.below (fun _ q=>q.elim)).trans (a8.mono a3)⟩
