/- Part of the proof: AnX AnY AnZ ArA ArB ArC. -/
import Derived.Test.YtaningfhibkemaaGreatDoorG19
import Derived.Test.YtaningfhibkemaaGreatDoorG25
set_option maxRecDepth 100000
set_option maxHeartbeats 4000000
namespace Go.Proofs.YtaningfhibkemaaGreatDoor
open Go.RowKit Go.Maps Go.Proofs.Tryz
open Option renaming none->Z,some->T
open Value renaming int->G,slice->Y
open IntKind renaming i64->A
def Jf(P:List PFn)(S:Sy)(f g:Nat):Prop:=∃s,s∈(As P f).r9/\((s.kind=7/\g=s.cM)\/(s.kind=8/\S.E s.cK g))
theorem Pq(P I fv mn pn cn o v w)(K:AnOk P pn cn)(h:Ed P I fv mn pn cn o v w)(f:Nat)(hf:f<P.length):
 Calls prog 89 #[.pointer (T ⟨I,0,Z⟩),G A f] w fun e R=>∃b,e=.returned (.map (T b))/\w.heap.size<=b/\Bn b (Jf P v.s f) R/\O kJ w R:=by
 obtain⟨gf,fc,rfl,b9⟩:=h.pl.form (by omega);obtain⟨vv,sv,b1,_,a0⟩:=h.pl.get hf;obtain⟨sa,sc,rfl,a5⟩:=a0.form;have u:=b1 3 (by omega);simp only[OA,gP,gQ]at u;have b4:As P f=P[f]:=by unfold As;rw[gV hf];rfl
 rw[<-b4]at u a0 a5;have f1:=K.dC;have f6:=K.lc;have f3:=K.ok.many f;have l:O kJ w (w.alloc (.map #[] 0)):=(O.refl _ w).alloc _;have p0:=(h.r.cI.d8 l id).cell 0;have c9:=Ae (h.r.cI.d8 l id);simp only[Hh,gR,gP]at p0;have e0:(w.alloc (.map #[] 0)).cell? ⟨gf,f*4+3,Z⟩=T (Y sa (As P f).r9.length sc):=(gT (l.block gf b9 id)).trans u;have e7:gf<(w.alloc (.map #[] 0)).heap.size:=iI b9 l.size;have f2:(f:Int)<(P.length:Int):=by omega
 have e2:=@run_makeMap prog;have b7:=Bn.made w;obtain⟨a8,a6,HA,H,d8,d5⟩:=EF b7 l K h a0 a5;have e4:∀k,k<w.heap.size->k≠w.heap.size:=fun k q=>by omega
 clear h a0 a5 b4 b1 K l b7 u;go_enter func89,ntmps89;go_wp2_with fail;clear p0 e0 e7 c9 e2;obtain⟨a,V⟩:∃a,a=w.heap.size:=⟨_,rfl⟩;have S0:D (Bn a (fun g=>∃s i,i<0/\(As P f).r9[i]? =T s/\((s.kind=7/\g=s.cM)\/(s.kind=8/\v.s.E s.cK g))) (w.alloc (.map #[] 0))):=by rw[V];exact a8.o.iff fun n=>⟨False.elim,fun⟨_,_,q,_⟩=>by omega⟩
 rw[<-V];have L:=J V;clear V e4 a8;generalize w.alloc (.map #[] 0)=W0 at*;go_loopw[19] (fun i wr=>∃j:Nat,j<=(As P f).r9.length/\i=G A j/\D (Bn a (fun g=>∃s i,i<j/\(As P f).r9[i]? =T s/\((s.kind=7/\g=s.cM)\/(s.kind=8/\v.s.E s.cK g))) wr)/\D (O kJ w wr)) (fun i _=>(As P f).r9.length-(intOf i).toNat)
 case atStart=>exact⟨0,by omega,rfl,S0,a6⟩
 case round=>
  clear S0 a6;obtain⟨j,hj,rfl,S,M⟩:=hrel;by_cases N:j<(As P f).r9.length
  .obtain⟨gs,rfl,c8⟩:=d5.o (by omega);have b8:=d8.o.d8 M.o (fun _ _ _ _ q=>q.elim);have e8:gs<wr.heap.size:=iI c8 M.o.size;obtain⟨av,r,hI⟩:=b8.get N;have c0:=r 0 (by omega);have c1:=r 1 (by omega);have c2:=r 2 (by omega);have u:=r 3 (by omega);have c4:=r 4 (by omega);have c5:=r 5 (by omega);have c6:=r 6 (by omega);have c7:=r 7 (by omega);simp only[Kr,gP,gQ,iH]at c0 c1 c2 u c4 c5 c6 c7;have b3:=HA.o.ok.ok f hf _ (iA N);have b2:=HA.o.dQ f hf _ (iA N);have HG:=J (gV N);have e1:(j:Int)<((As P f).r9.length:Int):=by omega
   have a3:j+1<=(As P f).r9.length:=N;obtain⟨aa,al,ac,rfl⟩:=Ad hI;clear b8 r hI c8;generalize (As P f).r9[j]=s at*;have l:O kJ wr (wr.alloc (.cells #[G A s.kind,G A s.cY,G A s.cM,G A s.field,G A s.cK,Y aa al ac,G A s.next,G A s.taken] 189)):=(O.refl _ wr).alloc _;have X:=W.new wr #[G A s.kind,G A s.cY,G A s.cM,G A s.field,G A s.cK,Y aa al ac,G A s.next,G A s.taken] 189;have b0:=S.o.d8 l id;have a9:=M.o.trans l;go_upto_region 5 with fail;generalize wr.alloc (.cells #[G A s.kind,G A s.cY,G A s.cM,G A s.field,G A s.cK,Y aa al ac,G A s.next,G A s.taken] 189)=d at*;have f5:a<w.heap.size+1:=by have:=L.o;omega
   have e5:wr.heap.size≠a:=fun q=>by have:=S.o.lt;omega
   generalize wr.heap.size=tb at*;obtain⟨t0,t2,t4⟩:=X.e3 0 2 4;have f9:=Ae X;simp only[gR,gP,gQ]at t0 t2 t4;obtain⟨a1,a7,d1,d4,d3⟩:=BB b0 a9 X b3 b2;clear c0 c1 c2 u c4 c5 c6 c7 b0 a9 X l e8 b3 b2 S M;have d0:∀(m:Nat->Prop) (p:World),O (fun k=>k=a) d p->Bn a m p->(∀g,m g↔(∃s i,i<j/\(As P f).r9[i]? =T s/\((s.kind=7/\g=s.cM)\/(s.kind=8/\v.s.E s.cK g)))\/((s.kind=7/\g=s.cM)\/(s.kind=8/\v.s.E s.cK g)))->Bn a (fun g=>∃s i,i<j+1/\(As P f).r9[i]? =T s/\((s.kind=7/\g=s.cM)\/(s.kind=8/\v.s.E s.cK g))) p/\O kJ w p:=fun m p C E e6=>by
    refine⟨E.iff fun g=>(e6 g).trans ⟨?_,?_⟩,a7.o.thn C fun k hk q=>by have:=L.o;omega⟩
    .rintro(⟨s',i,q1,t⟩|q)
     .exact⟨s',i,by omega,t⟩
     .exact⟨s,j,by omega,HG.o,q⟩
    .rintro⟨s',i,q1,t,F⟩;by_cases e:i=j
     .subst e;rw[HG.o]at t;cases t;exact .inr F
     .exact .inl ⟨s',i,by omega,t,F⟩
   have a2:=J d0;clear d0;by_cases y:s.kind=7
   .have k7:(((s.kind:Nat):Int)==7)=true:=by rw[y];rfl
    have f4:=d4.o.func (.inr y);have H7:=J y;clear y;go_wp2_with fail;refine(Gp a _ s.cM d a1.o (by omega)).mono ?_;rintro e p ⟨rb,rfl,_,E,C⟩;have c:=J (a2.o _ p C E fun g=>⟨fun q=>q.imp id fun q=>.inl ⟨H7.o,q⟩,fun q=>q.imp id fun q=>q.elim (fun q=>q.2) fun q=>jY (H7.o.symm.trans q.1) (by decide)⟩);clear E C;go_wp2_with fail;go_roundw
    case rel=>exact⟨j+1,a3,by go_num,c.o.1,c.o.2⟩
    case measure=>simp[intOf];omega
   .by_cases z:s.kind=8
    .have k7:(((s.kind:Nat):Int)==7)=false:=by rw[z];rfl
     have k8:(((s.kind:Nat):Int)==8)=true:=by rw[z];rfl
     have e3:=d3.o.2.1 z;have H8:=J z;clear y z;have B:=(H.o.s9 a7.o).r;obtain⟨Q,a4⟩:=(B.d1 s.cK).2 e3;have f7:=H.o.r.ownLt (.inr (.inr (.inl ⟨1,s.cK,a4⟩)));have f8:=H.o.r.ownLt (k:=I) (.inl rfl);have p5:=B.cI.cell 5;have c9:=Ae B.cI;simp only[Hh,gR,gP,gQ]at p5;have od:O kJ d d.drew:=(O.refl _ d).drew;have l5:=(((B.mp 1 (by omega)).d8 od id).look Eh underlying67 (Cs d.drew) (k:=s.cK) (by omega) false).2 Q a4;unfold Hd at l5;have b6:Bn Q (v.s.E s.cK) d.drew:=((B.st 1 s.cK Q a4).d8 od id).iff fun x=>by simp[Ch]
     have b5:=a1.o.d8 od id;have f0:I≠a:=by have:=L.o;omega
     have e9:a≠Q:=by have:=L.o;omega
     obtain⟨d7,d6,d2⟩:=Ax b6 b5 B.cI;have d9:D (∀U,O (fun k=>k=a) d U->U.cell? ⟨I,5,Z⟩=T (.map (T (o.om 1)))/\U.cell? ⟨tb,4,Z⟩=T (G A s.cK)):=fun U h6=>by have r1:=(d2.o.d8 h6 f0).cell 5;have r2:=(d1.o.d8 h6 e5).cell 4;simp only[Hh,gR,gP,gQ]at r1 r2;exact⟨r1,r2⟩
     clear b6 b5 B od;go_wp2_with fail;go_region_held3(fun R=>R.cell? ⟨I,5,Z⟩=T (.map (T (o.om 1)))/\R.cell? ⟨tb,4,Z⟩=T (G A s.cK)) (go_keep)
      (first
        |(go_at_call 127;refine(Hf a Q _ _ _ d6.o d7.o e9).mono ?_;rintro e p ⟨fb,rfl,_,_,E,C⟩;have S6:=J E;have O6:=J ((O.drew (O.refl (fun k=>k=a) d)).trans C);clear E C;obtain⟨r1,r2⟩:=d9.o p O6.o))
     all_goals
      have c:=J (a2.o _ p O6.o S6.o fun g=>⟨fun q=>q.imp id fun q=>.inr ⟨H8.o,q⟩,fun q=>q.imp id fun q=>q.elim (fun q=>jY (H8.o.symm.trans q.1) (by decide)) fun q=>q.2⟩);clear S6 O6;go_wp2_with fail;go_roundw
      case rel=>exact⟨j+1,a3,by go_num,c.o.1,c.o.2⟩
      case measure=>simp[intOf];omega
    .have k7:(((s.kind:Nat):Int)==7)=false:=by simp;omega
     have k8:(((s.kind:Nat):Int)==8)=false:=by simp;omega
     have c:=J (a2.o _ d (O.refl _ _) a1.o fun g=>⟨.inl,fun q=>q.elim id fun q=>q.elim (fun q=>jY q.1 y) fun q=>jY q.1 z⟩);clear y z;go_wp2_with fail;go_roundw
     case rel=>exact⟨j+1,a3,by go_num,c.o.1,c.o.2⟩
     case measure=>simp[intOf];omega
  .have e:j=(As P f).r9.length:=by omega
   subst e;have e1:decide (((As P f).r9.length:Int)<((As P f).r9.length:Int))=false:=by simp
   have c:D (Bn a (Jf P v.s f) wr):=S.o.iff fun g=>by
    constructor
    .rintro⟨s,i,q1,t,F⟩;exact⟨s,List.mem_of_getElem? t,F⟩
    .rintro⟨s,t,F⟩;obtain⟨i,hi,e⟩:=iP.1 t;exact⟨s,i,hi,by rw[gV hi,e],F⟩
   go_wp2_with fail;go_ret;exact⟨a,rfl,by have:=L.o;omega,c.o,M.o⟩
def GJ(P:List PFn)(S:Sy)(m g:Nat):Prop:=∀X:Nat->Prop,X m->(∀f g,X f->Jf P S f g->X g)->X g
theorem GJ.rf(P:List PFn)(S:Sy)(m:Nat):GJ P S m m:=fun _ h _=>h
theorem GJ.step{P S m f g}(h:GJ P S m f)(k:Jf P S f g):GJ P S m g:=fun X b a=>a f g (h X b a) k
theorem Jf.iff{P}{S a:Sy}(h:S.le a)(k:a.le S)(f g:Nat):Jf P S f g↔Jf P a f g:=
 ⟨fun⟨s,q,r⟩=>⟨s,q,r.imp id fun r=>⟨r.1,h.e _ _ r.2⟩⟩,fun⟨s,q,r⟩=>⟨s,q,r.imp id fun r=>⟨r.1,k.e _ _ r.2⟩⟩⟩
theorem GJ.iff{P}{S a:Sy}(h:S.le a)(k:a.le S)(m g:Nat):GJ P S m g↔GJ P a m g:=
 ⟨fun q X b c=>q X b fun f g i e=>c f g i ((Jf.iff h k f g).1 e),fun q X b c=>q X b fun f g i e=>c f g i ((Jf.iff h k f g).2 e)⟩
theorem Jf.lt{P l b}{S:Sy}(a:AnOk P l b)(h:S.le (least P)){f g:Nat}(i:f<P.length)(k:Jf P S f g):g<P.length:=by
 obtain⟨s,j,⟨c,rfl⟩|⟨_,e⟩⟩:=k
 .exact(a.ok.ok f i s j).func (.inr c)
 .exact(Hu a (h.e _ _ e)).2
structure Bf(P:List PFn)(S:Sy)(m:Nat)(d:Nat->Prop)(Q:List Nat)(C:Nat->Prop):Prop where
 hm:d m
 le:∀g,d g->GJ P S m g
 q:∀g,g∈Q->d g
 cl:∀f g,d f->f∉Q->¬C f->Jf P S f g->d g
section
variable{P:List PFn}{S:Sy}{m c g:Nat}{d:Nat->Prop}{Q:List Nat}
theorem Bf.start(P:List PFn)(S:Sy)(m:Nat):Bf P S m (fun g=>g=m) [m] (fun _=>False):=
 ⟨rfl,fun g e=>e▸GJ.rf P S m,fun g h=>by simpa using h,fun f g e h=>jY (by rw[e];simp) h⟩
theorem Bf.pop(h:Bf P S m d (c::Q) (fun _=>False)):Bf P S m d Q (fun f=>f=c)/\d c:=
 ⟨⟨h.hm,h.le,fun g e=>h.q g (iK _ e),fun f g b i a=>h.cl f g b (fun q=>(jJ.1 q).elim a i) id⟩,h.q c jP⟩
theorem Bf.old(h:Bf P S m d Q (fun f=>f=c))(a:d g):Bf P S m (fun x=>d x\/x=g) Q (fun f=>f=c):=by
 have e:(fun x=>d x\/x=g)=d:=funext fun x=>propext ⟨fun q=>q.elim id fun q=>q▸a,.inl⟩
 rw[e];exact h
theorem Bf.add(h:Bf P S m d Q (fun f=>f=c))(j:d c)(k:Jf P S c g):Bf P S m (fun x=>d x\/x=g) (Q++[g]) (fun f=>f=c):=by
 refine⟨.inl h.hm,fun x b=>b.elim (h.le x) fun q=>q▸(h.le c j).step k,fun x b=>?_,fun f x a e i l=>?_⟩
 .rcases iW.1 b with q|q
  .exact .inl (h.q x q)
  .exact .inr (by simpa using q)
 .rcases a with a|rfl
  .exact .inl (h.cl f x a (fun q=>e (iW.2 (.inl q))) i l)
  .exact jY (iW.2 (.inr (by simp))) e
theorem Bf.fin(h:Bf P S m d Q (fun f=>f=c))(b:∀g,Jf P S c g->d g):Bf P S m d Q (fun _=>False):=by
 refine⟨h.hm,h.le,h.q,fun f g i j _ a=>?_⟩;by_cases e:f=c
 .exact b g (e▸a)
 .exact h.cl f g i j e a
theorem Bf.done(h:Bf P S m d [] (fun _=>False))(g:Nat):d g↔GJ P S m g:=
 ⟨h.le g,fun q=>q d h.hm fun f x a b=>h.cl f x a (by simp) id b⟩
def MU(d:Nat->Prop)(l n:Nat):Prop:=n=2*((List.range 12).countP fun i=>@decide (¬d i) (Classical.propDecidable _))+l
theorem VK(e:g<12)(f:¬d g){l a b:Nat}(h:MU d l a)(k:MU (fun x=>d x\/x=g) (l+1) b):b<a:=by
 unfold MU at h k;have:=Hq (p:=fun i=>@decide (¬(d i\/i=g)) (Classical.propDecidable _)) (q:=fun i=>@decide (¬d i) (Classical.propDecidable _)) (List.range 12) (fun x _ c=>by simp only[jN]at c⊢;exact fun q=>c (.inl q)) ⟨g,List.mem_range.2 e,by simp only[jN];exact f,by simp⟩
 dsimp only at this h k;omega
end
def JS(B:Nat)(w:World)(v:Value)(l:List Nat):Prop:=
 ∃g o a b,v=Y (T ⟨g,o,Z⟩) l.length a/\B<=g/\w.heap[g]? =T (.cells b 3 (0,0))/\l.length<=a/\o+a<=b.size/\a<=maxLen/\∀j (h:j<l.length),b[o+j]? =T (G A (l[j]:Int))
theorem JS.d8{B}{X:Nat->Prop}{w b v l}(h:JS B w v l)(i:O X w b)(j:∀k,v.ownBlock=T k->¬X k):JS B b v l:=by obtain⟨g,o,c,d,rfl,e,a,f⟩:=h;exact⟨g,o,c,d,rfl,e,by rw[i.block g (Ae a) (j g rfl)];exact a,f⟩
theorem JS.kind{B w v l}(h:JS B w v l):∀k,v.ownBlock=T k->B<=k/\∃a,w.heap[k]? =T (.cells a 3 (0,0)):=by obtain⟨g,o,e,a,rfl,b,c,_⟩:=h;intro k d;cases d;exact⟨b,a,c⟩
theorem JS.form{B w v l}(h:JS B w v l):∃g o a,v=Y (T ⟨g,o,Z⟩) l.length a/\B<=g/\g<w.heap.size/\l.length<=a/\a<=maxLen:=by obtain⟨g,o,a,f,rfl,b,c,d,_,e,_⟩:=h;exact⟨g,o,a,rfl,b,Ae c,d,e⟩
theorem JS.head{B w g o n a c l}(h:JS B w (Y (T ⟨g,o,Z⟩) n a) (c::l)):w.cell? ⟨g,o,Z⟩=T (G A (c:Int)):=by obtain⟨g,o,a,b,e,i,d,j,_,k,f⟩:=h;cases e;rw[cell_of_row w g o b _ _ d];have:=f 0 (by simp);simpa using this
theorem JS.tail{B w g o n a c l}(h:JS B w (Y (T ⟨g,o,Z⟩) n a) (c::l)):∃m,(if a=1 then T (⟨g,o,Z⟩:Addr)else T (⟨g,o+1,Z⟩:Addr))=T ⟨g,m,Z⟩/\JS B w (Y (T ⟨g,m,Z⟩) l.length (a-1)) l:=by
 obtain⟨g,o,a,d,e,i,k,p,s,r,q⟩:=h;cases e;rw[gU]at p;by_cases f:a=1
 .have:l=[]:=List.eq_nil_of_length_eq_zero (by omega);subst this;exact⟨o,by rw[jR f],g,o,a-1,d,rfl,i,k,by simp,by omega,by omega,fun j b=>jY b (by simp)⟩
 .refine⟨o+1,by rw[jQ f],g,o+1,a-1,d,rfl,i,k,by omega,by omega,by omega,fun j b=>?_⟩;have:=q (j+1) (by simpa using b);rw[Nat.add_assoc,Nat.add_comm 1 j];simpa using this
theorem JS.of{B w v l}(h:Ay B w v l)(c:l≠[]):JS B w v l:=by
 have o:l.length≠0:=fun q=>c (List.eq_nil_of_length_eq_zero q)
 rcases h.2 with⟨_,q⟩|⟨g,b,a,rfl,d,f,i,k,p,m⟩
 .exact jY q o
 .refine⟨g,0,b,a,rfl,d,f,i,by omega,k,fun j n=>?_⟩;have e:(a.toList.take (l.length*1))[j]? =T (G A (l[j]:Int)):=by rw[m];simp[n]
  rw[List.getElem?_take,jR (by omega)]at e;simpa using e
theorem JS.push(I:TypeId)(b:Addr)(c:Nat){B w v l}(hq:JS B w v l)(n:Nat)(X:w.cell? b=T (G A (n:Int)))(N:b.add 0=b)(hl:l.length<=100000)(M:B<=w.heap.size):
 ∃g o a s,(Builtin.append_ #[50,50] I #[v,Y (T b) 1 c]).run prog w=.ok (Y (T ⟨g,o,Z⟩) (l.length+1) a) s/\JS B s (Y (T ⟨g,o,Z⟩) (l.length+1) a) (l++[n])/\O (fun k=>v.ownBlock=T k) w s/\(v.ownBlock=T g\/w.heap.size<=g):=by
 obtain⟨r,z,a1,m,a2⟩:=info_parts Tryz.infoInt;obtain⟨g,o,a,d,rfl,K,p,h3,h4,L,t⟩:=hq;have C:∀j u,[Value.int .i64 (n:Int)][j]? =T u->w.cell? (b.add j)=T u:=fun j u q=>by
  match j,q with
  |0,q=> rw[N,X];simpa using q
 have lw:=Ae p;by_cases E:l.length+1<=a
 .have y:=run_firstCells_some (P:=prog) w r.size 1 b 1 c [G A (n:Int)] (by rw[m];rfl) C;have F:=run_storeCells_at prog g (o+l.length) 3 [G A (n:Int)] 0 d w p (by simp;omega) (fun x H=>by simp at H;subst H;rfl);simp only[iH,iM]at F;refine⟨g,o,a,w.setRow g (d.toList.take (o+l.length)++[Value.int .i64 (n:Int)]++d.toList.drop (o+l.length+1)).toArray,?_,⟨g,o,a,_,by rw[gW];rfl,K,setRow_heap w g d _ _ _ p,by rw[gW];exact E,?_,L,fun j f=>?_⟩,⟨rfl,rfl,rfl,by simp,fun k _ S=>setRow_other w g k _ (fun e=>S (by rw[e];rfl))⟩,.inl rfl⟩
  .rw[m]at y;simp[Builtin.append_,run_underlying underlying50,sizeOf,typeInfo,z,m,Builtin.lenOf,E,y,Addr.add_lit,F]
  .simp only[List.size_toArray,gW,List.length_take,List.length_drop,Array.length_toList,iM];omega
  .simp only[gR];rw[gW,iM]at f;by_cases e:j=l.length
   .subst e;have V:min (o+l.length) d.size=o+l.length:=by omega
    rw[jT (by simp;omega),jS (by rw[List.length_take];omega)];simp[V]
   .have h:j<l.length:=by omega
    rw[jT (by simp;omega),jT (by simp;omega),List.getElem?_take,jR (by omega)];have:=t j h;rw[iQ h];simpa using this
 .have U:(l.map fun i:Nat=>Value.int .i64 (i:Int)).length=l.length*r.size:=by rw[m];simp
  have a0:∀j v,(l.map fun i:Nat=>Value.int .i64 (i:Int))[j]? =T v->w.cell? ((⟨g,o,Z⟩:Addr).add j)=T v:=fun j v hv=>by rw[Addr.add_lit,cell_of_row w g (o+j) d _ _ p];obtain⟨f,e⟩:=List.getElem?_eq_some_iff.1 hv;rw[iT]at f;rw[t j f,<-e];simp
  have R:=run_append_grow (P:=prog) w 50 I 3 r (G A 0) underlying50 z a1 ⟨g,o,Z⟩ l.length a _ U a0 b 1 c [G A (n:Int)] (by rw[m];rfl) C (by omega) (by omega) (growslice_fits (by omega) (by rw[a2];omega));have Q:=grownCap_ge w (l.length+1) a 3;refine⟨_,0,_,_,R,⟨w.heap.size,0,_,_,by rw[gW];rfl,M,heap_alloc_new w.drew _,by rw[gW];exact Q,?_,grownCap_le_maxLen w _ _ _ (by unfold maxLen;omega),fun j f=>?_⟩,((O.refl _ w).drew).alloc _,.inr (gS _)⟩
  .simp only[Array.size_append,List.size_toArray,size_zeroCells,iT,iM,iY,Value.cells];simp;omega
  .rw[gW,iM]at f;rw[iY];by_cases e:j=l.length
   .subst e;rw[Array.getElem?_append_left (by simp),Array.getElem?_append_right (by simp)];simp
   .have h:j<l.length:=by omega
    rw[iQ h,Array.getElem?_append_left (by simp;omega),Array.getElem?_append_left (by simpa using h)];simp[h]
theorem Kt{i:Array Oper}{j:List Oper}{d:Oper}{a:Act}{Q:Exit->Act->World->Prop}(w:World)(y:d.guard=Z)(s x:Operand)
 (E:d.op=.call {callee:=.builtin .append,args:=#[s,x],argTypes:=#[50,50]}){B:Nat}{v:Value}{l:List Nat}(I:a.eval s=v)(F:JS B w v l)(n:Nat)(b:Addr)(c:Nat)(L:a.eval x=Y (T b) 1 c)
 (C:w.cell? b=T (G A (n:Int)))(u:b.add 0=b)(z:l.length<=100000)(r:B<=w.heap.size)
 (h:∀g o f e,JS B e (Y (T ⟨g,o,Z⟩) (l.length+1) f) (l++[n])->O (fun k=>v.ownBlock=T k) w e->(v.ownBlock=T g\/w.heap.size<=g)->wpList prog i Q j (a.put d.dst (Y (T ⟨g,o,Z⟩) (l.length+1) f)) e):
 wpList prog i Q (d::j) a w:=by
 refine wpList_plain y fun K t=>?_
 obtain⟨g,o,f,e,H,m,p,q⟩:=F.push d.type b c n C u z r;unfold Oper.wp execOp;simp only[E,resolve,invoke,builtin,Sem.run_bind,Sem.run_pure,Result.andThen_ok,List.map_toArray,iU,List.map_nil,I,L,H];exact t _ _ (h g o f e m p q)
def CN(f:PFn):PFn:=⟨f.name,f.t8,f.u9,[]⟩
theorem D5(P:List PFn)(i:Nat):As (P.map CN) i=CN (As P i):=by unfold As;rw[iV];cases P[i]? <;>rfl
theorem XC(P:List PFn)(t:Tg):IX (P.map CN) t=IX P t:=by unfold IX Ii;rw[D5];rfl
theorem Oa.bare{P:List PFn}(h:Oa P):Oa (P.map CN):=
 ⟨by rw[iT];exact h.dC,fun i=>by rw[D5];exact h.t8 i,fun i=>by rw[D5];exact h.eH i,fun i=>by rw[D5];exact iF _,fun i _ s a=>by rw[D5]at a;cases a⟩
theorem PnOk.bare{P:List PFn}(h:PnOk P):PnOk (P.map CN):=
 ⟨fun i=>by rw[D5];exact h.name i,fun i j=>by have:=h.t8 i j;unfold Ii at this⊢;rw[D5];exact this⟩
theorem Lt.bare{P:List PFn}{t}(h:Lt P t):Lt (P.map CN) t:=by unfold Lt at h⊢;rw[iT,D5];exact h
def Q6(x:Nat):Tg:=⟨(Dz x).1,(Dz x).2.1,(Dz x).2.2⟩
def Cd(P:List PFn)(x:Nat):ByteArray:=⟨(IX P (Q6 x)).toArray⟩
theorem Su{P:List PFn}{j x:Nat}(o:P.length<=12)(l:∀f,(As P f).t8.length<=12)(p:j<=4000)(h:Ez P j x):Lt P (Q6 x):=by
 rcases h with(⟨f,i,c,d,rfl⟩|⟨n,k,c,d,m,rfl⟩)|⟨g,c,rfl⟩
 .have:=l f;have e:Dz (vN f i)=(0,f,i):=by
   unfold Dz vN;rw[jR (by omega)];have a:(f*12+i) / 12=f:=by omega
   have b:(f*12+i) % 12=i:=by omega
   rw[a,b]
  unfold Q6;rw[e];exact .inl ⟨rfl,c,d⟩
 .have e:Dz (pN n k)=(1,n,k):=by
   unfold Dz pN;rw[jQ (by omega),jQ (by omega)];have a:(156+(n-1)*4+k-156) / 4+1=n:=by omega
   have b:(156+(n-1)*4+k-156) % 4=k:=by omega
   rw[a,b]
  unfold Q6
  rw[e]
  exact .inr (.inl ⟨rfl,by show n<=4000;omega,by show k<=3;omega⟩)
 .have e:Dz (fN g)=(2,g,0):=by
   unfold Dz fN;rw[jQ (by omega),jR (by omega)];have a:144+g-144=g:=by omega
   rw[a]
  unfold Q6
  rw[e]
  exact .inr (.inr ⟨rfl,c,rfl⟩)
structure SetsAt(P:List PFn)(S:Sy)(fv:Value)(mn pn cn pb eb rb:Nat)(w:World):Prop where
 pl:Bx 0 w fv (P.map CN)
 pm:∃bk,BW IU IT pb bk w/\(∀c,(∃k,bk c=T k)↔AM P pn c)/\∀c k,bk c=T k->Bn k (S.I c) w
 em:∃bk,BW IU IT eb bk w/\(∀n,(∃k,bk n=T k)↔1<=n/\n<=cn)/\∀n k,bk n=T k->Bn k (S.E n) w
 rs:Bn rb (GJ P S mn) w
 tb:JZ w
 tl:0<w.heap.size
def DV(c:Value)(d f a e b g:Nat):Array Value:=#[c,G A d,G A f,G A a,.map (T e),.map (T b),.map (T g)]
theorem SetsAt.s9{P S d e g a f b i w j}(h:SetsAt P S d e g a f b i w)(k:O kJ w j):SetsAt P S d e g a f b i j:=by obtain⟨l,p,n,s⟩:=h.pm;obtain⟨m,r,o,t⟩:=h.em;exact⟨h.pl.s9 k,⟨l,p.d8 k id,n,fun c x q=>(s c x q).d8 k id⟩,⟨m,r.d8 k id,o,fun c x q=>(t c x q).d8 k id⟩,h.rs.d8 k id,h.tb.d8 k id h.tl,iI h.tl k.size⟩
theorem GJ.lt{P e b}{S:Sy}(a:AnOk P e b)(h:S.le (least P)){m g:Nat}(d:m<P.length)(k:GJ P S m g):g<P.length:=k (fun x=>x<P.length) d fun _ _ c q=>q.lt a h c
theorem JS.new(B:Nat)(w:World)(n:Nat)(a:B<=w.heap.size):JS B (w.alloc (.cells #[G A (n:Nat)] 3)) (Y (T ⟨w.heap.size,0,Z⟩) 1 1) [n]:=
 ⟨w.heap.size,0,1,_,rfl,a,heap_alloc_new w _,gS _,by simp,by decide,fun j b=>by
   have:j=0:=by simpa using b
   subst this;rfl⟩
theorem JS.ne{B w v l b m}(h:JS B w v l)(k:Bn b m w):∀x,v.ownBlock=T x->x≠b:=by rintro x d rfl;obtain⟨_,f,e⟩:=h.kind x d;obtain⟨g,c,a⟩:=k.isMap;rw[e]at a;cases a
theorem QA(P sb fv d pn cn o v w)(a2:AnOk P pn cn)(h:Ed P sb fv d pn cn o v w)(hm:d<P.length)(f0:v.s.le (least P)):
 Calls prog 42 #[.pointer (T ⟨sb,0,Z⟩)] w fun e w'=>∃b,e=.returned (.map (T b))/\w.heap.size<=b/\Bn b (GJ P v.s d) w'/\O kJ w w':=by
 have p1:=h.r.cI.cell 1;have c3:=Ae h.r.cI;simp only[Hh,gR,gP,gQ]at p1;have h8:=a2.dC;obtain⟨b1,H,HA⟩:=Ax (fun g (k:GJ P v.s d g)=>k.lt a2 f0 hm) h a2;clear h a2 f0;go_enter func42,ntmps42;go_wp2_with fail;refine(Ko d w (by omega)).mono ?_;rintro e F ⟨U,rfl,i4,s2,o2⟩;have p2:F.cell? ⟨sb,1,Z⟩=T (G A d):=(gT (o2.block sb c3 id)).trans p1;have i6:sb<F.heap.size:=iI c3 o2.size;have q3:=JS.new w.heap.size F d o2.size;have o3:O kJ w (F.alloc (.cells #[G A d] 3)):=o2.alloc _;have s3:Bn U (fun g=>g=d) (F.alloc (.cells #[G A d] 3)):=s2.d8 ((O.refl kJ F).alloc _) id;obtain⟨d6,d4,e0⟩:=Ax q3 o3 s3;clear q3 o3 s3 s2 o2 p1 c3;go_wp2_with fail;clear p2 i6;generalize F.alloc (.cells #[G A d] 3)=W3 at*;generalize F.heap.size=g3 at*;obtain⟨mf,f1⟩:=Ou;obtain⟨z,hJ⟩:∃z:Nat->Value->World->Prop,z=fun n q u=>∃(I:Nat->Prop) (l:List Nat),D (JS w.heap.size u q l)/\D (Bn U I u)/\D (Bf P v.s d I l (fun _=>False))/\D (MU I l.length n)/\D (n<=25)/\D (O kJ w u):=⟨_,rfl⟩
 have c9:D (∃n,z n (Y (T ⟨g3,0,Z⟩) 1 1) W3):=⟨_,by rw[hJ];refine⟨_,[d],d6,e0,Bf.start P v.s d,rfl,?_,d4⟩;show _+[d].length<=25;have:List.countP (fun i=>@decide (¬(i=d)) (Classical.propDecidable _)) (List.range 12)<=(List.range 12).length:=List.countP_le_length;rw[List.length_range]at this;simp only[iM];omega⟩
 have HJ:=J hJ;have d2:=J f1;clear d6 e0 d4 hJ f1;go_loopw[4] (fun q u=>∃X,X=q/\∃n,z n X u) (fun q u=>mf (fun n=>z n q u))
 case atStart=>exact⟨_,rfl,c9.o⟩
 case round=>
  clear c9;obtain⟨q,rfl,n0,f2⟩:=hrel;have f3:=(d2.o (fun n=>z n q wr) n0 f2).1;obtain⟨Q,c2⟩:∃Q,Q=mf (fun n=>z n q wr):=⟨_,rfl⟩;have f4:z Q q wr:=by rw[c2];exact f3
  rw[HJ.o]at f4;obtain⟨I,l,B,C,p,L,c5,E⟩:=f4;have h0:=J c2;clear f2 f3 c2 n0;obtain⟨g,oo,b5,e,j5,j6,lc,lm⟩:=B.o.form;subst e;cases l with
  |nil=> have HX:=J (C.o.iff p.o.done);rw[iJ];go_wp2_with fail;go_ret;exact⟨U,rfl,i4,HX.o,E.o⟩
  |cons c l=>
   have c0:=B.o.head;obtain⟨o5,e5,Q5⟩:=B.o.tail;rw[gU]at lc⊢;have hp:(0:Int)<(l.length:Int)+1:=by omega
   have h9:c<P.length:=b1.o c (p.o.le c p.o.pop.2);have hE:=H.o.s9 E.o;obtain⟨HE,d7,c8⟩:=Ax hE Q5 e5;clear Q5 e5 hE;go_upto_region 6 with fail;rw[c8.o];clear c0 c8;go_wp2_with fail;refine(Pq P sb fv d pn cn o v wr HA.o HE.o c h9).mono ?_;rintro e w5 ⟨kb,rfl,j7,s5,c4⟩;have b6:=HE.o.s9 c4;obtain⟨b3,e6,e7,e3⟩:=Ba c4 b6.tb b6.tl s5;clear s5 c4 b6;go_wp2_with fail;refine(DZ kb _ w5 e3.o e6.o e7.o).mono ?_;rintro e w6 ⟨cv,a,rfl,hI,f6,c1,o6⟩;obtain⟨ca,i7,S,rfl⟩:=Ad hI;have i3:=Ag hI;subst i3;have i9:a.length<=12:=DQ 12 a f6 fun x hx=>iI (b1.o _ ((p.o.le c p.o.pop.2).step ((c1 x).1 hx))) h8
   have hO:=b3.o.trans o6;have j2:=b3.o.size;have q6:JS w.heap.size w6 (Y (T ⟨g,o5,Z⟩) l.length (b5-1)) l:=d7.o.d8 hO (fun _ _ q=>q);have s6:Bn U I w6:=C.o.d8 hO id;obtain⟨b0,b4,e4,d5,d1⟩:=BB hI q6 s6 (E.o.trans hO) c1;have K:D (∀k s,Value.ownBlock (Y (T ⟨g,o5,Z⟩) l.length (b5-1))=T k->Value.ownBlock (Y ca a.length S)=T s->k≠s):=fun k s M h2=>by cases M;have:=(b0.o.lt s h2).1;show g≠s;omega
   have c6:=J p.o.pop;have d3:D (∀n,MU I l.length n->n<Q):=fun n h=>by have M:=L.o;unfold MU at h M;rw[gU]at M;omega
   clear hI f6 c1 o6 hO q6 s6 B C p E L d7 HE e6 e7 e3 b3;go_wp2_with fail;obtain⟨qv,g1⟩:∃qv,qv=Value.slice (T ⟨g,o5,Z⟩) l.length (b5-1):=⟨_,rfl⟩;rw[<-g1]at b4 K⊢;clear g1;generalize w5.heap.size=B5 at*;go_loopw[4,33] (fun q i u=>∃(j:Nat) (m:Nat->Prop) (r:List Nat) (X:Value),X=q/\j<=a.length/\i=G A j/\D (JS w.heap.size u X r)/\D (Bn U m u)/\D (Bf P v.s d m r (fun f=>f=c)/\m c)/\D (∀t x,t<j->a[t]? =T x->m x)/\D (∀n,MU m r.length n->n<Q)/\D (Ay B5 u (Y ca a.length S) a)/\D (∀k s,X.ownBlock=T k->Value.ownBlock (Y ca a.length S)=T s->k≠s)/\D (O kJ w u)) (fun _ i _=>a.length-(intOf i).toNat)
   case atStart=>exact⟨0,I,l,qv,rfl,by omega,rfl,b4,e4,c6,fun t x ht=>by omega,d3,b0,K,d5⟩
   case round=>
    clear b4 e4 c6 d3 b0 K d5;obtain⟨j,m,r,q,rfl,hj,rfl,B,C,p,HD,L,HI,K,E⟩:=hrel;by_cases b9:j<a.length
    .have a7:=HI.o;obtain⟨gl,rfl⟩:=Ap a7 (by omega);have b7:=a7.cellAt j (by omega);rw[iV,gV b9]at b7;simp only[Option.map_some]at b7;have i5:=(a7.lt gl rfl).2;have HG:=J (gV b9);have b8:=(d1.o a[j]).1 (iA _);have g6:=J b8;have j1:(j:Int)<(a.length:Int):=by omega
     have a4:=J (show j+1<=a.length from b9);have j4:a[j]<P.length:=b1.o _ ((p.o.1.le c p.o.2).step b8);have i0:r.length<=100000:=by
      have M:=L.o _ rfl;have h2:=c5.o;have h3:r.length<=2*((List.range 12).countP fun i=>@decide (¬m i) (Classical.propDecidable _))+r.length:=by omega
      omega
     clear a7 b8;generalize a[j]=x at*;go_wp2_with fail;refine(Gp U m x wr C.o (by omega)).mono ?_;rintro e R ⟨rb,rfl,g2,s7,o7⟩;have a1:=B.o.ne C.o;have f9:=B.o.d8 o7 (fun k N q=>a1 k N q);have e9:Ay B5 R (Y (T ⟨gl,0,Z⟩) a.length S) a:=Ac HI.o o7 (fun k N q=>by obtain⟨i8,e1⟩:=DD HI.o k N;obtain⟨es,c',e2⟩:=C.o.isMap;rw[<-q,e1]at e2;cases e2)
     have f7:O kJ w R:=E.o.thn o7 (fun k N q=>by omega);have c7:D (∀t y,t<j+1->a[t]? =T y->(m y\/y=x)):=fun t y ht hy=>by
      by_cases e:t=j
      .subst e;rw[HG.o]at hy;cases hy;exact .inr rfl
      .exact .inl (HD.o t y (by omega) hy)
     obtain⟨a0,a3,a5,a6,d9⟩:=BB f9 e9 f7 s7 g2;clear f9 e9 f7 s7 o7 g2 a1 C E HI B HD b7 i5;cases rb
     .have f8:m x:=Classical.byContradiction fun q=>by have:=d9.o.2 q;cases this
      have a9:=J (p.o.1.old f8);have b2:D (∀n,MU (fun y=>m y\/y=x) r.length n->n<Q):=by
       have e:(fun y=>m y\/y=x)=m:=funext fun y=>propext ⟨fun q=>q.elim id fun q=>q▸f8,.inl⟩
       rw[e];exact L.o
      go_wp2_with fail;go_roundw
      case rel=>exact⟨j+1,_,r,q,rfl,a4.o,by go_num,a0,a6,⟨a9.o,.inl p.o.2⟩,c7,b2,a3,K,a5⟩
      case measure=>have:=a4.o;simp[intOf];omega
     .have i2:¬m x:=d9.o.1 rfl;have a9:=J (p.o.1.add p.o.2 g6.o);have b2:D (∀n,MU (fun y=>m y\/y=x) (r++[x]).length n->n<Q):=fun n h=>by rw[gW,iM]at h;exact iI (VK (by omega) i2 rfl h) (Nat.le_of_lt (L.o _ rfl))
      have g0:JS w.heap.size (R.alloc (.cells #[G A (x:Nat)] 3)) q r:=a0.o.d8 ((O.refl kJ R).alloc _) (fun _ _ q=>q);have j3:=a5.o.size;have d8:=J g0;clear g0;go_wp2_with(at_builtin;refine Kt _ rfl _ _ rfl rfl d8.o x ⟨R.heap.size,0,Z⟩ 1 rfl (by simp) (Addr.add_lit _ _ _) i0 (by simp;omega) ?_;intro g9 o9 h7 w9 q9 g4 e8);have a8:O (fun k=>q.ownBlock=T k) R w9:=((O.refl _ R).alloc _).trans g4;have a1:=a0.o.ne a6.o;have h5:=J q9;have h6:=J (a6.o.d8 a8 (fun q=>a1 _ q rfl));have g8:D (Ay B5 w9 (Y (T ⟨gl,0,Z⟩) a.length S) a):=Ac a3.o a8 (fun k N q=>K.o k k q N rfl);have h4:D (O kJ w w9):=a5.o.thn a8 (fun k N q=>by have:=(a0.o.kind k q).1;omega);have g7:D (∀k s,Value.ownBlock (Y (T ⟨g9,o9,Z⟩) (r.length+1) h7)=T k->Value.ownBlock (Y (T ⟨gl,0,Z⟩) a.length S)=T s->k≠s):=fun k s M h2=>by
       cases M;rcases e8 with h|h
       .exact K.o _ _ h h2
       .have:=(a3.o.lt s h2).2;simp at h;show g9≠s;omega
      clear q9 g4 e8 a8 a1 d8 a0 a6 a3 a5;go_wp2_with fail;go_roundw
      case rel=>exact⟨j+1,_,r++[x],_,rfl,a4.o,by go_num,h5,h6,⟨a9.o,.inl p.o.2⟩,c7,b2,g8,g7,h4⟩
      case measure=>have:=a4.o;simp[intOf];omega
    .have e:j=a.length:=by omega
     subst e;have j0:decide ((a.length:Int)<(a.length:Int))=false:=by simp
     have g5:D (Bf P v.s d m r (fun _=>False)):=p.o.1.fin fun x hx=>by obtain⟨t,ht,e⟩:=iP.1 ((d1.o x).2 hx);exact HD.o t x ht (by rw[gV ht,e])
     obtain⟨V,f5⟩:∃n,MU m r.length n:=⟨_,rfl⟩;have i1:=L.o V f5;have d0:D (z V q wr):=by show z V q wr;rw[HJ.o];exact⟨m,r,B,C,g5,f5,by have:=c5.o;show V<=25;omega,E⟩
     go_wp2_with fail;go_roundw
     case rel=>exact⟨q,rfl,V,d0.o⟩
     case measure=> refine Nat.lt_of_le_of_lt (d2.o (fun n=>z n q wr) V d0.o).2 (iI i1 (Nat.le_of_eq ?_));exact h0.o
def Q7:Prop:=∀(s:ByteArray) (a:World),s.size<=4000->Calls prog 92 #[.string s] a fun e b=>e=.returned (.string s)/\O kJ a b
theorem Oi(z:Q7)(B U l w)(h:Au B w U l)(hl:l.length<=4000)(K:∀s,s∈l->s.size<=4000):
 Calls prog 93 #[U] w fun e V=>∃v,e=.returned v/\Au w.heap.size V v l/\O kJ w V:=by
 obtain⟨R,E,M,N,Q⟩:=info_parts Tryz.infoStr;obtain⟨va,vl,vc,rfl⟩:=Ad h;have a5:=Ag h;subst a5;obtain⟨X,a2,S,y⟩:=run_make_own (P:=prog) w w.heap.size 51 9 R (.string ByteArray.empty) 1 underlying51 E M N .i64 .i64 l.length (by rw[Q];omega) (by unfold maxLen;omega) (gS _);have t:D (Au w.heap.size X (Y (T ⟨w.heap.size,0,Z⟩) 0 l.length) (l.take 0)):=S;have p:D (O kJ w X):=O.grown (O.refl _ w) y (fun k F=>by cases F);obtain⟨HV,HC,a1⟩:=Ax h z K;clear S y h z K;go_enter func93,ntmps93;go_wp2_with fail;clear a2;go_loopw[3,11] (fun v i wr=>∃(k:Nat) (a:Value),a=v/\k<=l.length/\i=G A k/\D (Au w.heap.size wr a (l.take k))/\D (O kJ w wr)) (fun _ i _=>l.length-(intOf i).toNat)
 case atStart=>exact⟨0,_,rfl,by omega,rfl,t,p⟩
 case round=>
  clear t p;obtain⟨k,v,rfl,F,rfl,f,b⟩:=hrel;by_cases d:k<l.length
  .have c:=Ac HV.o b.o (fun _ _ q=>q);obtain⟨gl,rfl⟩:=Ap c (by omega);have m:=c.cellAt k (by omega);rw[iV,gV d]at m;simp only[Option.map_some]at m;have a6:=(c.lt gl rfl).2;have a8:(k:Int)<(l.length:Int):=by omega
   have r:=J (show k+1<=l.length from d);have a4:=a1.o _ (iA d);have HT:D (l.take (k+1)=l.take k++[l[k]]):=iX d;have a9:(l.take k).length<=4000:=by rw[List.length_take];omega
   clear c;generalize l[k]=x at*;go_wp2_with fail;refine(HC.o x wr a4).mono ?_;rintro e w2 ⟨rfl,o⟩;have I:Au w.heap.size w2 v (l.take k):=Ac f.o o (fun _ _ q=>q);have n:=b.o.trans o;have b0:=n.size;have u:=J I;have a0:=J n;clear I n o f b m a6;go_wp2_with(at_builtin;refine jA _ rfl _ _ 51 rfl w.heap.size 9 R (.string ByteArray.empty) 1 16 underlying51 E M N Q rfl (by decide) _ _ _ rfl (u.o.alloc _) ⟨w2.heap.size,0,Z⟩ 1 1 [.string x] rfl rfl (AD (by simp) _ _) (fun x L=>by simp at L;subst L;rfl) (by unfold maxLen;omega) (by omega) (by simp;omega) ?_;intro a w3 H C a3);have O3:D (O kJ w w3):=O.grown (a0.o.alloc _) C (fun j hj=>.inr (u.o.lt j hj).1);have g:D (Au w.heap.size w3 a (l.take (k+1))):=by show Au _ _ _ _;rw[HT.o];unfold Au;rw[gW,jZ];exact H
   clear C a3 H;go_wp2_with fail;go_roundw
   case rel=>exact⟨k+1,a,rfl,r.o,by go_num,g,O3⟩
   case measure=>have:=r.o;simp[intOf];omega
  .have e:k=l.length:=by omega
   subst e;have a7:decide ((l.length:Int)<(l.length:Int))=false:=by simp
   have g:D (Au w.heap.size wr v l):=by have:=f.o;rw[List.take_length]at this;exact this
   go_wp2_with fail;go_ret;exact⟨v,rfl,g.o,b.o⟩
