/- One of the texts of the proof: GrE OrA OrB OrC. -/
import Derived.Test.YtegmjgjkcdbmkaaGreatDoorG48
import Derived.Test.YtegmjgjkcdbmkaaGreatDoorG54
import Derived.Test.YtegmjgjkcdbmkaaGreatDoorG58
import Derived.ChangeSlices
set_option maxRecDepth 100000
set_option maxHeartbeats 4000000
namespace Go.Proofs.YtegmjgjkcdbmkaaGreatDoor
open Go.RowKit Go.Maps Go.ChangeShapes Go.WideShapes Go.ChangeAt
theorem fL:∀(l:List Sm) (g f:Nat) (s:Sm) (n:Nat),(s,n)∈Ch l g f↔
 (s.kind≠0∧s.kind≠8∧s∈l∧n=0)∨(s.kind=0∧∃i,n=g+i+1∧(l.filter fun s=>decide (s.kind=0))[i]? =some s)∨(s.kind=8∧∃i,n=f+i+1∧(l.filter fun s=>decide (s.kind=8))[i]? =some s)
 | [],g,f,s,n=>by simp [Ch]
 | a::l,g,f,s,n=>by
   rw [Ch,List.mem_cons,fL l];by_cases e:a.kind=0
   ·have d:a.kind≠8:=by omega
    simp only [e,if_true,if_false,List.filter_cons,decide_true,decide_false,Bool.false_eq_true,List.mem_cons,Prod.mk.injEq,show¬(0:Nat)=8 by decide];constructor
    ·rintro (⟨rfl,rfl⟩ | ⟨b,c,h,rfl⟩ | ⟨b,i,rfl,h⟩ | ⟨b,i,rfl,h⟩)
     ·exact .inr (.inl ⟨e,0,by omega,rfl⟩)
     ·exact .inl ⟨b,c,.inr h,rfl⟩
     ·exact .inr (.inl ⟨b,i+1,by omega,by simpa using h⟩)
     ·exact .inr (.inr ⟨b,i,rfl,h⟩)
    ·rintro (⟨b,c,rfl | h,rfl⟩ | ⟨b,i,rfl,h⟩ | ⟨b,i,rfl,h⟩)
     ·exact absurd e b
     ·exact .inr (.inl ⟨b,c,h,rfl⟩)
     ·rcases i with _ | i
      ·simp only [dJ,Option.some.injEq] at h;exact .inl ⟨h.symm,rfl⟩
      ·exact .inr (.inr (.inl ⟨b,i,by omega,by simpa using h⟩))
     ·exact .inr (.inr (.inr ⟨b,i,rfl,h⟩))
   ·by_cases d:a.kind=8
    ·simp only [d,if_true,if_false,List.filter_cons,decide_true,decide_false,Bool.false_eq_true,List.mem_cons,Prod.mk.injEq,show¬(8:Nat)=0 by decide];constructor
     ·rintro (⟨rfl,rfl⟩ | ⟨b,c,h,rfl⟩ | ⟨b,i,rfl,h⟩ | ⟨b,i,rfl,h⟩)
      ·exact .inr (.inr ⟨d,0,by omega,rfl⟩)
      ·exact .inl ⟨b,c,.inr h,rfl⟩
      ·exact .inr (.inl ⟨b,i,rfl,h⟩)
      ·exact .inr (.inr ⟨b,i+1,by omega,by simpa using h⟩)
     ·rintro (⟨b,c,rfl | h,rfl⟩ | ⟨b,i,rfl,h⟩ | ⟨b,i,rfl,h⟩)
      ·exact absurd d c
      ·exact .inr (.inl ⟨b,c,h,rfl⟩)
      ·exact .inr (.inr (.inl ⟨b,i,rfl,h⟩))
      ·rcases i with _ | i
       ·simp only [dJ,Option.some.injEq] at h;exact .inl ⟨h.symm,rfl⟩
       ·exact .inr (.inr (.inr ⟨b,i,by omega,by simpa using h⟩))
    ·simp only [e,d,if_false,List.filter_cons,decide_false,Bool.false_eq_true,List.mem_cons,Prod.mk.injEq];constructor
     ·rintro (⟨rfl,rfl⟩ | ⟨b,c,h,rfl⟩ | ⟨b,i,rfl,h⟩ | ⟨b,i,rfl,h⟩)
      ·exact .inl ⟨e,d,.inl rfl,rfl⟩
      ·exact .inl ⟨b,c,.inr h,rfl⟩
      ·exact .inr (.inl ⟨b,i,rfl,h⟩)
      ·exact .inr (.inr ⟨b,i,rfl,h⟩)
     ·rintro (⟨b,c,rfl | h,rfl⟩ | ⟨b,i,rfl,h⟩ | ⟨b,i,rfl,h⟩)
      ·exact .inl ⟨rfl,rfl⟩
      ·exact .inr (.inl ⟨b,c,h,rfl⟩)
      ·exact .inr (.inr (.inl ⟨b,i,rfl,h⟩))
      ·exact .inr (.inr (.inr ⟨b,i,rfl,h⟩))
theorem fM(A:List Sm)(p:Sm→Bool):(Cd A).filter p=Cd (A.filter p):=by rw [dV,dV];simp only [List.filter_append,List.filter_filter,Bool.and_comm]
theorem fP{A:List Sm}{s:Sm}(h:s.aW<4):s∈Cd A↔s∈A:=by
 rw [dV];have a:s.aW=0∨s.aW=1∨s.aW=2∨s.aW=3:=by omega
 simp only [List.mem_append,List.mem_filter,beq_iff_eq];constructor
 ·rintro (h | h | h | h)<;>exact h.1
 ·intro h;rcases a with e | e | e | e
  ·exact .inl ⟨h,e⟩
  ·exact .inr (.inl ⟨h,e⟩)
  ·exact .inr (.inr (.inl ⟨h,e⟩))
  ·exact .inr (.inr (.inr ⟨h,e⟩))
structure gG(A R R':List Sm):Prop where
 r:∀s,s∈R→s.kind≠0∧s.kind≠8∧s.aW<4
 r':∀s,s∈R'→s.kind≠0∧s.kind≠8∧s.aW<4
 mv:∀s,s∈R→∃u,u∈R'∧SmS (s,0) (u,0)
theorem gG.flt{A R a:List Sm}(h:gG A R a)(k:Nat)(c:k=0∨k=8):(Cd (A++a)).filter (fun s=>decide (s.kind=k))=(Cd (A++R)).filter fun s=>decide (s.kind=k):=by
 have d:R.filter (fun s=>decide (s.kind=k))=[]:=List.filter_eq_nil_iff.2 fun s b=>by
  have:=h.r s b;simp only [decide_eq_true_eq];rcases c with rfl | rfl
  ·exact this.1
  ·exact this.2.1
 have e:a.filter (fun s=>decide (s.kind=k))=[]:=List.filter_eq_nil_iff.2 fun s b=>by
  have:=h.r' s b;simp only [decide_eq_true_eq];rcases c with rfl | rfl
  ·exact this.1
  ·exact this.2.1
 rw [fM,fM,List.filter_append,List.filter_append,d,e]
theorem gG.sub{A R d:List Sm}(h:gG A R d)(l:∀s,s∈A→s.aW<4):∀x,x∈Ch (Cd (A++R)) 0 0→∃y,y∈Ch (Cd (A++d)) 0 0∧SmS x y:=by
 rintro ⟨s,n⟩ c;have c:=(fL _ _ _ _ _).1 c;rcases c with ⟨p,r,a,rfl⟩ | ⟨k,i,rfl,b⟩ | ⟨k,i,rfl,b⟩
 ·have g:s.aW<4:=by
   have m:s∈A++R:=by unfold Cd fsOf at a;simp only [List.mem_flatMap,List.mem_map] at a;obtain ⟨q,⟨f,_,rfl⟩,o⟩:=a;exact (List.mem_filter.1 o).1
   rcases List.mem_append.1 m with q | q
   ·exact l s q
   ·exact (h.r s q).2.2
  have a:=(fP g).1 a
  rcases List.mem_append.1 a with q | q
  ·exact ⟨(s,0),(fL _ _ _ _ _).2 (.inl ⟨p,r,(fP g).2 (List.mem_append_left _ q),rfl⟩),.rf _⟩
  ·obtain ⟨u,j,e⟩:=h.mv s q
   obtain ⟨t,v,w⟩:=h.r' u j;exact ⟨(u,0),(fL _ _ _ _ _).2 (.inl ⟨t,v,(fP w).2 (List.mem_append_right _ j),rfl⟩),e⟩
 ·exact ⟨(s,_),(fL _ _ _ _ _).2 (.inr (.inl ⟨k,i,rfl,by rw [h.flt 0 (.inl rfl)];exact b⟩)),.rf _⟩
 ·exact ⟨(s,_),(fL _ _ _ _ _).2 (.inr (.inr ⟨k,i,rfl,by rw [h.flt 8 (.inr rfl)];exact b⟩)),.rf _⟩
theorem gG.cn{A R a:List Sm}(h:gG A R a):DS (Cd (A++a))=DS (Cd (A++R))∧DT (Cd (A++a))=DT (Cd (A++R)):=by unfold DS DT;simp only [List.countP_eq_length_filter];rw [h.flt 0 (.inl rfl),h.flt 8 (.inr rfl)];exact ⟨rfl,rfl⟩
theorem fW{P:Program}{w:World}(r:Nat)(t p e:TypeId)(i:TypeInfo)(z:Value)(C:P.underlying t=some (.slice e))(x:P.info? e=some i)(R:i.zero=some z)
 (v:Value)(n:Nat)(l:List Value)(f:w.ownsRow r e i.size v n l)
 (a:Addr)(m c:Nat)(b:List Value)(o:b.length=m*i.size)(y:∀j u,b[j]? =some u→w.cell? (a.add j)=some u)(E:∀u∈b,u.oneCell'=true)
 (F:n+m≤maxLen)(H:(n+m)*i.bytes≤140737488355328){S:Value}{D:World}(B:(Builtin.append_ #[t,t] p #[v,.slice (some a) m c]).run P w=.ok S D):
 D.ownsRow r e i.size v n l:=by
 have T:n+m≤9223372036854775807:=by simp only [maxLen] at F;omega
 have O:=f;rcases f.2 with ⟨rfl,rfl⟩ | ⟨g,k,h,rfl,G,s,M,I,J,Q⟩
 ·exact ⟨f.1,.inl ⟨rfl,rfl⟩⟩
 ·by_cases A:n+m≤k
  ·have K:n*i.size+b.length≤h.size:=by rw [o,J,←Nat.add_mul];exact Nat.mul_le_mul_right _ A
   have d:=run_append_room (P:=P) w t p e i C x g n k h s a m c b o y E A K;rw [B] at d;simp only [Result.ok.injEq] at d;rw [d.2];have L:(h.toList.take (n*i.size)).length=n*i.size:=by rw [List.length_take,Array.length_toList];omega
   refine ⟨f.1,.inr ⟨g,k,(h.toList.take (n*i.size)++b++h.toList.drop (n*i.size+b.length)).toArray,rfl,G,?_,M,I,?_,?_⟩⟩
   ·simp only [World.setRow,Array.getElem?_modify,s,if_true,Option.map_some]
   ·simp only [List.size_toArray,List.length_append,L,List.length_drop,Array.length_toList];omega
   ·rw [List.append_assoc,List.take_append_of_le_length (by omega),List.take_of_length_le (by omega)];exact Q
  ·have N:∀j u,l[j]? =some u→w.cell? ((⟨g,0,none⟩:Addr).add j)=some u:=f.cells (g:=g) rfl;have d:=run_append_grow (P:=P) w t p e i z C x R ⟨g,0,none⟩ n k l f.1 N a m c b o y (by omega) (by omega) (growslice_fits (by omega) H);rw [B] at d;simp only [Result.ok.injEq] at d;rw [d.2];exact Ac O (((Ab.refl (fun _=>False) w).drew).alloc _) (fun _ _ q=>q)
theorem fX(g a j:Nat):(⟨g,a,none⟩:Addr).add j=⟨g,a+j,none⟩:=by
 simp only [Addr.add];split
 ·rename_i b;subst b;rfl
 ·rfl
theorem fY{g b:Nat}{c:List Ln}{w:World}(h:Hm g b c w):∀j u,(c.flatMap eY)[j]? =some u→w.cell? ((⟨g,b,none⟩:Addr).add j)=some u:=by
 intro j u f;have m:j<c.length*6:=by
  have:=(List.getElem?_eq_some_iff.1 f).1;rw [List.length_flatMap] at this;have e:(c.map fun a=>(eY a).length).sum=c.length*6:=by
   clear this f h;induction c with
   | nil=>rfl
   | cons a l k=> rw [List.map_cons,List.sum_cons,k,List.length_cons];show 6+_=_;omega
  omega
 have d:j / 6<c.length:=by omega
 have e:=fH c (j / 6) d (j % 6) (by omega);rw [show j / 6*6+j % 6=j by omega,f] at e;rw [fX];have i:j % 6=0∨j % 6=1∨j % 6=2∨j % 6=3∨j % 6=4∨j % 6=5:=by omega
 rcases i with q | q | q | q | q | q<;>rw [q] at e
 ·rw [show b+j=b+j / 6*6 by omega,h.c0 _ d];exact e.symm
 ·rw [show b+j=b+j / 6*6+1 by omega,h.c1 _ d];exact e.symm
 ·rw [show b+j=b+j / 6*6+2 by omega,h.c2 _ d];exact e.symm
 ·rw [show b+j=b+j / 6*6+3 by omega,h.c3 _ d];exact e.symm
 ·rw [show b+j=b+j / 6*6+4 by omega,h.c4 _ d];exact e.symm
 ·rw [show b+j=b+j / 6*6+5 by omega,h.c5 _ d];exact e.symm
theorem gF(b:List Ln):(b.flatMap eY).length=b.length*6:=by
 induction b with
 | nil=>rfl
 | cons a l c=> rw [List.flatMap_cons,List.length_append,c,List.length_cons];show 6+_=_;omega
theorem fO(b:List Ln):∀u∈b.flatMap eY,u.oneCell'=true:=fun u a=>by obtain ⟨l,_,h⟩:=List.mem_flatMap.1 a;exact eZ l u h
theorem fK(w:World){R:Array Oper}{T:List Oper}{o:Oper}{a:Act}{Q:Exit→Act→World→Prop}(Y:o.guard=none)(s x:Operand)
 (L:o.op=.call {callee:=.builtin .append,args:=#[s,x],argTypes:=#[22,22]})(B:Nat)(v U:Value)(c b:List Ln)(N:a.eval s=v)(D:a.eval x=U)(m:eP B w v c)(hm:Wy U b w)(X:B≤w.heap.size)(a3:c.length+b.length≤1000)
 (h:∀i f,eP B f i (c++b)→eP B f v c→w.grownBy f v.ownBlock→(∀k,i.ownBlock=some k→v.ownBlock=some k∨w.heap.size≤k)→wpList Tryz.prog R Q T (a.put o.dst i) f):wpList Tryz.prog R Q (o::T) a w:=by
 obtain ⟨d,t,E,p,O⟩:=info_parts Tryz.infoLn;obtain ⟨F,e,rfl,a4,q⟩:=hm;have W:b=[]∨b≠[]:=by rcases b with _ | ⟨a,l⟩<;>simp
 refine wpList_plain Y fun K I=>?_
 rcases W with rfl | J
 ·obtain ⟨va,vc,rfl,a2⟩:=m.form;have a1:Src Tryz.prog d.size 22 (.slice F 0 e) 0 [] w:=by
   rcases F with _ | V
   ·exact Src.ofNil w Tryz.underlying22 e
   ·exact Src.ofSlice w Tryz.underlying22 V 0 e [] (by simp) (fun j u C=>by simp at C) (fun u C=>by simp at C)
  have n:=run_append_nothing (P:=Tryz.prog) w 22 22 o.type 44 d Tryz.underlying22 t va c.length vc a2 (.slice F 0 e) a1;unfold Oper.wp;simp only [List.length_nil] at D;simp [execOp,L,resolve,invoke,builtin,N,D,n,Result.andThen];exact I _ _ (h _ w (by rw [List.append_nil];exact m) m ⟨rfl,rfl,rfl,Nat.le_refl _,fun _ _ _=>rfl⟩ (fun k Z=>.inl Z))
 ·rcases q with q | ⟨g,G,rfl,r⟩
  ·exact absurd q J
  ·have a0:0<b.length:=by
    rcases b with _ | ⟨a,l⟩
    ·exact absurd rfl J
    ·simp
   have z:=gF b
   have A:=fY r
   have H:(c.length+b.length)*d.bytes≤140737488355328:=by rw [O];omega
   have y:c.length+b.length≤maxLen:=by unfold maxLen;omega
   have M:w.ownsRow B 44 d.size v c.length (c.flatMap eY):=by rw [p];exact m
   obtain ⟨i,f,n,r1,r2,_⟩:=run_append_own (P:=Tryz.prog) w B 22 o.type 44 d (.agg fI) 6 48 Tryz.underlying22 t E p O rfl (by decide) v c.length (c.flatMap eY) m ⟨g,G,none⟩ b.length e (b.flatMap eY) z A (fO b) y (by omega) X
   have r3:=Hq B 22 o.type 44 d (.agg fI) Tryz.underlying22 t E v c.length (c.flatMap eY) M ⟨g,G,none⟩ b.length e (b.flatMap eY) (by rw [p];exact z) A (fO b) a0 y H n
   have S:=fW B 22 o.type 44 d (.agg fI) Tryz.underlying22 t E v c.length (c.flatMap eY) M ⟨g,G,none⟩ b.length e (b.flatMap eY) (by rw [p];exact z) A (fO b) y H n
   rw [p] at S
   have r5:eP B f i (c++b):=by unfold eP;rw [List.length_append,List.flatMap_append];exact r1
   unfold Oper.wp
   simp [execOp,L,resolve,invoke,builtin,N,D,n,Result.andThen]
   exact I _ _ (h i f r5 S r2 r3)
theorem Tryz.kindOf(c a d e b:Nat)(v w):(Instr.field 39 (.agg #[.int .i64 c,.int .i64 a,.int .i64 d,.int .i64 e,.int .i64 b,.int .i64 b,.int .i64 0,v]) 1).run Tryz.prog w=.ok (.int .i64 a) w:=by kernel_rfl
def gI(l:Ln):Bool:=decide (AK l.a1 10=0∨AK l.a1 10=8)
def gC(v:Value)(b:List Int)(w:World):Prop:=∃(a:Option Addr) (d:Nat),v=.slice a b.length d∧(b=[]∨∃g c,a=some ⟨g,c,none⟩∧g<w.heap.size∧∀i (h:i<b.length),w.cell? ⟨g,c+i,none⟩=some (.int .i64 b[i]))
theorem gC.quiet{v d}{w f:World}(h:gC v d w)(k:Ab (fun _=>False) w f):gC v d f:=by obtain ⟨a,c,e,q⟩:=h;refine ⟨a,c,e,q.imp id ?_⟩;rintro ⟨g,m,j,b,r⟩;exact ⟨g,m,j,Nat.lt_of_lt_of_le b k.size,fun i l=>(World.cell?_of_block (k.block g b (fun q=>q))).trans (r i l)⟩
structure fV(B:Nat)(w:World)(x y:Value)(la lb:List Ln):Prop where
 a:eP B w x la
 b:eP B w y lb
 ne:∀k,x.ownBlock=some k→y.ownBlock≠some k
theorem fV.quiet{B w e a b c d}(h:fV B w a b c d)(k:Ab (fun _=>False) w e):fV B e a b c d:=⟨h.a.quiet k,h.b.quiet k,h.ne⟩
theorem fV.swap{B w}{a b:Value}{c d:List Ln}(h:fV B w a b c d):fV B w b a d c:=⟨h.b,h.a,fun k e f=>h.ne k f e⟩
theorem fV.grow{B}{w W w':World}{a d b:Value}{o g i:List Ln}(h:fV B w a b o i)(e:Ab (fun _=>False) w W)(j:eP B w' d g)(l:W.grownBy w' a.ownBlock)(m:∀k,d.ownBlock=some k→a.ownBlock=some k∨W.heap.size≤k):fV B w' d b g i:=by
 have n:Ab (fun k=>a.ownBlock=some k) w w':=Ab.grown (e.mono fun _ _ q=>q.elim) l (fun _ c=>.inl c);refine ⟨j,Ac h.b n (fun k c q=>h.ne k q c),fun k c f=>?_⟩;rcases m k c with q | q
 ·exact h.ne k q f
 ·have:=(h.b.lt k f).2;have:=e.size;omega
structure gB(B:Nat)(w:World)(o y z:Value)(lx ly lz:List Ln):Prop where
 x:eP B w o lx
 yz:fV B w y z ly lz
 ny:∀k,o.ownBlock=some k→y.ownBlock≠some k
 nz:∀k,o.ownBlock=some k→z.ownBlock≠some k
theorem gB.quiet{B}{w d:World}{x y z:Value}{a b c:List Ln}(h:gB B w x y z a b c)(k:Ab (fun _=>False) w d):gB B d x y z a b c:=⟨h.x.quiet k,h.yz.quiet k,h.ny,h.nz⟩
theorem gB.grow{B}{w W w':World}{x y c z:Value}{f n g i:List Ln}(h:gB B w x y z f n i)(b:Ab (fun _=>False) w W)(m:eP B w' c g)(d:W.grownBy w' y.ownBlock)(e:∀k,c.ownBlock=some k→y.ownBlock=some k∨W.heap.size≤k):gB B w' x c z f g i:=by
 have l:Ab (fun k=>y.ownBlock=some k) w w':=Ab.grown (b.mono fun _ _ q=>q.elim) d (fun _ a=>.inl a);refine ⟨Ac h.x l (fun k a q=>h.ny k a q),h.yz.grow b m d e,fun k a j=>?_,h.nz⟩;rcases e k j with q | q
 ·exact h.ny k a q
 ·have:=(h.x.lt k a).2;have:=b.size;omega
theorem gB.new{B}{w d b:World}{x y z l c:Value}{n o u p:List Ln}(h:gB B w x y z n o u)(e:Ab (fun _=>False) w d)(f:∀k,l.ownBlock=some k→w.heap.size≤k)(t:eP B b c p)(r:d.grownBy b l.ownBlock)(s:∀k,c.ownBlock=some k→l.ownBlock=some k∨d.heap.size≤k):gB B b x y c n o p:=by
 have g:Ab (fun k=>w.heap.size≤k) w b:=Ab.grown (e.mono fun _ _ q=>q.elim) r (fun k a=>.inl (f k a));have i:=h.x.lt;have j:=h.yz.a.lt;have m:∀k,c.ownBlock=some k→w.heap.size≤k:=fun k a=>by
  rcases s k a with q | q
  ·exact f k q
  ·exact Nat.le_trans e.size q
 refine ⟨Ac h.x g (fun k a q=>by have:=(i k a).2;omega),⟨Ac h.yz.a g (fun k a q=>by have:=(j k a).2;omega),t,fun k a q=>?_⟩,h.ny,fun k a q=>?_⟩
 ·have:=(j k a).2;have:=m k q;omega
 ·have:=(i k a).2;have:=m k q;omega
structure gE(x y:Ln):Prop where
 a0:y.a0=x.a0
 a1:y.a1=x.a1
 a2:y.a2=x.a2
 a3:y.a3=x.a3
 a4:y.a4=x.a4
theorem gE.sm{x y:Ln}(h:gE x y)(n:Nat):SmS (Qt x,n) (Qt y,n):=by obtain ⟨f,g,i,j,k,l⟩:=x;obtain ⟨m,o,p,q,r,s⟩:=y;obtain ⟨a,b,c,d,e⟩:=h;simp only at a b c d e;subst a b c d e;exact ⟨rfl,rfl,rfl,rfl,rfl,rfl,rfl,rfl⟩
theorem gE.symm{x y:Ln}(h:gE x y):gE y x:=⟨h.a0.symm,h.a1.symm,h.a2.symm,h.a3.symm,h.a4.symm⟩
structure gD(R rs D:List Ln):Prop where
 a:∀x,x∈R→x∈rs∨∃y,y∈D∧gE x y
 b:∀y,y∈D→y.Ok∧∃x,x∈R∧gE x y
 c:∀x,x∈rs→x∈R
theorem gD.start(R:List Ln):gD R R []:=⟨fun _ h=>.inl h,fun _ h=>absurd h List.not_mem_nil,fun _ h=>h⟩
theorem gD.step{R a D:List Ln}(h:gD R a D){c:Nat}(j:c<a.length){y:Ln}(i:y.Ok)(f:gE a[c] y):gD R (a.take c++a.drop (c+1)) (D++[y]):=by
 have e:a=a.take c++(a[c]::a.drop (c+1)):=by rw [List.getElem_cons_drop,List.take_append_drop]
 refine ⟨fun x b=>?_,fun z d=>?_,fun x b=>?_⟩
 ·rcases h.a x b with q | ⟨z,d,g⟩
  ·rw [e] at q;rcases List.mem_append.1 q with q | q
   ·exact .inl (List.mem_append_left _ q)
   ·rcases List.mem_cons.1 q with q | q
    ·exact .inr ⟨y,List.mem_append_right _ (List.mem_singleton.2 rfl),by rw [q];exact f⟩
    ·exact .inl (List.mem_append_right _ q)
  ·exact .inr ⟨z,List.mem_append_left _ d,g⟩
 ·rcases List.mem_append.1 d with q | q
  ·exact h.b z q
  ·rw [List.mem_singleton.1 q];exact ⟨i,a[c],h.c _ (List.getElem_mem _),f⟩
 ·rcases List.mem_append.1 b with q | q
  ·exact h.c x (List.mem_of_mem_take q)
  ·exact h.c x (List.mem_of_mem_drop q)
theorem gD.reo{A R D:List Ln}(h:gD R [] D)(m:∀l,l∈R→l.Ok∧gI l=false):gG (A.map Qt) (R.map Qt) (D.map Qt)∧gG (A.map Qt) (D.map Qt) (R.map Qt):=by
 have d:∀s,s∈R.map Qt→s.kind≠0∧s.kind≠8∧s.aW<4:=fun s b=>by obtain ⟨l,a,rfl⟩:=List.mem_map.1 b;have:=(m l a).2;unfold gI at this;have:=of_decide_eq_false this;exact ⟨fun q=>this (.inl q),fun q=>this (.inr q),(Xv l).aW⟩
 have j:∀s,s∈D.map Qt→s.kind≠0∧s.kind≠8∧s.aW<4:=fun s b=>by obtain ⟨l,a,rfl⟩:=List.mem_map.1 b;obtain ⟨_,x,c,e⟩:=h.b l a;have k:=d _ (List.mem_map_of_mem (f:=Qt) c);have g:=(e.sm 0).kind;have i:=(e.sm 0).aW;simp only at g i;rw [g,i];exact k
 refine ⟨⟨d,j,fun s b=>?_⟩,⟨j,d,fun s b=>?_⟩⟩
 ·obtain ⟨l,a,rfl⟩:=List.mem_map.1 b;rcases h.a l a with q | ⟨y,n,e⟩
  ·exact absurd q List.not_mem_nil
  ·exact ⟨Qt y,List.mem_map_of_mem n,e.sm 0⟩
 ·obtain ⟨l,a,rfl⟩:=List.mem_map.1 b;obtain ⟨_,x,c,e⟩:=h.b l a;exact ⟨Qt x,List.mem_map_of_mem c,e.symm.sm 0⟩
theorem gH(x:Int):GO (wrap64 x):=by unfold GO wrap64;omega
theorem gA{α:Type}{l:List α}{k:Nat}(h:k≤l.length)(a:k≤60)(b:¬(k<l.length∧k<60)):l.take k=l.take 60:=by
 by_cases q:k<l.length
 ·rw [show k=60 by omega]
 ·rw [List.take_of_length_le (by omega),List.take_of_length_le (by omega)]
theorem fU(B0:Nat)(j3 w:World)(h:Nf B0 j3 w)(lv ov:Value)(m:List Ln)(ns:List Int)(X:Wy lv m w)(hm:gC ov ns w)(p4:∀l∈m,l.Ok)(p5:∀n∈ns,GO n):
 Calls Tryz.prog 6 #[lv,ov] w fun e w'=>e=.returned (.bool true)∧Ab (fun _=>False) w w':=by
 have HL:=Aa X;have HM:=Aa hm;have HH:=Aa h;have f9:=Aa p4;have r0:=Aa p5;obtain ⟨la,lc,rfl,r8,s4⟩:=X;obtain ⟨oa,oc,rfl,s5⟩:=hm;clear h p4 p5 s4 s5;obtain ⟨nl,i4⟩:∃n,m.length=n:=⟨_,rfl⟩;obtain ⟨no,e4⟩:∃n,ns.length=n:=⟨_,rfl⟩;have f0:=Aa i4;have q8:=Aa e4;rw [i4] at r8⊢;rw [e4];clear i4 e4;have t5:=Tryz.kindOf;obtain ⟨i0,h9,j0,j1,j2⟩:=info_parts Tryz.infoLn;go_enter Tryz.func6,Tryz.ntmps6;go_wp2_with fail;go_loopw [5,6,7] (fun ah re i wr=>∃(k:Nat),k≤nl∧k≤60∧i=.int .i64 k∧dN (fV w.heap.size wr ah re ((m.take k).filter gI) ((m.take k).filter fun l=>!gI l))∧dN (Ab (fun _=>False) w wr)) (fun _ _ i _=>60-(intOf i).toNat)
 case atStart=>exact ⟨0,by omega,by omega,rfl,⟨eP.nil _ _,eP.nil _ _,fun k q=>by cases q⟩,Ab.refl _ _⟩
 case round=>
  obtain ⟨k,n6,n7,rfl,r,H⟩:=hrel;have s6:((m.take k).filter gI).length≤60:=Nat.le_trans (List.length_filter_le _ _) (by rw [List.length_take];omega);have s7:((m.take k).filter fun l=>!gI l).length≤60:=Nat.le_trans (List.length_filter_le _ _) (by rw [List.length_take];omega);obtain ⟨va,vc,rfl,s3⟩:=r.o.a.form;obtain ⟨ra,rc,rfl,f3⟩:=r.o.b.form;obtain ⟨na,i2⟩:∃n,((m.take k).filter gI).length=n:=⟨_,rfl⟩;obtain ⟨nb,i3⟩:∃n,((m.take k).filter fun l=>!gI l).length=n:=⟨_,rfl⟩;have a0:=Aa i2;have a3:=Aa i3;rw [i2] at s3 s6 r⊢;rw [i3] at f3 s7 r⊢;clear i2 i3;go_upto_region 4 with fail;go_cut [28] (fun v wx=>v=.bool (decide (k<nl∧k<60))∧dN (wx=wr))
  case first=>
   by_cases h1:k<nl
   ·have t1:decide ((k:Int)<(nl:Int))=true:=by simp;omega
    by_cases h2:k<60
    ·have t2:decide ((k:Int)<60)=true:=by simp;omega
     have t3:decide (k<nl∧k<60)=true:=decide_eq_true ⟨h1,h2⟩;go_wp2_with fail;go_meet
     case rel=>exact ⟨by rw [t3],rfl⟩
    ·have t2:decide ((k:Int)<60)=false:=by simp;omega
     have t3:decide (k<nl∧k<60)=false:=decide_eq_false fun q=>h2 q.2
     go_wp2_with fail;go_meet
     case rel=>exact ⟨by rw [t3],rfl⟩
   ·have t1:decide ((k:Int)<(nl:Int))=false:=by simp;omega
    have t3:decide (k<nl∧k<60)=false:=decide_eq_false fun q=>h1 q.1
    go_wp2_with fail;go_meet
    case rel=>exact ⟨by rw [t3],rfl⟩
  case rest=>
  obtain ⟨rfl,Q⟩:=hcut;have b7:=Q.o.symm;subst b7;clear Q;by_cases b3:k<nl∧k<60
  ·rw [show decide (k<nl∧k<60)=true from decide_eq_true b3];have u:k<m.length:=by rw [f0.o];exact b3.1
   obtain ⟨g,u2,rfl,C,lg⟩:=Wy.get (HL.o.quiet H.o) u;have d0:=C.c0 k u;have d1:=C.c1 k u;have d2:=C.c2 k u;have d3:=C.c3 k u;have d4:=C.c4 k u;have d5:=C.c5 k u;have a5:dN (m.take (k+1)=m.take k++[m[k]]):=List.take_succ_eq_append_getElem u;have b9:=Aa (f9.o _ (List.getElem_mem u));obtain ⟨d,a7⟩:∃x,m[k]=x:=⟨_,rfl⟩;rw [a7] at d0 d1 d2 d3 d4 d5 a5 b9;have t6:=b3.1;have f4:=H.o.size;clear C a7 u;go_wp2_with fail;refine (PW d b9.o wr).mono ?_;rintro e w1 ⟨mv,rfl,_,O⟩;obtain ⟨B,i8⟩:∃p,AK d.a1 10=p:=⟨_,rfl⟩;have l0:=Aa i8;unfold Z8;rw [i8];clear i8;have T1:=Aa (r.o.quiet O);have I:=Aa (H.o.trans O);have L1:=Aa (HL.o.quiet I.o);clear r H d0 d1 d2 d3 d4 d5 lg O f4;go_upto_region 7 with fail;go_cut [42] (fun v wx=>v=.bool (decide (B=0∨B=8))∧dN (wx=w1))
   case first=>
    by_cases h1:B=0
    ·have t1:((B:Int)==0)=true:=by simp [h1]
     have t3:decide (B=0∨B=8)=true:=decide_eq_true (.inl h1);clear h1;go_wp2_with fail;go_meet
     case rel=>exact ⟨by rw [t3],rfl⟩
    ·have t1:((B:Int)==0)=false:=by simp;omega
     by_cases h2:B=8
     ·have t2:((B:Int)==8)=true:=by simp [h2]
      have t3:decide (B=0∨B=8)=true:=decide_eq_true (.inr h2);clear h1 h2;go_wp2_with fail;go_meet
      case rel=>exact ⟨by rw [t3],rfl⟩
     ·have t2:((B:Int)==8)=false:=by simp;omega
      have t3:decide (B=0∨B=8)=false:=decide_eq_false fun q=>q.elim h1 h2
      go_wp2_with fail;go_meet
      case rel=>exact ⟨by rw [t3],rfl⟩
   case rest=>
   obtain ⟨rfl,Q⟩:=hcut;have b7:=Q.o.symm;subst b7;clear Q;have u:k<m.length:=by rw [f0.o];exact b3.1
   obtain ⟨g',u3,n5,C,lg⟩:=Wy.get L1.o u;simp only [Option.some.injEq,Addr.mk.injEq,and_true] at n5;obtain ⟨rfl,rfl⟩:=n5;have d0:=C.c0 k u;have d1:=C.c1 k u;have d2:=C.c2 k u;have d3:=C.c3 k u;have d4:=C.c4 k u;have d5:=C.c5 k u;have a7:m[k]=d:=by have e:=a5.o;rw [List.take_succ_eq_append_getElem u] at e;simpa using List.append_cancel_left e
   rw [a7] at d0 d1 d2 d3 d4 d5;have f4:=I.o.size;clear C a7 u;by_cases a6:B=0∨B=8
   ·rw [show decide (B=0∨B=8)=true from decide_eq_true a6];have hA:gI d=true:=by unfold gI;rw [l0.o];exact decide_eq_true a6
    have c6:dN ((m.take (k+1)).filter gI=(m.take k).filter gI++[d]):=by show _=_;rw [a5.o,List.filter_append,List.filter_cons,hA];rfl
    have c7:dN ((m.take (k+1)).filter (fun l=>!gI l)=(m.take k).filter fun l=>!gI l):=by show _=_;rw [a5.o,List.filter_append,List.filter_cons,hA];simp
    clear hA a6;have J:=T1.o.a;unfold eP at J;rw [a0.o] at J;have a4:=Aa J;clear J;go_wp2_with (at_builtin;refine EG _ rfl _ _ 22 rfl w.heap.size 44 i0 (.agg fI) 6 48 Tryz.underlying22 h9 j0 j1 j2 rfl (by decide) _ _ _ rfl (a4.o.alloc _) ⟨w1.heap.size,0,none⟩ 1 1 (eY d) rfl rfl (A5 rfl _ _) (eZ _) (by decide) (by unfold maxLen;omega) (by omega) (by simp;omega) ?_;intro v' o b0 W a9);have R1:eP w.heap.size o v' ((m.take (k+1)).filter gI):=by rw [c6.o];refine eP.snoc ?_;rw [a0.o];exact b0
    have T2:dN (fV w.heap.size o v' (.slice ra nb rc) ((m.take (k+1)).filter gI) ((m.take (k+1)).filter fun l=>!gI l)):=by show fV _ _ _ _ _ _;rw [c7.o];exact T1.o.grow ((Ab.refl _ _).alloc _) R1 W a9
    have O2:=Aa (eR T1.o.a I.o ((Ab.refl _ _).alloc _) W);clear T1 I L1 b0 W a9 d0 d1 d2 d3 d4 d5 a4 a5 R1 c6 c7;go_wp2_with fail;go_roundw
    case rel=>exact ⟨k+1,by omega,by omega,by go_num,T2,O2⟩
    case measure=>simp [intOf];omega
   ·rw [show decide (B=0∨B=8)=false from decide_eq_false a6];have hA:gI d=false:=by unfold gI;rw [l0.o];exact decide_eq_false a6
    have c6:dN ((m.take (k+1)).filter (fun l=>!gI l)=(m.take k).filter (fun l=>!gI l)++[d]):=by show _=_;rw [a5.o,List.filter_append,List.filter_cons,hA];rfl
    have c7:dN ((m.take (k+1)).filter gI=(m.take k).filter gI):=by show _=_;rw [a5.o,List.filter_append,List.filter_cons,hA];simp
    clear hA a6;have J:=T1.o.b;unfold eP at J;rw [a3.o] at J;have a4:=Aa J;clear J;go_wp2_with (at_builtin;refine EG _ rfl _ _ 22 rfl w.heap.size 44 i0 (.agg fI) 6 48 Tryz.underlying22 h9 j0 j1 j2 rfl (by decide) _ _ _ rfl (a4.o.alloc _) ⟨w1.heap.size,0,none⟩ 1 1 (eY d) rfl rfl (A5 rfl _ _) (eZ _) (by decide) (by unfold maxLen;omega) (by omega) (by simp;omega) ?_;intro v' o b0 W a9);have R1:eP w.heap.size o v' ((m.take (k+1)).filter fun l=>!gI l):=by rw [c6.o];refine eP.snoc ?_;rw [a3.o];exact b0
    have T2:dN (fV w.heap.size o (.slice va na vc) v' ((m.take (k+1)).filter gI) ((m.take (k+1)).filter fun l=>!gI l)):=by show fV _ _ _ _ _ _;rw [c7.o];exact (T1.o.swap.grow ((Ab.refl _ _).alloc _) R1 W a9).swap
    have O2:=Aa (eR T1.o.b I.o ((Ab.refl _ _).alloc _) W);clear T1 I L1 b0 W a9 d0 d1 d2 d3 d4 d5 a4 a5 R1 c6 c7;go_wp2_with fail;go_roundw
    case rel=>exact ⟨k+1,by omega,by omega,by go_num,T2,O2⟩
    case measure=>simp [intOf];omega
  ·have m0:=Aa (gA (α:=Ln) (l:=m) (k:=k) (by rw [f0.o];exact n6) n7 (by rw [f0.o];exact b3));rw [show decide (k<nl∧k<60)=false from decide_eq_false b3];rw [m0.o] at r a0 a3;clear m0 b3;have q3:dN (na+nb≤60):=by
    show _≤_;rw [←a0.o,←a3.o];have e:∀l:List Ln,(l.filter gI).length+(l.filter fun l=>!gI l).length=l.length:=fun l=>by
     induction l with
     | nil=>rfl
     | cons a l ih=>rw [List.filter_cons,List.filter_cons];cases gI a<;>simp<;>omega
    rw [e,List.length_take];omega
   have e8:dN (∀l∈(m.take 60).filter gI,l.Ok):=fun l X=>f9.o l (List.mem_of_mem_take (List.mem_filter.1 X).1)
   have d6:dN (∀l∈(m.take 60).filter (fun l=>!gI l),l.Ok∧gI l=false):=fun l X=>⟨f9.o l (List.mem_of_mem_take (List.mem_filter.1 X).1),by have:=(List.mem_filter.1 X).2;simpa using this⟩
   obtain ⟨A,hA⟩:∃x,(m.take 60).filter gI=x:=⟨_,rfl⟩;obtain ⟨R,hR⟩:∃x,(m.take 60).filter (fun l=>!gI l)=x:=⟨_,rfl⟩;rw [hA] at r a0 e8;rw [hR] at r a3 d6;clear hA hR n6 n7;have a6:=q3.o;have b1:=H.o.size;have m8:A.length+R.length≤1000:=by rw [a0.o,a3.o];omega
   go_upto_region 11 with (at_builtin;refine fK _ rfl (.tmp 57) (.tmp 58) rfl w.heap.size _ _ A R rfl rfl r.o.a r.o.b.at b1 m8 ?_;intro ov o c4 n1 h6 p0);have S:dN (fV w.heap.size o ov (.slice ra nb rc) (A++R) R):=r.o.grow (Ab.refl _ _) c4 h6 p0;have O5:=Aa (eR r.o.a H.o (Ab.refl _ _) h6);have j4:=Aa n1.at;have n0:([]:List Ln).length+A.length≤1000:=by simp;omega
   have m6:=O5.o.size;have c8:=Aa (eP.nil w.heap.size o);clear c4 n1 h6 p0 r H b1 m8;go_upto_region 13 with (at_builtin;refine fK _ rfl (.tmp 60) (.tmp 61) rfl w.heap.size _ _ [] A rfl rfl c8.o j4.o m6 n0 ?_;intro tv w6 q0 d8 c3 e0);have T6:dN (gB w.heap.size w6 ov tv (.slice ra nb rc) (A++R) A R):=by
    have ho:Ab (fun _=>False) o w6:=Ab.grown (Ab.refl _ _) c3 (fun k q=>by cases q);have p3:∀k,tv.ownBlock=some k→o.heap.size≤k:=fun k G=>(e0 k G).elim (fun q=>by cases q) id
    refine ⟨S.o.a.quiet ho,⟨q0,S.o.b.quiet ho,fun k G q=>?_⟩,fun k G q=>?_,S.o.ne⟩
    ·have:=(S.o.b.lt k q).2;have:=p3 k G;omega
    ·have:=(S.o.a.lt k G).2;have:=p3 k q;omega
   have O6:dN (Ab (fun _=>False) w w6):=Ab.grown O5.o c3 (fun k q=>by cases q);clear d8 q0 c3 e0 S O5 j4 c8 n0 m6;go_wp2_with fail;go_loopw [6,10,11] (fun re tw i wr=>∃(t D:List Ln) (E K:Nat),i=.int .i64 K∧E+K=nb∧dN (t.length=E)∧dN (D.length=K)∧dN (gB w.heap.size wr ov tw re (A++R) (A++D) t)∧dN (gD R t D)∧dN (Ab (fun _=>False) w wr)) (fun _ _ i _=>60-(intOf i).toNat)
   case atStart=>exact ⟨R,[],nb,0,rfl,rfl,a3,(rfl:_=_),(by rw [List.append_nil];exact T6.o:gB _ _ _ _ _ _ _ _),gD.start R,O6⟩
   case round=>
    clear T6 O6;obtain ⟨t,D,E,K,rfl,t7,a1,HD,r,HI,H⟩:=hrel;obtain ⟨ra,rc,p6,f3⟩:=r.o.yz.b.form;rw [a1.o] at p6 f3;subst p6;have f4:=H.o.size;by_cases f2:0<E
    ·have tg:decide ((0:Int)<(E:Int))=true:=by simp;omega
     go_upto_if 70 with fail;go_cut [12] (fun c wx=>∃f:Nat,f<E∧c=.int .i64 f∧dN (wx=wr))
     case first=>
      by_cases e4:0<no
      ·have t1:decide ((0:Int)<(no:Int))=true:=by simp;omega
       have o7:K % no<no:=Nat.mod_lt _ e4;have d9:K % no<ns.length:=by rw [q8.o];exact o7
       obtain ⟨u0,u1,e1,q⟩:=HM.o.quiet H.o;simp only [Value.slice.injEq] at e1;rcases q with q | ⟨og,u4,e2,t8,n3⟩
       ·rw [q] at d9;simp at d9
       ·have e3:=e1.1.trans e2;subst e3;have q2:=n3 (K % no) d9;have i6:=r0.o _ (List.getElem_mem d9);obtain ⟨z,hz⟩:∃x,ns[K % no]=x:=⟨_,rfl⟩;rw [hz] at q2 i6;have s0:Int.tmod (K:Int) (no:Int)=((K % no:Nat):Int):=by rw [Int.ofNat_tmod]
        obtain ⟨md,N⟩:∃x,K % no=x:=⟨_,rfl⟩;rw [N] at s0 q2 o7;clear n3 e1 hz N d9;go_wp2_with (first | (go_at_call 13;refine (Dr z E i6.1 i6.2 f2 (by omega) _).mono ?_;rintro e w' ⟨rfl,hw⟩;have hw:=hw.symm;subst hw));go_meet
        case rel=>exact ⟨AK z E,Bz _ _ f2,rfl,rfl⟩
      ·have t1:decide ((0:Int)<(no:Int))=false:=by simp;omega
       go_wp2_with fail;go_meet
       case rel=>exact ⟨0,f2,rfl,rfl⟩
     case rest=>
      obtain ⟨f,n4,rfl,Q⟩:=hcut;have b7:=Q.o.symm;subst b7;clear Q;have d7:f<t.length:=by rw [a1.o];exact n4
      obtain ⟨rg,rfl⟩:=AA r.o.yz.b (by rw [a1.o];exact f2);have e6:=(r.o.yz.b.lt rg rfl).2;have hB:wr.ownsRow w.heap.size 44 6 (.slice (some ⟨rg,0,none⟩) E rc) E (t.flatMap eY):=by have q:=r.o.yz.b;unfold eP at q;rw [a1.o] at q;exact q
      have kc:∀j,j<6→wr.cell? ⟨rg,f*6+j,none⟩=(eY t[f])[j]? :=fun j hj=>by rw [hB.cellAt (f*6+j) (show f*6+j<E*6 by omega),fH t f d7 j hj]
      clear hB;have b9:=Aa (HI.o.c _ (List.getElem_mem d7));have g0:dN (∀y:Ln,y.Ok→gE t[f] y→gD R (t.take f++t.drop (f+1)) (D++[y])):=fun y h1 h2=>HI.o.step d7 h1 h2
      obtain ⟨d,a7⟩:∃x,t[f]=x:=⟨_,rfl⟩;rw [a7] at kc b9 g0;have d0:=kc 0 (by omega);have d1:=kc 1 (by omega);have d2:=kc 2 (by omega);have d3:=kc 3 (by omega);have d4:=kc 4 (by omega);have d5:=kc 5 (by omega);simp only [eY,dJ,dK,Nat.add_zero] at d0 d1 d2 d3 d4 d5;have i1:=(d6.o d b9.o).1;have k5:=i1.k5;have b8:=Aa i1;clear kc a7 i1;go_upto_region 20 with fail;go_cut [] (fun wx=>∃b:Int,GO b∧dN (wx=wr.alloc (.cells #[.int .i64 d.a0,.int .i64 d.a1,.int .i64 d.a2,.int .i64 d.a3,.int .i64 d.a4,.int .i64 b] 44)))
      case first=>
       go_wp2_with fail;go_meet
       case rel=>exact ⟨_,gH _,rfl⟩
      case rest=>
       obtain ⟨b5,n2,Q⟩:=hcut;have b7:=Q.o;subst b7;clear Q d0 d1 d2 d3 d4 d5;obtain ⟨ta,tc,p9,p8⟩:=r.o.yz.a.form;have g8:(A++D).length=na+K:=by rw [List.length_append,a0.o,HD.o]
       have f5:=Aa g8;rw [g8] at p9 p8;subst p9;clear g8;have J:=r.o.yz.a;unfold eP at J;rw [f5.o] at J;have a4:=Aa J;clear J;go_upto_region 22 with (at_builtin;refine EG _ rfl _ _ 22 rfl w.heap.size 44 i0 (.agg fI) 6 48 Tryz.underlying22 h9 j0 j1 j2 rfl (by decide) _ _ _ rfl ((a4.o.alloc _).alloc _) ⟨wr.heap.size+1,0,none⟩ 1 1 (eY ⟨d.a0,d.a1,d.a2,d.a3,d.a4,b5⟩) rfl rfl (A5 (by simp) _ _) (eZ _) (by decide) (by unfold maxLen;omega) (by omega) (by simp;omega) ?_;intro v' o b0 W a9);have l8:=Aa (g0.o ⟨d.a0,d.a1,d.a2,d.a3,d.a4,b5⟩ ⟨b8.o.k0,b8.o.k1,b8.o.k2,b8.o.k3,b8.o.k4,n2⟩ ⟨rfl,rfl,rfl,rfl,rfl⟩);have R1:eP w.heap.size o v' (A++(D++[⟨d.a0,d.a1,d.a2,d.a3,d.a4,b5⟩])):=by rw [←List.append_assoc];refine eP.snoc ?_;rw [f5.o];exact b0
       obtain ⟨D2,g9⟩:∃x,D++[⟨d.a0,d.a1,d.a2,d.a3,d.a4,b5⟩]=x:=⟨_,rfl⟩;have q4:dN (D2.length=K+1):=by show _=_;rw [←g9,List.length_append,HD.o];rfl
       rw [g9] at R1 l8;have AA:=Aa (((Ab.refl (fun _=>False) wr).alloc (.cells #[.int .i64 d.a0,.int .i64 d.a1,.int .i64 d.a2,.int .i64 d.a3,.int .i64 d.a4,.int .i64 b5] 44)).alloc (.cells #[.int .i64 d.a0,.int .i64 d.a1,.int .i64 d.a2,.int .i64 d.a3,.int .i64 d.a4,.int .i64 b5] 44));have S:=Aa (r.o.grow AA.o R1 W a9);have O5:=Aa (eR r.o.yz.a H.o AA.o W);clear r H b0 W a9 R1 g9 a4 f5 AA g0 HI HD n2 b8 b9 k5 e6 f4 p8;have b1:=O5.o.size;have e6:=(S.o.yz.b.lt rg rfl).2;have o8:([]:List Ln).length+(t.take f).length≤1000:=by rw [List.length_take];simp;omega
       have c8:=Aa (eP.nil w.heap.size o);have C:Hm rg 0 t o:=by
        obtain ⟨a',c',e1,_,q⟩:=S.o.yz.b.at;rcases q with q | ⟨g2,o2,e2,r2⟩
        ·rw [q] at d7;simp at d7
        ·simp only [Value.slice.injEq] at e1;have e3:=e1.1.trans e2;simp only [Option.some.injEq,Addr.mk.injEq,and_true] at e3;rw [e3.1,e3.2];exact r2
       have l4:dN (Wy (.slice (some ⟨rg,0,none⟩) f rc) (t.take f) o):=⟨_,rc,by rw [List.length_take,Nat.min_eq_left (by omega)],by rw [List.length_take];omega,.inr ⟨rg,0,rfl,C.take e6 f⟩⟩;have l3:=Aa C;clear C;go_upto_region 24 with (at_builtin;refine fK _ rfl (.tmp 98) (.tmp 101) rfl w.heap.size _ _ [] (t.take f) rfl rfl c8.o l4.o b1 o8 ?_;intro lv w6 o5 d8 c3 e0);have o6:Ab (fun _=>False) o w6:=Ab.grown (Ab.refl _ _) c3 (fun k q=>by cases q);have f8:dN (∀k,lv.ownBlock=some k→o.heap.size≤k):=fun k G=>(e0 k G).elim (fun q=>by cases q) id
       have k7:=Aa o5;have g1:=Aa o6;have R6:=Aa (l3.o.O o6);have q1:rg<w6.heap.size:=Nat.lt_of_lt_of_le e6 o6.size;have m7:=Nat.le_trans b1 o6.size;have o4:([]++t.take f:List Ln).length+(t.drop (f+1)).length≤1000:=by rw [List.nil_append,List.length_take,List.length_drop,a1.o];omega
       have r7:f+1≤rc:=by omega
       have t4:f+1≤E:=n4;clear o5 d8 c3 e0 o6 l3 l4 c8 o8;have l5:dN (Wy (.slice (if rc=f+1 then some ⟨rg,0,none⟩ else some ⟨rg,(f+1)*6,none⟩) (E-(f+1)) (rc-(f+1))) (t.drop (f+1)) w6):=by
        have e:(t.drop (f+1)).length=E-(f+1):=by rw [List.length_drop,a1.o]
        refine ⟨_,_,by rw [e],by rw [e];omega,?_⟩;by_cases q:rc=f+1
        ·exact .inl (List.drop_of_length_le (by rw [a1.o];omega))
        ·have:=R6.o.drop q1 (f+1);rw [Nat.zero_add] at this;exact .inr ⟨rg,(f+1)*6,by rw [if_neg q],this⟩
       clear R6;go_upto_region 15 with (at_builtin;refine fK _ rfl (.tmp 103) (.tmp 107) rfl w.heap.size _ _ _ (t.drop (f+1)) rfl rfl k7.o l5.o m7 o4 ?_;intro rv M p7 d8 h7 p2);have T7:=Aa (S.o.new g1.o f8.o p7 h7 p2);rw [List.nil_append] at T7;have O7:dN (Ab (fun _=>False) w M):=Ab.grown (O5.o.trans g1.o) h7 (fun k G=>.inr (Nat.le_trans b1 (f8.o k G)));have q7:dN ((t.take f++t.drop (f+1)).length=E-1):=by show _=_;rw [List.length_append,List.length_take,List.length_drop,a1.o];omega
       clear p7 d8 h7 p2 S g1 f8 k7 l5 O5 e6 q1 r7 o4 m7 b1;go_wp2_with fail;go_roundw
       case rel=>exact ⟨t.take f++t.drop (f+1),D2,E-1,K+1,by go_num,by omega,q7,q4,T7,l8,O7⟩
       case measure=>simp [intOf];omega
    ·have tg:decide ((0:Int)<(E:Int))=false:=by simp;omega
     have r9:t=[]:=List.length_eq_zero_iff.1 (by rw [a1.o];omega);subst r9;have r4:=Aa (HI.o.reo (A:=A) d6.o);have k2:=Aa r.o.x.at;have k3:=Aa r.o.yz.a.at;have r1:dN (∀l∈A++R,l.Ok):=fun l X=>(List.mem_append.1 X).elim (e8.o l) (fun q=>(d6.o l q).1)
     have r3:dN (∀l∈A++D,l.Ok):=fun l X=>(List.mem_append.1 X).elim (e8.o l) (fun q=>(HI.o.b l q).1)
     have n8:(A++R).length≤60:=by rw [List.length_append,a0.o,a3.o];exact a6
     have o0:(A++D).length≤60:=by rw [List.length_append,a0.o,HD.o];omega
     have m2:IC (A++R)=A.map Qt++R.map Qt:=by unfold IC;rw [List.take_of_length_le n8,List.map_append]
     have m3:IC (A++D)=A.map Qt++D.map Qt:=by unfold IC;rw [List.take_of_length_le o0,List.map_append]
     have j6:dN (∀s,s∈A.map Qt→s.aW<4):=fun s hs=>by obtain ⟨l,_,rfl⟩:=List.mem_map.1 hs;exact (Xv l).aW
     have q5:=Aa m2;have q6:=Aa m3;clear m2 m3 n8 o0 r HI HD a1 f3 a0 a3 e8 d6;go_wp2_with fail;refine (Qm _ (A++R) wr k2.o r1.o).mono ?_;rintro e w1 ⟨⟨s,sv,rfl,hs,_,i9,_,e5⟩,O⟩;have N:=Zu hs (by omega);have Y:=Xk (A++R);obtain ⟨sa,sl,sc,rfl⟩:∃a l c,sv=.slice a l c:=by obtain ⟨a,c,e⟩:=e5.form;exact ⟨a,_,c,e⟩
     rw [RJ];rw [q5.o] at N Y⊢;obtain ⟨ss,b6⟩:∃x,A.map Qt++R.map Qt=x:=⟨_,rfl⟩;rw [b6] at N Y⊢;have h0:DS (Cd ss)≤240:=Nat.le_trans List.countP_le_length Y;have h8:DT (Cd ss)≤240:=Nat.le_trans List.countP_le_length Y;have k8:=Aa N;have r5:=Aa b6;obtain ⟨pl,b4⟩:∃x,DS (Cd ss)=x:=⟨_,rfl⟩;obtain ⟨ca,b2⟩:∃x,DT (Cd ss)=x:=⟨_,rfl⟩;have l1:=Aa b4;have j8:=Aa b2;rw [b4] at h0⊢;rw [b2] at h8⊢;have I:=Aa (H.o.trans O);have k4:=Aa (k3.o.quiet O);clear b6 e5 O N hs b4 b2 i9 Y H k2 k3;go_wp2_with fail;have a2:=Aa (My B0 j3 w1 (HH.o.go I.o) s ss k8.o (.slice sa sl sc) ⟨_,_,_,rfl⟩ (by rw [l1.o];exact h0) (by rw [j8.o];exact h8));rw [l1.o,j8.o] at a2;unfold Vs at a2;refine a2.o.mono ?_;rintro e o ⟨⟨P,mn,rp,vs,fv,ev,T,a8,i5,hy,rfl,Z,c5⟩,o3⟩;have c0:=Z.size;have c4:=all_oneCell_toArray Z.one;change (Fv vs fv ev).all _=true at c4;obtain ⟨V,h3⟩:∃x,Fv vs fv ev=x:=⟨_,rfl⟩;rw [h3] at c0 c4⊢;have k0:=Aa h3;have l6:=Aa Z;have e9:=Aa a8;have HY:=Aa hy;have l9:=Aa c5;have O3:=Aa (I.o.trans o3);have k6:=Aa (k4.o.quiet o3);clear a2 a8 i5 hy c5 Z o3 I k4 h3;have BN:=Aa (Ak.new o IK 33);have F:=Aa ((Ab.refl (fun _=>False) o).alloc (.cells IK 33));go_upto_region 26 with (refine wpList_store_mid rfl 33 (.tmp 16) (.tmp 114) rfl o.heap.size 0 V rfl rfl (IS BN.o (by rw [c0];rfl)) (by rw [Tryz.infoSets,c0]) c4 ?_);have L:=C9 o.heap.size V.toList 0 (o.alloc (.cells IK 33));have h4:Ab (fun _=>False) o ((o.alloc (.cells IK 33)).setCells o.heap.size 0 V.toList):=by refine ⟨L.os.trans F.o.os,L.tape.trans F.o.tape,L.output.trans F.o.output,Nat.le_trans F.o.size L.size,fun k G _=>?_⟩;rw [L.block k (Nat.lt_of_lt_of_le G F.o.size) (by omega)];exact F.o.block k G (fun q=>q)
     have N5:=Aa (IR (cs:=V) BN.o (by rw [c0];rfl));have O6:=Aa (O3.o.trans h4);have g3:=Aa (l6.o.i9 h4);have f7:=Aa (k6.o.quiet h4);clear BN F L h4 O3 l6 k6;generalize (o.alloc (.cells IK 33)).setCells o.heap.size 0 V.toList=w6 at N5 O6 g3 f7⊢;generalize o.heap.size=g6 at N5⊢;go_wp2_with fail;refine (Qm _ (A++D) w6 f7.o r3.o).mono ?_;rintro e w1 ⟨⟨s2,s9,rfl,hs,_,i9,_,e5⟩,O⟩;have N:=Zu hs (by omega);have Y:=Xk (A++D);obtain ⟨ta,tl,tc,rfl⟩:∃a l c,s9=.slice a l c:=by obtain ⟨a,c,e⟩:=e5.form;exact ⟨a,_,c,e⟩
     rw [RJ];rw [q6.o] at N Y⊢;obtain ⟨e7,b6⟩:∃x,A.map Qt++D.map Qt=x:=⟨_,rfl⟩;rw [b6] at N Y⊢;have m4:DS (Cd e7)≤240:=Nat.le_trans List.countP_le_length Y;have m5:DT (Cd e7)≤240:=Nat.le_trans List.countP_le_length Y;have k9:=Aa N;have r6:=Aa b6;obtain ⟨u5,b4⟩:∃x,DS (Cd e7)=x:=⟨_,rfl⟩;obtain ⟨t0,b2⟩:∃x,DT (Cd e7)=x:=⟨_,rfl⟩;have l2:=Aa b4;have j9:=Aa b2;rw [b4] at m4⊢;rw [b2] at m5⊢;have I:=Aa (O6.o.trans O);have N1:=Aa (N5.o.O O (fun q=>q));have f1:=Aa (g3.o.i9 O);clear b6 e5 O N hs b4 b2 i9 Y O6 N5 g3 f7;go_wp2_with fail;have a2:=Aa (My B0 j3 w1 (HH.o.go I.o) s2 e7 k9.o (.slice ta tl tc) ⟨_,_,_,rfl⟩ (by rw [l2.o];exact m4) (by rw [j9.o];exact m5));rw [l2.o,j9.o] at a2;unfold Vs at a2;refine a2.o.mono ?_;rintro e M ⟨⟨P2,t9,u6,us,fu,eu,U,a8,i5,hy,rfl,Z,c5⟩,o3⟩;have c2:=Z.size;have i7:=all_oneCell_toArray Z.one;change (Fv us fu eu).all _=true at i7;obtain ⟨ds,h5⟩:∃x,Fv us fu eu=x:=⟨_,rfl⟩;rw [h5] at c2 i7⊢;have k1:=Aa h5;have l7:=Aa Z;have j7:dN (eE T U∧eE U T):=by obtain ⟨e1,e2⟩:=r4.o;have s1:=e1.sub j6.o;have s2:=e2.sub j6.o;have c1:=e1.cn;rw [r5.o,r6.o] at s1 s2 c1;exact ⟨eH e9.o a8 HY.o l9.o f1.o.t16 c5 Z.t16 (eD e9.o a8 k8.o.ok s1) (by omega) (by omega),eH a8 e9.o hy c5 Z.t16 l9.o f1.o.t16 (eD a8 e9.o k9.o.ok s2) (by omega) (by omega)⟩
     have O7:=Aa (I.o.trans o3);have N7:=Aa (N1.o.O o3 (fun q=>q));have m1:=Aa (f1.o.i9 o3);clear a2 a8 i5 hy c5 Z o3 I N1 f1 h5;have BN:=Aa (Ak.new M IK 33);have F:=Aa ((Ab.refl (fun _=>False) M).alloc (.cells IK 33));go_upto_region 27 with (refine wpList_store_mid rfl 33 (.tmp 19) (.tmp 121) rfl M.heap.size 0 ds rfl rfl (IS BN.o (by rw [c2];rfl)) (by rw [Tryz.infoSets,c2]) i7 ?_);have L:=C9 M.heap.size ds.toList 0 (M.alloc (.cells IK 33));have h4:Ab (fun _=>False) M ((M.alloc (.cells IK 33)).setCells M.heap.size 0 ds.toList):=by refine ⟨L.os.trans F.o.os,L.tape.trans F.o.tape,L.output.trans F.o.output,Nat.le_trans F.o.size L.size,fun k G _=>?_⟩;rw [L.block k (Nat.lt_of_lt_of_le G F.o.size) (by omega)];exact F.o.block k G (fun q=>q)
     have M7:=Aa (IR (cs:=ds) BN.o (by rw [c2];rfl));have N8:=Aa (N7.o.O h4 (fun q=>q));have O8:=Aa (O7.o.trans h4);have g4:=Aa (m1.o.i9 h4);have g5:=Aa (l7.o.i9 h4);clear BN F L h4 N7 O7 m1 l7;generalize (M.alloc (.cells IK 33)).setCells M.heap.size 0 ds.toList=w8 at M7 N8 O8 g4 g5⊢;generalize M.heap.size=g7 at M7⊢;have f6:=Aa (eF vs us fv ev fu eu T U w8 g4.o g5.o j7.o.1);rw [k0.o,k1.o] at f6;have j5:dN (∀w9,Ab (fun _=>False) w8 w9→Ak g6 V 33 w9∧Ak g7 ds 33 w9∧Calls Tryz.prog 15 #[.agg ds,.agg V] w9 fun e w'=>e=.returned (.bool true)∧Ab (fun _=>False) w9 w'):=fun w9 o9=>by have:=eF us vs fu eu fv ev U T w9 (g5.o.i9 o9) (g4.o.i9 o9) j7.o.2;rw [k0.o,k1.o] at this;exact ⟨N8.o.O o9 (fun q=>q),M7.o.O o9 (fun q=>q),this⟩
     go_wp2_with (first
      | (have q9:=n9;refine eV (by rfl) (.tmp 16) rfl g6 rfl V c0 q9 ?_;clear q9)
      | (have q9:=m9;refine eV (by rfl) (.tmp 19) rfl g7 rfl ds c2 q9 ?_;clear q9)
      | (have q9:=c9;go_at_call 15;refine q9.mono ?_;rintro e u7 ⟨rfl,s8⟩;clear q9)
      | (refine eV (by rfl) (.tmp 16) rfl g6 rfl V c0 N8.o ?_)
      | (refine eV (by rfl) (.tmp 19) rfl g7 rfl ds c2 M7.o ?_)
      | (go_at_call 15;refine f6.o.mono ?_;rintro e w9 ⟨rfl,o9⟩;obtain ⟨n9,m9,c9⟩:=j5.o w9 o9;clear f6 j5))
     go_ret;exact ⟨rfl,(O8.o.trans o9).trans s8⟩
section
variable {H : Type} {c : TypeId × Value → H} {W : World}
theorem fZ{g:Value}{d:DataW H}{p:List MemPlace}{t:Option Addr}{f l:Nat}(y:g=.slice t f l)(h:DataW.Trod c Tryz.prog W 0 (fun _=>true) true 37 g d p):∃s:List Int,gC g s W∧∀n∈s,GO n:=by
 subst y;obtain ⟨E,w⟩:=h;rcases open_ints (k:=.i64) Tryz.underlying37 Tryz.underlying3 (by kernel_rfl) w with ⟨e,_⟩ | ⟨a,G,D,j,e,_,F,_,C,_,m,B⟩
 ·simp [Value.cells] at e;obtain ⟨rfl,rfl,rfl⟩:=e;exact ⟨[],⟨none,0,rfl,.inl rfl⟩,by simp⟩
 ·simp [Value.cells] at e;obtain ⟨rfl,rfl,rfl⟩:=e;simp only [if_true] at C;have r:(j.take f).length=f:=by rw [List.length_take];omega
  refine ⟨j.take f,⟨some a,l,by rw [r],?_⟩,fun n z=>ZJ (B n (List.mem_of_mem_take z))⟩;by_cases u:f=0
  ·subst u;exact .inl rfl
  ·right;have A:a.spot=none∧a.block<W.heap.size:=Sl (a:=a.add 0) (m 0 (by omega));obtain ⟨b,o,I⟩:=a;obtain ⟨rfl,v⟩:=A;refine ⟨b,o,rfl,v,fun i x=>?_⟩;have q:i<j.length:=by rw [r] at x;omega
   have:=m i q;rw [fX] at this;rw [this,List.getD_eq_getElem?_getD,List.getElem?_eq_getElem q];simp
end
end Go.Proofs.YtegmjgjkcdbmkaaGreatDoor
