/- One of the texts of the proof: ExA MkA MkB MkC MkD MkE MkF MkG MkH MkI MkJ MkK MkL MkM MkN MkS. -/
import Derived.Test.YtegmjgjkcdbmkaaGreatDoorS25
set_option maxHeartbeats 1000000
namespace Go.Proofs.YtegmjgjkcdbmkaaGreatDoor
open Go.RowKit
structure BU where
 word:List UInt8
 sign:UInt8
def BU.bytes(i:BU):List UInt8:=i.word++[i.sign]
structure BU.Ok(i:BU):Prop where
 len:i.word.length≤8
 let_:∀c,c∈i.word→Lz c=true
 sgn:(Fb i.sign || Dz i.sign || IX i.sign)=true
def Nm(c:UInt8):Bool:=c==32 || c==10
def YG(p:Nat)(i:BU):List PT:=
 (if i.word=[] then [] else [⟨CA i.word,⟨i.word.toArray⟩,p⟩])++(if Nm i.sign then [] else [⟨Bc i.sign.toNat,⟨#[i.sign]⟩,p+i.word.length⟩])
def MK:Nat→List BU→List PT
 | _,[]=>[]
 | p,i::l=>YG p i++MK (p+i.bytes.length) l
def CI(l:List BU):List UInt8:=(l.map BU.bytes).flatten
theorem Ju(s:ByteArray)(a b c:List UInt8)(h:s.data.toList=a++b++c):s.extract a.length (a.length+b.length)=⟨b.toArray⟩:=by apply ByteArray.ext;rw [ByteArray.data_extract];apply Array.ext';rw [Array.toList_extract,h];simp [List.extract_eq_take_drop,List.append_assoc]
theorem WJ(s:ByteArray)(a:List UInt8)(c:UInt8)(d:List UInt8)(h:s.data.toList=a++c::d):∃h:a.length<s.size,s[a.length]'h=c:=by
 have b:a.length<s.data.toList.length:=by rw [h];simp
 have f:a.length<s.size:=by simpa using b
 refine ⟨f,?_⟩;have:s.data.toList[a.length]? =some c:=by rw [h];simp
 rw [rU b] at this;have e:=Option.some.inj this;rw [←e];simp;rfl
theorem OF(s:ByteArray)(a:List UInt8)(c:UInt8)(d:List UInt8)(h:s.data.toList=a++c::d)(x m:Sc)(o:c.toNat<128)(l:AI s a.length c.toNat x=(m,0,true)){f:Nat}(n:s.size-a.length≤f):
 ∃b,s.size-(a.length+1)≤b∧Aw s f a.length x=Aw s b (a.length+1) m:=by
 obtain ⟨k,g⟩:=WJ s a c d h;have i:Utf8.decode s a.length=(c.toNat,1):=by rw [←g];exact decode_ascii s a.length k (by rw [g];exact o)
 obtain ⟨b,j,e⟩:=Cm (x:=x) n k (by rw [i,l]);rw [i] at j e;rw [l] at e;exact ⟨b,j,e⟩
theorem Mh(s:ByteArray)(a:List UInt8)(T:List PT)(d:List UInt8):∀(g b:List UInt8) (i f:Nat),s.data.toList=a++b++g++d→b.length+g.length≤8→(∀c,c∈g→Lz c=true)→(b≠[]→i=a.length)→s.size-(a++b).length≤f→
 ∃o v,s.size-(a++b++g).length≤o∧(b++g≠[]→v=a.length)∧Aw s f (a++b).length ⟨T,false,i,b.length⟩=Aw s o (a++b++g).length ⟨T,false,v,(b++g).length⟩
 | [],b,i,f,h,_,_,k,j=>⟨f,i,by simpa using j,by simpa using k,by simp⟩
 | c::g,b,i,f,h,t,p,k,j=>by
   have u:=p c List.mem_cons_self;have A:s.data.toList=(a++b)++c::(g++d):=by rw [h];simp
   have C:=NU (.inl u);have l:¬8<b.length+1:=by simp at t;omega
   obtain ⟨y,r,m⟩:=OF s (a++b) c (g++d) A ⟨T,false,i,b.length⟩ (BG (a++b).length ⟨T,false,i,b.length⟩) C (by simp [AI,Fo s (a.length+b.length) c.toNat (by omega),SM u,l]) j
   have F:(BG (a++b).length ⟨T,false,i,b.length⟩)=⟨T,false,a.length,(b++[c]).length⟩:=by
    unfold BG;by_cases e:b=[]
    ·subst e;simp
    ·have:=k e;have D:b.length≠0:=fun q=>e (List.eq_nil_of_length_eq_zero q)
     simp [D,this]
   have n:(a++b).length+1=(a++(b++[c])).length:=by simp;omega
   rw [F,n] at m;rw [n] at r;obtain ⟨z,G,B,E,w⟩:=Mh s a T d g (b++[c]) a.length y (by rw [h];simp) (by simp at t⊢;omega) (fun x l=>p x (rT _ l)) (fun _=>rfl) r;refine ⟨z,G,by simpa using B,fun _=>E (by simp),?_⟩;rw [m,w];simp
theorem Tw(s:ByteArray)(a:List UInt8)(i:BU)(d:List UInt8)(h:s.data.toList=a++i.bytes++d)(j:i.Ok)(T:List PT)(v f:Nat)(z:s.size-a.length≤f):
 ∃p G,s.size-(a++i.bytes).length≤p∧Aw s f a.length ⟨T,false,v,0⟩=Aw s p (a++i.bytes).length ⟨T++YG a.length i,false,G,0⟩:=by
 obtain ⟨H,b,t,l,o⟩:=Mh s a T (i.sign::d) i.word [] v f (by rw [h];simp [BU.bytes]) (by simpa using j.len) j.let_ (fun q=>absurd rfl q) (by simpa using z);simp only [List.append_nil,List.nil_append,List.length_nil] at o t l;have k:=j.sgn;have A:=NU (.inr k);obtain ⟨D,E,F⟩:=PY k;have C:AI s (a++i.word).length i.sign.toNat ⟨T,false,b,i.word.length⟩=(⟨T++YG a.length i,false,b,0⟩,0,true):=by
  have w:AI s (a++i.word).length i.sign.toNat ⟨T,false,b,i.word.length⟩=CR s (a++i.word).length i.sign.toNat (CC s (a++i.word).length ⟨T,false,b,i.word.length⟩):=by simp [AI,Fo s (a.length+i.word.length) i.sign.toNat (by omega),D]
  have g:CC s (a++i.word).length ⟨T,false,b,i.word.length⟩=⟨T++(if i.word=[] then [] else [⟨CA i.word,⟨i.word.toArray⟩,a.length⟩]),false,b,0⟩:=by
   unfold CC;by_cases e:i.word=[]
   ·simp [e]
   ·have B:0<i.word.length:=Nat.pos_of_ne_zero fun q=>e (List.eq_nil_of_length_eq_zero q)
    have m:s.extract b (a++i.word).length=⟨i.word.toArray⟩:=by rw [l e,rV];exact Ju s a i.word (i.sign::d) (by rw [h];simp [BU.bytes])
    simp only [B,if_true,e,if_false];rw [m,l e,ByteArray.toList_eq]
  have r:Nm i.sign=true↔(i.sign.toNat=32∨i.sign.toNat=9∨i.sign.toNat=10):=by
   have:∀n:Fin 256,(Fb (UInt8.ofNat n) || Dz (UInt8.ofNat n) || IX (UInt8.ofNat n))=true→(Nm (UInt8.ofNat n)=true↔((n:Nat)=32∨(n:Nat)=9∨(n:Nat)=10)):=by decide+kernel
   have:=this ⟨i.sign.toNat,i.sign.toNat_lt⟩;simp only [UInt8.ofNat_toNat] at this;exact this k
  rw [w,g];unfold CR YG;by_cases c:i.sign.toNat=32∨i.sign.toNat=9∨i.sign.toNat=10
  ·rw [if_pos c,if_pos (r.2 c),List.append_nil]
  ·have m:s.extract (a++i.word).length ((a++i.word).length+1)=⟨#[i.sign]⟩:=Ju s (a++i.word) [i.sign] d (by rw [h];simp [BU.bytes]);rw [if_neg c,if_neg F,if_neg (E.resolve_left c),if_neg (fun q=>c (r.1 q)),m,rV];simp only [List.append_assoc]
 obtain ⟨y,u,g⟩:=OF s (a++i.word) i.sign d (by rw [h];simp [BU.bytes]) _ _ A C t;have x:(a++i.word).length+1=(a++i.bytes).length:=by simp [BU.bytes];omega
 rw [x] at g u;exact ⟨y,b,u,o.trans g⟩
theorem K5(s:ByteArray):∀(l:List BU) (a:List UInt8) (T:List PT) (b f:Nat),s.data.toList=a++CI l→(∀i,i∈l→i.Ok)→s.size-a.length≤f→
 ∃d t,s.size-(a++CI l).length≤d∧Aw s f a.length ⟨T,false,b,0⟩=Aw s d (a++CI l).length ⟨T++MK a.length l,false,t,0⟩
 | [],a,T,b,f,_,_,c=>⟨f,b,by simpa [CI] using c,by simp [CI,MK]⟩
 | i::l,a,T,b,f,h,g,c=>by
   have e:CI (i::l)=i.bytes++CI l:=by simp [CI]
   rw [e] at h⊢;obtain ⟨n,u,p,k⟩:=Tw s a i (CI l) (by rw [h];simp) (g i List.mem_cons_self) T b f c;obtain ⟨o,v,q,m⟩:=K5 s l (a++i.bytes) (T++YG a.length i) u n (by rw [h];simp) (fun j r=>g j (rT _ r)) p;refine ⟨o,v,by simpa using q,?_⟩;rw [k,m,MK];simp
theorem VP(s:ByteArray)(l:List BU)(h:s.data.toList=CI l)(b:∀i,i∈l→i.Ok):∃a,Aw s s.size 0 ⟨[],false,0,0⟩=.inr ⟨MK 0 l,false,a,0⟩:=by
 obtain ⟨f,a,_,e⟩:=K5 s l [] [] 0 s.size (by simpa using h) b (by simp);refine ⟨a,?_⟩;simp only [List.length_nil,List.nil_append] at e;rw [e];refine CP ?_;have:s.size=(CI l).length:=by rw [←h];simp
 omega
theorem VT(s:ByteArray)(l:List BU)(a:Nat):AH s ⟨MK 0 l,false,a,0⟩=MK 0 l++[⟨0,s.extract s.size s.size,s.size⟩]:=by simp [AH,CC]
def Nl:List Nat→List BU
 | []=>[⟨[],41⟩]
 | [a]=>[⟨Cx a,41⟩]
 | a::b::_=>[⟨Cx a,32⟩,⟨Cx b,41⟩]
theorem Pq(l:List Nat):[40]++CI (Nl l)=JN l:=by unfold Nl JN CI;split<;>simp [BU.bytes]
def IY(k:Nat):UInt8:=match k with
 | 0=>48
 | 1=>49
 | 2=>50
 | _=>51
theorem WQ:∀(k:Nat),[IY k]=PD k
 | 0=>rfl
 | 1=>rfl
 | 2=>rfl
 | _+3=>rfl
def Ll(p:Nat):List BU:=[⟨Cx p,32⟩,⟨[],61⟩,⟨[],32⟩]
def YX(b p q g k:Nat)(a:List Nat):List BU:=
 match b with
 | 0=>Ll p++[⟨[110,101,119],59⟩]
 | 1=>Ll p++[⟨[],38⟩,⟨Cx q,59⟩]
 | 2=>Ll p++[⟨[],64⟩,⟨II g,59⟩]
 | 3=>Ll p++[⟨Cx q,59⟩]
 | 4=>Ll p++[⟨[],38⟩,⟨Cx q,46⟩,⟨[],IY k⟩,⟨[],59⟩]
 | 5=>Ll p++[⟨[],42⟩,⟨Cx q,59⟩]
 | 6=>⟨[],42⟩::Ll p++[⟨Cx q,59⟩]
 | 7=>Ll p++⟨II g,40⟩::Nl a++[⟨[],59⟩]
 | 8=>Ll p++⟨[],40⟩::⟨[],42⟩::⟨Cx q,41⟩::⟨[],40⟩::Nl a++[⟨[],59⟩]
 | _=>[⟨[114,101,116,117,114,110],32⟩,⟨Cx q,59⟩]
theorem Cj(l m:List BU):CI (l++m)=CI l++CI m:=by simp [CI]
theorem Bm(i:BU)(l:List BU):CI (i::l)=i.word++[i.sign]++CI l:=by simp [CI,BU.bytes]
theorem BJ:CI []=[]:=rfl
theorem TI(c p q g k:Nat)(a:List Nat):CI (YX c p q g k a)=V4 c p q g k a:=by
 have b:=Pq a;have d:=WQ k;unfold YX V4;split
 ·simp [Ll,Bm,BJ]
 ·simp [Ll,Bm,BJ]
 ·simp [Ll,Bm,BJ]
 ·simp [Ll,Bm,BJ]
 ·rw [←d];simp [Ll,Bm,BJ]
 ·simp [Ll,Bm,BJ]
 ·simp [Ll,Bm,BJ]
 ·rw [←b];simp [Ll,Cj,Bm,BJ]
 ·rw [←b];simp [Ll,Cj,Bm,BJ]
 ·simp [Bm,BJ]
theorem XM(v:Nat):∀c,c∈Cx v→Lz c=true:=by unfold Cx;split<;>decide
theorem WY(v:Nat):∀c,c∈II v→Lz c=true:=by unfold II;split<;>decide
theorem BU.ok_vn(v:Nat){c:UInt8}(h:(Fb c || Dz c || IX c)=true):BU.Ok ⟨Cx v,c⟩:=⟨rO (Nat.le_of_eq (Gz v)) (by decide),XM v,h⟩
theorem BU.ok_fn(v:Nat){c:UInt8}(h:(Fb c || Dz c || IX c)=true):BU.Ok ⟨II v,c⟩:=⟨rO (J5 v) (by decide),WY v,h⟩
theorem BU.ok_no{c:UInt8}(h:(Fb c || Dz c || IX c)=true):BU.Ok ⟨[],c⟩:=⟨rR _,fun _ q=>(by cases q),h⟩
theorem QS(l:List Nat):∀i,i∈Nl l→i.Ok:=by
 unfold Nl;split<;>intro i a<;>simp only [List.mem_cons,List.not_mem_nil,or_false] at a
 ·exact a▸BU.ok_no (by decide)
 ·exact a▸BU.ok_vn _ (by decide)
 ·rcases a with rfl | rfl
  ·exact BU.ok_vn _ (by decide)
  ·exact BU.ok_vn _ (by decide)
theorem WR(k:Nat):(Fb (IY k) || Dz (IY k) || IX (IY k))=true:=by unfold IY;split<;>decide
theorem Fq(p:Nat):∀i,i∈Ll p→i.Ok:=by
 intro i a;simp only [Ll,List.mem_cons,List.not_mem_nil,or_false] at a;rcases a with rfl | rfl | rfl
 ·exact BU.ok_vn _ (by decide)
 ·exact BU.ok_no (by decide)
 ·exact BU.ok_no (by decide)
theorem Br{p:BU→Prop}{l m:List BU}(h:∀i,i∈l→p i)(k:∀i,i∈m→p i):∀i,i∈l++m→p i:=fun i a=>(List.mem_append.1 a).elim (h i) (k i)
theorem As{p:BU→Prop}{a:BU}{m:List BU}(h:p a)(k:∀i,i∈m→p i):∀i,i∈a::m→p i:=fun i b=>(List.mem_cons.1 b).elim (fun e=>e▸h) (k i)
theorem Cc{p:BU→Prop}:∀i,i∈([]:List BU)→p i:=fun _ q=>by cases q
theorem YY(d p q g k:Nat)(b:List Nat):∀i,i∈YX d p q g k b→i.Ok:=by
 have a:∀{c:UInt8},(Fb c || Dz c || IX c)=true→BU.Ok ⟨[],c⟩:=fun h=>BU.ok_no h
 unfold YX;split
 ·exact Br (Fq p) (As ⟨by decide,by decide,by decide⟩ Cc)
 ·exact Br (Fq p) (As (a (by decide)) (As (BU.ok_vn _ (by decide)) Cc))
 ·exact Br (Fq p) (As (a (by decide)) (As (BU.ok_fn _ (by decide)) Cc))
 ·exact Br (Fq p) (As (BU.ok_vn _ (by decide)) Cc)
 ·exact Br (Fq p) (As (a (by decide)) (As (BU.ok_vn _ (by decide)) (As (a (WR k)) (As (a (by decide)) Cc))))
 ·exact Br (Fq p) (As (a (by decide)) (As (BU.ok_vn _ (by decide)) Cc))
 ·exact Br (As (a (by decide)) (Fq p)) (As (BU.ok_vn _ (by decide)) Cc)
 ·exact Br (Br (Fq p) (As (BU.ok_fn _ (by decide)) (QS b))) (As (a (by decide)) Cc)
 ·exact Br (Br (Fq p) (As (a (by decide)) (As (a (by decide)) (As (BU.ok_vn _ (by decide)) (As (a (by decide)) (QS b)))))) (As (a (by decide)) Cc)
 ·exact As ⟨by decide,by decide,by decide⟩ (As (BU.ok_vn _ (by decide)) Cc)
def Wr(b:Nat)(l:List BU):List BU:=
 match b with
 | 1=>[⟨[105,102],32⟩,⟨[],63⟩,⟨[],32⟩,⟨[],123⟩,⟨[],32⟩]++l++[⟨[],32⟩,⟨[],125⟩]
 | 2=>[⟨[105,102],32⟩,⟨[],63⟩,⟨[],32⟩,⟨[],123⟩,⟨[],32⟩,⟨[],125⟩,⟨[],32⟩,⟨[101,108,115,101],32⟩,⟨[],123⟩,⟨[],32⟩]++l++[⟨[],32⟩,⟨[],125⟩]
 | 3=>[⟨[119,104,105,108,101],32⟩,⟨[],63⟩,⟨[],32⟩,⟨[],123⟩,⟨[],32⟩]++l++[⟨[],32⟩,⟨[],125⟩]
 | _=>l
theorem Ub:∀(b:Nat) (l:List BU),CI (Wr b l)=Ua b (CI l)
 | 0,_=>rfl
 | 1,l=>by simp [Wr,Ua,Cj,Bm,BJ]
 | 2,l=>by simp [Wr,Ua,Cj,Bm,BJ]
 | 3,l=>by simp [Wr,Ua,Cj,Bm,BJ]
 | _+4,_=>rfl
theorem Y3(b:Nat)(l:List BU)(h:∀i,i∈l→i.Ok):∀i,i∈Wr b l→i.Ok:=by
 have a:∀{c:UInt8},(Fb c || Dz c || IX c)=true→BU.Ok ⟨[],c⟩:=fun h=>BU.ok_no h
 have d:∀i,i∈[(⟨[],32⟩:BU),⟨[],125⟩]→i.Ok:=As (a (by decide)) (As (a (by decide)) Cc);unfold Wr;split
 ·exact Br (Br (As ⟨by decide,by decide,by decide⟩ (As (a (by decide)) (As (a (by decide)) (As (a (by decide)) (As (a (by decide)) Cc))))) h) d
 ·exact Br (Br (As ⟨by decide,by decide,by decide⟩ (As (a (by decide)) (As (a (by decide)) (As (a (by decide)) (As (a (by decide)) (As (a (by decide)) (As (a (by decide)) (As ⟨by decide,by decide,by decide⟩ (As (a (by decide)) (As (a (by decide)) Cc)))))))))) h) d
 ·exact Br (Br (As ⟨by decide,by decide,by decide⟩ (As (a (by decide)) (As (a (by decide)) (As (a (by decide)) (As (a (by decide)) Cc))))) h) d
 ·exact h
structure Sm where
 aW:Nat
 kind:Nat
 p:Nat
 q:Nat
 g:Nat
 k:Nat
 args:List Nat
 bB:Nat
def Sm.st(s:Sm):List BU:=YX s.kind s.p s.q s.g s.k s.args
def Ye(s:Sm):List BU:=⟨[],32⟩::Wr s.bB s.st
def Qc:Nat→List BU
 | 0=>[⟨[],41⟩]
 | 1=>[⟨[],32⟩,⟨Cx 0,41⟩]
 | _=>[⟨[],32⟩,⟨Cx 0,32⟩,⟨Cx 1,41⟩]
def T7(v:Nat):List BU:=[⟨[],32⟩,⟨[118,97,114],32⟩,⟨Cx v,59⟩]
def Ya(f:Nat)(a:List Sm):List BU:=
 [⟨[102,110],32⟩,⟨II f,40⟩]++Qc (f % 3)++[⟨[],32⟩,⟨[],123⟩]++((List.range 4).drop (f % 3)).flatMap T7++a.flatMap Ye++[⟨[],32⟩,⟨[],125⟩,⟨[],10⟩]
def YN(a:List Sm):List BU:=(List.range 4).flatMap fun f=>Ya f (a.filter fun s=>s.aW==f)
theorem MJ{b:Type}{f:b→List BU}(l:List b)(h:∀a,a∈l→∀i,i∈f a→i.Ok):∀i,i∈l.flatMap f→i.Ok:=fun i d=>by obtain ⟨a,c,e⟩:=List.mem_flatMap.1 d;exact h a c i e
theorem YT(s:Sm):∀i,i∈Ye s→i.Ok:=As (BU.ok_no (by decide)) (Y3 _ _ (YY _ _ _ _ _ _))
theorem Xm(n:Nat):∀i,i∈Qc n→i.Ok:=by
 unfold Qc;split
 ·exact As (BU.ok_no (by decide)) Cc
 ·exact As (BU.ok_no (by decide)) (As (BU.ok_vn _ (by decide)) Cc)
 ·exact As (BU.ok_no (by decide)) (As (BU.ok_vn _ (by decide)) (As (BU.ok_vn _ (by decide)) Cc))
theorem XJ(v:Nat):∀i,i∈T7 v→i.Ok:=As (BU.ok_no (by decide)) (As ⟨by decide,by decide,by decide⟩ (As (BU.ok_vn _ (by decide)) Cc))
theorem YD(f:Nat)(a:List Sm):∀i,i∈Ya f a→i.Ok:=by
 unfold Ya;refine Br (Br (Br (Br (Br ?_ (Xm _)) ?_) (MJ _ fun v _=>XJ v)) (MJ _ fun s _=>YT s)) ?_
 ·exact As ⟨by decide,by decide,by decide⟩ (As (BU.ok_fn _ (by decide)) Cc)
 ·exact As (BU.ok_no (by decide)) (As (BU.ok_no (by decide)) Cc)
 ·exact As (BU.ok_no (by decide)) (As (BU.ok_no (by decide)) (As (BU.ok_no (by decide)) Cc))
theorem YO(a:List Sm):∀i,i∈YN a→i.Ok:=MJ _ fun f _=>YD f _
def Wv(t:PT):Nat×List UInt8:=(t.kind,t.a9.data.toList)
def KC(i:BU):List (Nat×List UInt8):=(if i.word=[] then [] else [(CA i.word,i.word)])++(if Nm i.sign then [] else [(Bc i.sign.toNat,[i.sign])])
theorem Zo(p:Nat)(i:BU):(YG p i).map Wv=KC i:=by
 unfold YG KC;rw [List.map_append];congr 1
 ·split<;>simp [Wv]
 ·split<;>simp [Wv]
theorem Ve:∀(l:List BU) (p:Nat),(MK p l).map Wv=l.flatMap KC
 | [],_=>rfl
 | i::l,p=>by rw [MK,List.map_append,Zo,Ve l,List.flatMap_cons]
theorem ST(s:ByteArray)(a:List Sm)(h:s.data.toList=CI (YN a)):∃y,Aw s s.size 0 ⟨[],false,0,0⟩=.inr y∧(AH s y).map Wv=(YN a).flatMap KC++[(0,[])]:=by obtain ⟨b,e⟩:=VP s (YN a) h (YO a);refine ⟨_,e,?_⟩;rw [VT,List.map_append,Ve];congr 1;simp [Wv]
def Ch:List Sm→Nat→Nat→List (Sm×Nat)
 | [],_,_=>[]
 | s::l,b,a=>(s,if s.kind=0 then b+1 else if s.kind=8 then a+1 else 0)::Ch l (if s.kind=0 then b+1 else b) (if s.kind=8 then a+1 else a)
def DS(l:List Sm):Nat:=l.countP fun s=>decide (s.kind=0)
def DT(l:List Sm):Nat:=l.countP fun s=>decide (s.kind=8)
theorem Ko(s:Sm)(l:List Sm)(n:Nat):(if s.kind=0 then n+1 else n)+DS l=n+DS (s::l):=by
 unfold DS;rw [List.countP_cons];by_cases h:s.kind=0
 ·simp [h];omega
 ·simp [h]
theorem Kp(s:Sm)(l:List Sm)(n:Nat):(if s.kind=8 then n+1 else n)+DT l=n+DT (s::l):=by
 unfold DT;rw [List.countP_cons];by_cases h:s.kind=8
 ·simp [h];omega
 ·simp [h]
theorem It:∀(l m:List Sm) (b a:Nat),Ch (l++m) b a=Ch l b a++Ch m (b+DS l) (a+DT l)
 | [],m,b,a=>by simp [Ch,DS,DT]
 | s::l,m,b,a=>by rw [List.cons_append,Ch,Ch,It l m,Ko,Kp];rfl
theorem Iu:∀(l:List Sm) (b a:Nat),(Ch l b a).length=l.length
 | [],_,_=>rfl
 | _::l,b,a=>by rw [Ch,rW,Iu l,rW]
theorem QZ(l m:List Sm):DS (l++m)=DS l+DS m:=by simp [DS]
theorem Q4(l m:List Sm):DT (l++m)=DT l+DT m:=by simp [DT]
theorem Tc(l:List Sm)(s:Sm)(b a:Nat):Ch (l++[s]) b a=Ch l b a++[(s,if s.kind=0 then b+DS l+1 else if s.kind=8 then a+DT l+1 else 0)]:=by rw [It];rfl
theorem UI(l:List Sm)(s:Sm):DS (l++[s])=if s.kind=0 then DS l+1 else DS l:=by rw [QZ,←Ko s [] (DS l)];rfl
theorem UJ(l:List Sm)(s:Sm):DT (l++[s])=if s.kind=8 then DT l+1 else DT l:=by rw [Q4,←Kp s [] (DT l)];rfl
theorem Wn(v:Nat):CA (Cx v)=1:=by unfold Cx;split<;>decide
theorem UY(v:Nat):CA (II v)=1:=by unfold II;split<;>decide
theorem Y2(v:Nat):Cx v≠[]:=by unfold Cx;split<;>decide
theorem YC(v:Nat):II v≠[]:=by unfold II;split<;>decide
def C6(v:Nat):Nat×List UInt8:=(1,Cx v)
def Wt(f:Nat):Nat×List UInt8:=(1,II f)
def ED(b p q g k:Nat)(a:List Nat):List (Nat×List UInt8):=
 match b with
 | 0=>[C6 p,(15,[61]),(5,[110,101,119]),(14,[59])]
 | 1=>[C6 p,(15,[61]),(16,[38]),C6 q,(14,[59])]
 | 2=>[C6 p,(15,[61]),(18,[64]),Wt g,(14,[59])]
 | 3=>[C6 p,(15,[61]),C6 q,(14,[59])]
 | 4=>[C6 p,(15,[61]),(16,[38]),C6 q,(19,[46]),(2,[IY k]),(14,[59])]
 | 5=>[C6 p,(15,[61]),(17,[42]),C6 q,(14,[59])]
 | 6=>[(17,[42]),C6 p,(15,[61]),C6 q,(14,[59])]
 | 7=>[C6 p,(15,[61]),Wt g,(10,[40])]++a.map C6++[(11,[41]),(14,[59])]
 | 8=>[C6 p,(15,[61]),(10,[40]),(17,[42]),C6 q,(11,[41]),(10,[40])]++a.map C6++[(11,[41]),(14,[59])]
 | _=>[(6,[114,101,116,117,114,110]),C6 q,(14,[59])]
theorem DD(v:Nat)(c:UInt8):KC ⟨Cx v,c⟩=C6 v::(if Nm c then [] else [(Bc c.toNat,[c])]):=by unfold KC;rw [if_neg (Y2 v),Wn];rfl
theorem PQ(v:Nat)(c:UInt8):KC ⟨II v,c⟩=Wt v::(if Nm c then [] else [(Bc c.toNat,[c])]):=by unfold KC;rw [if_neg (YC v),UY];rfl
theorem Eo(c:UInt8):KC ⟨[],c⟩=if Nm c then [] else [(Bc c.toNat,[c])]:=rfl
theorem Xc(k:Nat):KC ⟨[],IY k⟩=[(2,[IY k])]:=by unfold IY;split<;>decide
theorem Hy(p:Nat):(Ll p).flatMap KC=[C6 p,(15,[61])]:=by simp only [Ll,List.flatMap_cons,List.flatMap_nil,DD,Eo];rfl
theorem Uw(l:List Nat)(h:l.length≤2):(Nl l).flatMap KC=l.map C6++[(11,[41])]:=by
 unfold Nl;split
 ·rfl
 ·simp only [List.flatMap_cons,List.flatMap_nil,DD];rfl
 ·rename_i a b r;have:r=[]:=List.eq_nil_of_length_eq_zero (by simp only [rW] at h;omega);subst this;simp only [List.flatMap_cons,List.flatMap_nil,DD];rfl
theorem ZE(b p q g k:Nat)(a:List Nat)(h:a.length≤2):(YX b p q g k a).flatMap KC=ED b p q g k a:=by
 unfold YX ED;split
 ·simp only [List.flatMap_append,Hy];rfl
 ·simp only [List.flatMap_append,Hy,List.flatMap_cons,List.flatMap_nil,DD,Eo];rfl
 ·simp only [List.flatMap_append,Hy,List.flatMap_cons,List.flatMap_nil,PQ,Eo];rfl
 ·simp only [List.flatMap_append,Hy,List.flatMap_cons,List.flatMap_nil,DD];rfl
 ·simp only [List.flatMap_append,Hy,List.flatMap_cons,List.flatMap_nil,Xc,DD];rfl
 ·simp only [List.flatMap_append,Hy,List.flatMap_cons,List.flatMap_nil,DD,Eo];rfl
 ·simp only [List.flatMap_append,Hy,List.flatMap_cons,List.flatMap_nil,DD,Eo];rfl
 ·simp only [List.flatMap_append,Hy,List.flatMap_cons,List.flatMap_nil,PQ,Eo,Uw a h,List.append_assoc];rfl
 ·simp only [List.flatMap_append,Hy,List.flatMap_cons,List.flatMap_nil,DD,Eo,Uw a h,List.append_assoc];rfl
 ·simp only [List.flatMap_cons,List.flatMap_nil,DD];rfl
def BH(a:List PT)(i:Nat)(ks:List (Nat×List UInt8)):Prop:=ks<+:(a.drop i).map Wv
theorem BH.left{c i a b}(h:BH c i (a++b)):BH c i a:=(List.prefix_append a b).trans h
theorem BH.right{c i a b}(h:BH c i (a++b)):BH c (i+a.length) b:=by obtain ⟨t,d⟩:=h;refine ⟨t,?_⟩;rw [←List.drop_drop,List.map_drop,←d,List.append_assoc,List.drop_left]
theorem BH.head{a i k d}(h:BH a i (k::d)):∃c:i<a.length,a[i].kind=k.1∧a[i].a9.data.toList=k.2:=by
 obtain ⟨t,b⟩:=h;have c:i<a.length:=by
  rcases Nat.lt_or_ge i a.length with q | q
  ·exact q
  ·rw [List.drop_of_length_le q] at b;cases b
 refine ⟨c,?_⟩;rw [List.drop_eq_getElem_cons c,List.map_cons,List.cons_append] at b;have:=(List.cons.inj b).1;rw [this];exact ⟨rfl,rfl⟩
theorem BH.tail{c i k b}(h:BH c i (k::b)):BH c (i+1) b:=BH.right (a:=[k]) h
def tx(t:PT):List UInt8:=t.a9.data.toList
def kM:Nat→Nat
 | 0=>1
 | 1=>2
 | 2=>4
 | 3=>6
 | 4=>3
 | 5=>5
 | 6=>9
 | 7=>7
 | 8=>8
 | _=>10
structure Ng(kind p q g k:Nat)(args:List Nat)(v:VS):Prop where
 kd:v.kind=kM kind
 tg:kind≤8→tx v.tg=Cx p
 sr:kind=1∨kind=3∨kind=4∨kind=5∨kind=6∨kind=8∨9≤kind→tx v.sr=Cx q
 sf:kind=2∨kind=7→tx v.sr=II g
 fd:v.field=if kind=4 then k else 0
 ar:v.args.map tx=if kind=7∨kind=8 then args.map Cx else []
theorem BH.pt{a i k ks}(h:BH a i (k::ks)):(Ag a i).kind=k.1∧tx (Ag a i)=k.2:=by obtain ⟨d,b,c⟩:=h.head;unfold Ag tx;rw [rU d];exact ⟨b,c⟩
theorem WU{t:PT}{k:Nat}(b:k<4)(h:tx t=[IY k]):GE t=k:=by
 have a:t.a9.toList=[IY k]:=by rw [ByteArray.toList_eq];exact h
 unfold GE;rw [a];rcases k with _ | _ | _ | _ | k
 ·rfl
 ·rfl
 ·rfl
 ·rfl
 ·omega
theorem Qi{e:List PT}{n:Nat}(x:PS)(f p q g k:Nat)(l:List Nat)(r:k<4)(s:f≤9)(m:f≠7)(o:f≠8)(h:BH e x.next (ED f p q g k l)):
 ∃v,AF e n x=(v,⟨x.next+(ED f p q g k l).length-1,x.m8,x.aS⟩)∧Ng f p q g k l v:=by
 rcases f with _ | _ | _ | _ | _ | _ | _ | _ | _ | _ | f
 ·have a:=h.pt;have b:=h.tail.pt;have d:=h.tail.tail.pt;simp only [C6] at a b d;refine ⟨⟨1,Ag e x.next,Bj,0,[]⟩,by simp [AF,Bw,Af,Ax,a.1,b.1,d.1,ED],⟨rfl,fun _=>a.2,fun q=>by omega,fun q=>by omega,rfl,rfl⟩⟩
 ·have a:=h.pt;have b:=h.tail.pt;have d:=h.tail.tail.pt;have c:=h.tail.tail.tail.pt;have i:=h.tail.tail.tail.tail.pt;simp only [C6] at a b d c i;refine ⟨⟨2,Ag e x.next,Ag e (x.next+1+1+1),0,[]⟩,by simp [AF,Bw,DM,Af,Ax,a.1,b.1,d.1,c.1,i.1,ED],⟨rfl,fun _=>a.2,fun _=>c.2,fun q=>by omega,rfl,rfl⟩⟩
 ·have a:=h.pt;have b:=h.tail.pt;have d:=h.tail.tail.pt;have c:=h.tail.tail.tail.pt;simp only [C6,Wt] at a b d c;refine ⟨⟨4,Ag e x.next,Ag e (x.next+1+1+1),0,[]⟩,by simp [AF,Bw,Af,Ax,a.1,b.1,d.1,c.1,ED],⟨rfl,fun _=>a.2,fun q=>by omega,fun _=>c.2,rfl,rfl⟩⟩
 ·have a:=h.pt;have b:=h.tail.pt;have d:=h.tail.tail.pt;have c:=h.tail.tail.tail.pt;simp only [C6] at a b d c;refine ⟨⟨6,Ag e x.next,Ag e (x.next+1+1),0,[]⟩,by simp [AF,Bw,Af,Ax,a.1,b.1,d.1,c.1,ED],⟨rfl,fun _=>a.2,fun _=>d.2,fun q=>by omega,rfl,rfl⟩⟩
 ·have a:=h.pt;have b:=h.tail.pt;have d:=h.tail.tail.pt;have c:=h.tail.tail.tail.pt;have i:=h.tail.tail.tail.tail.pt;have j:=h.tail.tail.tail.tail.tail.pt;simp only [C6] at a b d c i j;refine ⟨⟨3,Ag e x.next,Ag e (x.next+1+1+1),GE (Ag e (x.next+1+1+1+1+1)),[]⟩,by simp [AF,Bw,DM,Af,Ax,a.1,b.1,d.1,c.1,i.1,j.1,ED],⟨rfl,fun _=>a.2,fun _=>c.2,fun q=>by omega,WU r j.2,rfl⟩⟩
 ·have a:=h.pt;have b:=h.tail.pt;have d:=h.tail.tail.pt;have c:=h.tail.tail.tail.pt;simp only [C6] at a b d c;refine ⟨⟨5,Ag e x.next,Ag e (x.next+1+1+1),0,[]⟩,by simp [AF,Bw,Af,Ax,a.1,b.1,d.1,c.1,ED],⟨rfl,fun _=>a.2,fun _=>c.2,fun q=>by omega,rfl,rfl⟩⟩
 ·have a:=h.pt;have b:=h.tail.pt;have d:=h.tail.tail.pt;have c:=h.tail.tail.tail.pt;simp only [C6] at a b d c;refine ⟨⟨9,Ag e (x.next+1),Ag e (x.next+1+1+1),0,[]⟩,by simp [AF,Af,Ax,a.1,b.1,d.1,c.1,ED],⟨rfl,fun _=>b.2,fun _=>c.2,fun q=>by omega,rfl,rfl⟩⟩
 ·exact absurd rfl m
 ·exact absurd rfl o
 ·have a:=h.pt;have b:=h.tail.pt;simp only [C6] at a b;refine ⟨⟨10,Bj,Ag e (x.next+1),0,[]⟩,by simp [AF,Af,Ax,a.1,b.1,ED],⟨rfl,fun q=>by omega,fun _=>b.2,fun q=>by omega,rfl,rfl⟩⟩
 ·omega
theorem BH.len{b i a}(h:BH b i a):a.length≤b.length:=by have:=List.IsPrefix.length_le h;rw [rX,List.length_drop] at this;omega
theorem N8{g:List PT}:∀(b:List Nat) (f:Nat) (x:PS) (c:List PT),BH g x.next (b.map C6++[(11,[41])])→b.length≤f→∃l,CJ g f x c=(c++l,⟨x.next+b.length,x.m8,x.aS⟩)∧l.map tx=b.map Cx
 | [],f,x,c,h,_=>by have d:=BH.pt (ks:=[]) h;refine ⟨[],?_,rfl⟩;rw [Fc (by rw [d.1];decide)];simp
 | a::b,0,x,c,_,i=>by simp at i
 | a::b,f+1,x,c,h,i=>by
   have d:=BH.pt (ks:=b.map C6++[(11,[41])]) h;have j:BH g (x.next+1) (b.map C6++[(11,[41])]):=BH.tail h;simp only [C6] at d;obtain ⟨l,e,k⟩:=N8 b f ⟨x.next+1,x.m8,x.aS⟩ (c++[Ag g x.next]) j (by simpa using i);refine ⟨Ag g x.next::l,?_,?_⟩
   ·rw [CJ,if_pos d.1,e];simp only [List.append_assoc,List.singleton_append,rW];congr 2;omega
   ·rw [List.map_cons,List.map_cons,k,d.2]
theorem G8{b:List PT}{n:Nat}(x:PS)(a:List Nat){r:List (Nat×List UInt8)}(h:BH b x.next ((10,[40])::(a.map C6++(11,[41])::r))):∃l,A6 b n x=(l,⟨x.next+a.length+2,x.m8,x.aS⟩)∧l.map tx=a.map Cx:=by
 have f:=h.pt;have d:=h.tail;have e:a.map C6++(11,[41])::r=(a.map C6++[(11,[41])])++r:=by simp
 rw [e] at d;have c:=d.left;have j:BH b (x.next+1+a.length) [(11,[41])]:=by have:=c.right;rwa [rX] at this
 have k:=c.len;rw [rV,rX] at k;obtain ⟨l,i,m⟩:=N8 a b.length ⟨x.next+1,x.m8,x.aS⟩ [] c (by omega);have o:Af b n 10 x=⟨x.next+1,x.m8,x.aS⟩:=by simp [Af,f.1]
 refine ⟨l,?_,m⟩;have g:=j.pt;unfold A6;rw [o,i];simp only [List.nil_append,Af,g.1];simp;omega
theorem Si{a:List PT}{n:Nat}(x:PS)(j p q g k:Nat)(d:List Nat)(t:j=7∨j=8)(h:BH a x.next (ED j p q g k d)):
 ∃v,AF a n x=(v,⟨x.next+(ED j p q g k d).length-1,x.m8,x.aS⟩)∧Ng j p q g k d v:=by
 rcases t with rfl | rfl
 ·have h:BH a x.next (C6 p::(15,[61])::Wt g::(10,[40])::(d.map C6++[(11,[41]),(14,[59])])):=by simpa [ED] using h
  have b:=h.pt;have f:=h.tail.pt;have c:=h.tail.tail.pt;have i:=h.tail.tail.tail.pt;obtain ⟨l,e,o⟩:=G8 (n:=n) ⟨x.next+1+1+1,x.m8,x.aS⟩ d h.tail.tail.tail;simp only [C6,Wt] at b f c i;refine ⟨⟨7,Ag a x.next,Ag a (x.next+1+1),0,l⟩,?_,⟨rfl,fun _=>b.2,fun q=>by omega,fun _=>c.2,rfl,o⟩⟩;have r:Af a n 15 (Af a n 1 x)=⟨x.next+1+1,x.m8,x.aS⟩:=by simp [Af,b.1,f.1]
  have u:Af a n 1 ⟨x.next+1+1,x.m8,x.aS⟩=⟨x.next+1+1+1,x.m8,x.aS⟩:=by simp [Af,c.1]
  simp only [AF,b.1,r,Bw,c.1,u,i.1,e,Ax];simp [ED];omega
 ·have h:BH a x.next (C6 p::(15,[61])::(10,[40])::(17,[42])::C6 q::(11,[41])::(10,[40])::(d.map C6++[(11,[41]),(14,[59])])):=by simpa [ED] using h
  have b:=h.pt;have f:=h.tail.pt;have c:=h.tail.tail.pt;have i:=h.tail.tail.tail.pt;have m:=h.tail.tail.tail.tail.pt;have s:=h.tail.tail.tail.tail.tail.pt;obtain ⟨l,e,o⟩:=G8 (n:=n) ⟨x.next+1+1+1+1+1+1,x.m8,x.aS⟩ d h.tail.tail.tail.tail.tail.tail;simp only [C6] at b f c i m s;refine ⟨⟨8,Ag a x.next,Ag a (x.next+1+1+1+1),0,l⟩,?_,⟨rfl,fun _=>b.2,fun _=>m.2,fun q=>by omega,rfl,o⟩⟩;have r:Af a n 15 (Af a n 1 x)=⟨x.next+1+1,x.m8,x.aS⟩:=by simp [Af,b.1,f.1]
  have w:Af a n 17 (Af a n 10 ⟨x.next+1+1,x.m8,x.aS⟩)=⟨x.next+1+1+1+1,x.m8,x.aS⟩:=by simp [Af,c.1,i.1]
  have y:Af a n 11 (Af a n 1 ⟨x.next+1+1+1+1,x.m8,x.aS⟩)=⟨x.next+1+1+1+1+1+1,x.m8,x.aS⟩:=by simp [Af,m.1,s.1]
  simp only [AF,b.1,r,Bw,c.1,GI,w,y,e,Ax,m.1];simp [ED];omega
theorem Uv{d:List PT}{n:Nat}(x:PS)(a p q g k:Nat)(b:List Nat)(i:k<4)(f:a≤9)(h:BH d x.next (ED a p q g k b)):
 ∃v,AF d n x=(v,⟨x.next+(ED a p q g k b).length-1,x.m8,x.aS⟩)∧Ng a p q g k b v:=by
 by_cases c:a=7∨a=8
 ·exact Si x a p q g k b c h
 ·exact Qi x a p q g k b i f (fun e=>c (.inl e)) (fun e=>c (.inr e)) h
theorem K8(c p q g k:Nat)(b:List Nat):∃a m,ED c p q g k b=(a::m)++[(14,[59])]∧(a.1=1∨a.1=17∨a.1=6):=by
 unfold ED;split
 ·exact ⟨C6 p,[(15,[61]),(5,[110,101,119])],rfl,.inl rfl⟩
 ·exact ⟨C6 p,[(15,[61]),(16,[38]),C6 q],rfl,.inl rfl⟩
 ·exact ⟨C6 p,[(15,[61]),(18,[64]),Wt g],rfl,.inl rfl⟩
 ·exact ⟨C6 p,[(15,[61]),C6 q],rfl,.inl rfl⟩
 ·exact ⟨C6 p,[(15,[61]),(16,[38]),C6 q,(19,[46]),(2,[IY k])],rfl,.inl rfl⟩
 ·exact ⟨C6 p,[(15,[61]),(17,[42]),C6 q],rfl,.inl rfl⟩
 ·exact ⟨(17,[42]),[C6 p,(15,[61]),C6 q],rfl,.inr (.inl rfl)⟩
 ·exact ⟨C6 p,(15,[61])::Wt g::(10,[40])::(b.map C6++[(11,[41])]),by simp,.inl rfl⟩
 ·exact ⟨C6 p,(15,[61])::(10,[40])::(17,[42])::C6 q::(11,[41])::(10,[40])::(b.map C6++[(11,[41])]),by simp,.inl rfl⟩
 ·exact ⟨(6,[114,101,116,117,114,110]),[C6 q],rfl,.inr (.inr rfl)⟩
theorem Ji{d:List PT}{n f:Nat}(x:PS)(b p q g k:Nat)(c:List Nat)(s:k<4)(r:b≤9)(h:BH d x.next (ED b p q g k c)):
 ∃v,AV d n (f+1) x=(.mk v [],⟨x.next+(ED b p q g k c).length,x.m8,x.aS⟩)∧Ng b p q g k c v:=by
 obtain ⟨v,e,u⟩:=Uv (n:=n) x b p q g k c s r h;obtain ⟨a,m,j,z⟩:=K8 b p q g k c;rw [j] at h;have i:=BH.pt (ks:=m++[(14,[59])]) h;have l:=(BH.right h).pt;have t:(ED b p q g k c).length=(a::m).length+1:=by rw [j,rV];rfl
 refine ⟨v,?_,u⟩;have w:¬(Ag d x.next).kind=7:=by rw [i.1];omega
 have y:¬(Ag d x.next).kind=9:=by rw [i.1];omega
 rw [AV,if_neg w,if_neg y,e,t];have o:x.next+((a::m).length+1)-1=x.next+(a::m).length:=by omega
 rw [o];simp only [Af,l.1];simp;omega
theorem Jj{i:List PT}{n f:Nat}(x:PS)(b p q g k:Nat)(d:List Nat){c:Nat×List UInt8}{r:List (Nat×List UInt8)}(z:k<4)(t:b≤9)(y:¬Bb c.1)(h:BH i x.next (ED b p q g k d++c::r)):
 ∃v,AB i n (f+2) x []=([.mk v []],⟨x.next+(ED b p q g k d).length,x.m8,x.aS⟩)∧Ng b p q g k d v:=by
 obtain ⟨v,e,A⟩:=Ji (n:=n) (f:=f) x b p q g k d z t h.left;obtain ⟨a,m,s,B⟩:=K8 b p q g k d;have j:=h.left;rw [s] at j;have l:=BH.pt (ks:=m++[(14,[59])]) j;have o:=h.right.pt;have u:Bb (Ag i x.next).kind:=by rw [l.1];unfold Bb;omega
 have w:¬Bb (Ag i (x.next+(ED b p q g k d).length)).kind:=by rw [o.1];exact y
 refine ⟨v,?_,A⟩;rw [AB,if_pos u,e,AB,if_neg w];rfl
def QK(b:Nat)(l:List (Nat×List UInt8)):List (Nat×List UInt8):=
 match b with
 | 1=>(7,[105,102])::(20,[63])::(12,[123])::(l++[(13,[125])])
 | 2=>(7,[105,102])::(20,[63])::(12,[123])::(13,[125])::(8,[101,108,115,101])::(12,[123])::(l++[(13,[125])])
 | 3=>(9,[119,104,105,108,101])::(20,[63])::(12,[123])::(l++[(13,[125])])
 | _=>l
theorem ZL:∀(b:Nat) (l:List BU),(Wr b l).flatMap KC=QK b (l.flatMap KC)
 | 0,_=>rfl
 | 1,l=>by simp only [Wr,QK,List.flatMap_append];rfl
 | 2,l=>by simp only [Wr,QK,List.flatMap_append];rfl
 | 3,l=>by simp only [Wr,QK,List.flatMap_append];rfl
 | _+4,_=>rfl
def ZQ(s:Sm)(t:TS):Prop:=∃v,Ng s.kind s.p s.q s.g s.k s.args v∧match s.bB with
 | 1=>∃a,t=.mk (Dh 11) [(a,[.mk v []])]
 | 2=>∃a b,t=.mk (Dh 11) [(a,[]),(b,[.mk v []])]
 | 3=>∃a,t=.mk (Dh 12) [(a,[.mk v []])]
 | _=>t=.mk v []
theorem Bl{a:List PT}{n i k:Nat}{b:Bool}{w:Nat}(h:(Ag a i).kind=k)(c:k≠0):Af a n k ⟨i,b,w⟩=⟨i+1,b,w⟩:=by simp [Af,h,c]
theorem TK{m:List PT}{n f:Nat}(x:PS)(s:Sm)(y:s.k<4)(w:s.kind≤9)(h:BH m x.next (QK s.bB (ED s.kind s.p s.q s.g s.k s.args)))(D:(Ag m (x.next+(QK s.bB (ED s.kind s.p s.q s.g s.k s.args)).length)).kind≠8):
 ∃t,AV m n (f+3) x=(t,⟨x.next+(QK s.bB (ED s.kind s.p s.q s.g s.k s.args)).length,x.m8,x.aS⟩)∧ZQ s t:=by
 obtain ⟨i,c,d⟩:=x;obtain ⟨K,b,p,q,g,k,a,F⟩:=s;simp only at y w h D⊢;have C:¬Bb 13:=by decide
 rcases F with _ | _ | _ | _ | F
 ·obtain ⟨v,e,l⟩:=Ji (n:=n) (f:=f+2) ⟨i,c,d⟩ b p q g k a y w h;exact ⟨_,e,v,l,rfl⟩
 ·have j:=BH.pt h;have A:=(BH.tail h).pt;have B:=(BH.tail (BH.tail h)).pt;have o:=BH.tail (BH.tail (BH.tail h));obtain ⟨v,e,l⟩:=Jj (n:=n) (f:=f) ⟨i+1+1+1,c,d⟩ b p q g k a y w C o;have r:=o.right.pt;have z:(QK 1 (ED b p q g k a)).length=(ED b p q g k a).length+4:=by simp [QK]
  have u:i+((ED b p q g k a).length+4)=i+1+1+1+(ED b p q g k a).length+1:=by omega
  rw [z,u] at D;refine ⟨.mk (Dh 11) [((Ax m 12 ⟨i+1+1,c,d⟩).c9,[.mk v []])],?_,v,l,_,rfl⟩;rw [AV,if_pos j.1,z,u];simp only [Bl j.1 (by decide),Bl A.1 (by decide),Bl B.1 (by decide),e,Bl r.1 (by decide)];rw [if_neg D]
 ·have j:=BH.pt h;have A:=(BH.tail h).pt;have B:=(BH.tail (BH.tail h)).pt;have E:=(BH.tail (BH.tail (BH.tail h))).pt;have r:=(BH.tail (BH.tail (BH.tail (BH.tail h)))).pt;have G:=(BH.tail (BH.tail (BH.tail (BH.tail (BH.tail h))))).pt;have o:=BH.tail (BH.tail (BH.tail (BH.tail (BH.tail (BH.tail h)))));obtain ⟨v,e,l⟩:=Jj (n:=n) (f:=f) ⟨i+1+1+1+1+1+1,c,d⟩ b p q g k a y w C o;have H:=o.right.pt;have z:(QK 2 (ED b p q g k a)).length=(ED b p q g k a).length+7:=by simp [QK]
  have u:i+((ED b p q g k a).length+7)=i+1+1+1+1+1+1+(ED b p q g k a).length+1:=by omega
  have I:AB m n (f+2) ⟨i+1+1+1,c,d⟩ []=([],⟨i+1+1+1,c,d⟩):=by rw [AB,if_neg (by rw [E.1];exact C)]
  refine ⟨.mk (Dh 11) [((Ax m 12 ⟨i+1+1,c,d⟩).c9,[]),((Ax m 12 ⟨i+1+1+1+1+1,c,d⟩).c9,[.mk v []])],?_,v,l,_,_,rfl⟩;rw [AV,if_pos j.1,z,u];simp only [Bl j.1 (by decide),Bl A.1 (by decide),Bl B.1 (by decide),I,Bl E.1 (by decide)];rw [if_pos r.1];simp only [Bl r.1 (by decide),Bl G.1 (by decide),e,Bl H.1 (by decide)]
 ·have j:=BH.pt h;have A:=(BH.tail h).pt;have B:=(BH.tail (BH.tail h)).pt;have o:=BH.tail (BH.tail (BH.tail h));obtain ⟨v,e,l⟩:=Jj (n:=n) (f:=f) ⟨i+1+1+1,c,d⟩ b p q g k a y w C o;have r:=o.right.pt;have z:(QK 3 (ED b p q g k a)).length=(ED b p q g k a).length+4:=by simp [QK]
  have u:i+((ED b p q g k a).length+4)=i+1+1+1+(ED b p q g k a).length+1:=by omega
  have J:¬(Ag m i).kind=7:=by rw [j.1];decide
  refine ⟨.mk (Dh 12) [((Ax m 12 ⟨i+1+1,c,d⟩).c9,[.mk v []])],?_,v,l,_,rfl⟩;rw [AV,if_neg J,if_pos j.1,z,u];simp only [Bl j.1 (by decide),Bl A.1 (by decide),Bl B.1 (by decide),e,Bl r.1 (by decide)]
 ·obtain ⟨v,e,l⟩:=Ji (n:=n) (f:=f+2) ⟨i,c,d⟩ b p q g k a y w h;exact ⟨_,e,v,l,rfl⟩
def Pd(s:Sm):List (Nat×List UInt8):=QK s.bB (ED s.kind s.p s.q s.g s.k s.args)
structure Sm.Ok(s:Sm):Prop where
 k:s.k<4
 kind:s.kind≤9
 args:s.args.length≤2
theorem ZD(s:Sm)(h:s.Ok):(Ye s).flatMap KC=Pd s:=by unfold Ye Pd;rw [List.flatMap_cons,ZL,Sm.st,ZE _ _ _ _ _ _ h.args];rfl
theorem Jg(s:Sm):∃a m,Pd s=a::m∧Bb a.1:=by
 obtain ⟨a,m,e,b⟩:=K8 s.kind s.p s.q s.g s.k s.args;unfold Pd QK;split
 ·exact ⟨_,_,rfl,by unfold Bb;simp⟩
 ·exact ⟨_,_,rfl,by unfold Bb;simp⟩
 ·exact ⟨_,_,rfl,by unfold Bb;simp⟩
 ·rw [e];exact ⟨a,m++[(14,[59])],rfl,by unfold Bb;omega⟩
def Pf:List Sm→List TS→Prop
 | [],[]=>True
 | s::a,t::b=>ZQ s t∧Pf a b
 | _,_=>False
theorem Sf{k:Nat}(h:Bb k):k≠8:=by unfold Bb at h;omega
theorem Lc{d:List PT}{n:Nat}:∀(b:List Sm) (f:Nat) (x:PS) (c:List TS) (r:List (Nat×List UInt8)),(∀s,s∈b→s.Ok)→b.length+4≤f→BH d x.next (b.flatMap Pd++(13,[125])::r)→
 ∃l,AB d n f x c=(c++l,⟨x.next+(b.flatMap Pd).length,x.m8,x.aS⟩)∧Pf b l
 | [],f,x,c,r,_,j,h=>by obtain ⟨f,rfl⟩:∃g,f=g+1:=⟨f-1,by simp at j;omega⟩;have u:=BH.pt (ks:=r) h;refine ⟨[],?_,trivial⟩;rw [AB,if_neg (by rw [u.1];decide)];simp
 | s::b,f,x,c,r,o,j,h=>by
   obtain ⟨f,rfl⟩:∃g,f=g+3+1:=⟨f-4,by simp at j;omega⟩;rw [List.flatMap_cons,List.append_assoc] at h;have p:=o s List.mem_cons_self;obtain ⟨a,m,w,A⟩:=Jg s;have k:=h.left;have i:=h.right;have z:(Ag d (x.next+(Pd s).length)).kind≠8:=by
    cases b with
    | nil=> have:=BH.pt (ks:=r) i;rw [this.1];decide
    | cons H b=> obtain ⟨I,F,y,B⟩:=Jg H;rw [List.flatMap_cons,y] at i;have:=BH.pt (ks:=F++b.flatMap Pd++(13,[125])::r) i;rw [this.1];exact Sf B
   obtain ⟨t,e,E⟩:=TK (n:=n) (f:=f) x s p.k p.kind k z;have C:Bb (Ag d x.next).kind:=by rw [w] at k;rw [k.pt.1];exact A
   obtain ⟨l,v,D⟩:=Lc b (f+3) ⟨x.next+(Pd s).length,x.m8,x.aS⟩ (c++[t]) r (fun G q=>o G (rT _ q)) (by simp at j;omega) i;refine ⟨t::l,?_,⟨E,D⟩⟩;rw [AB,if_pos C,e];show AB d n (f+3) ⟨x.next+(Pd s).length,x.m8,x.aS⟩ (c++[t])=_;rw [v];simp only [List.append_assoc,List.singleton_append,List.flatMap_cons,rV,Nat.add_assoc]
def WO(v:Nat):List (Nat×List UInt8):=[(4,[118,97,114]),C6 v,(14,[59])]
theorem Y1(v:Nat):(T7 v).flatMap KC=WO v:=by simp only [T7,List.flatMap_cons,List.flatMap_nil,DD,Eo];rfl
def aD(v:Nat)(t:TS):Prop:=∃w,t=.mk w []∧w.kind=0∧tx w.tg=Cx v∧w.args=[]
def Ui:List Nat→List TS→Prop
 | [],[]=>True
 | v::b,t::a=>aD v t∧Ui b a
 | _,_=>False
theorem Sr{c:List PT}{n f:Nat}(x:PS)(v:Nat)(h:BH c x.next (WO v)):∃t,AV c n (f+1) x=(t,⟨x.next+3,x.m8,x.aS⟩)∧aD v t:=by have a:=BH.pt h;have b:=(BH.tail h).pt;have d:=(BH.tail (BH.tail h)).pt;simp only [C6] at a b d;refine ⟨.mk ⟨0,Ag c (x.next+1),Bj,0,[]⟩ [],?_,_,rfl,rfl,b.2,rfl⟩;rw [AV,if_neg (by rw [a.1];decide),if_neg (by rw [a.1];decide)];simp [AF,Af,Ax,a.1,b.1,d.1]
theorem Kv{c:List PT}{n:Nat}:∀(a:List Nat) (f:Nat) (x:PS) (b:List TS) (r:List (Nat×List UInt8)),BH c x.next (a.flatMap WO++r)→
 ∃l,AB c n (f+1+a.length) x b=AB c n (f+1) ⟨x.next+3*a.length,x.m8,x.aS⟩ (b++l)∧Ui a l
 | [],f,x,b,r,h=>⟨[],by simp,trivial⟩
 | v::a,f,x,b,r,h=>by
   rw [List.flatMap_cons,List.append_assoc] at h;have i:=h.left;have m:BH c (x.next+3) (a.flatMap WO++r):=h.right;have j:=BH.pt i;obtain ⟨t,e,p⟩:=Sr (n:=n) (f:=f+a.length) x v i;obtain ⟨l,d,o⟩:=Kv a f ⟨x.next+3,x.m8,x.aS⟩ (b++[t]) r m;have k:f+1+(v::a).length=(f+1+a.length)+1:=by simp only [rW];omega
   have g:f+1+a.length=f+a.length+1:=by omega
   refine ⟨t::l,?_,p,o⟩;rw [k,AB,if_pos (by rw [j.1];decide),g,e];rw [g] at d;rw [d];simp only [List.append_assoc,List.singleton_append,rW];congr 2;omega
def FU(f:Nat)(a:List Sm):List (Nat×List UInt8):=
 (3,[102,110])::Wt f::(10,[40])::((List.range (f % 3)).map C6++(11,[41])::(12,[123])::(((List.range 4).drop (f % 3)).flatMap WO++(a.flatMap Pd++[(13,[125])])))
def Y9(f:Nat)(c:List Sm)(t:TF):Prop:=tx t.name=II f∧t.i8.map tx=(List.range (f % 3)).map Cx∧∃a b,t.v8=a++b∧Ui ((List.range 4).drop (f % 3)) a∧Pf c b
theorem Xu(s:Sm):1≤(Pd s).length:=by obtain ⟨a,m,e,_⟩:=Jg s;rw [e];simp
theorem ND:∀(a:List Sm),a.length≤(a.flatMap Pd).length
 | []=>rR _
 | s::a=>by have b:=Xu s;have c:=ND a;rw [List.flatMap_cons,rV,rW];omega
theorem UM:∀(a:List Nat),(a.flatMap WO).length=3*a.length
 | []=>rfl
 | v::a=>by rw [List.flatMap_cons,rV,UM a,rW];simp only [WO,rW,List.length_nil];omega
theorem W8{b:List PT}{n:Nat}(L:n=b.length)(x:PS)(f:Nat)(a:List Sm)(r:List (Nat×List UInt8))(I:∀s,s∈a→s.Ok)(h:BH b x.next (FU f a++r)):
 ∃t,Hh b n x=(t,⟨x.next+(FU f a).length,x.m8,x.aS⟩)∧Y9 f a t:=by
 obtain ⟨i,d,e⟩:=x;have H:=h.len;have M:=ND a;have z:=UM ((List.range 4).drop (f % 3));have k:((List.range 4).drop (f % 3)).length=4-f % 3:=by simp
 have l:(List.range (f % 3)).length=f % 3:=by simp
 have y:(FU f a).length=f % 3+6+3*(4-f % 3)+(a.flatMap Pd).length:=by unfold FU;simp only [rW,rV,rX,l,z,k,List.length_nil];omega
 rw [rV,y] at H;unfold FU at h;simp only [List.cons_append,List.append_assoc] at h;have o:=BH.pt h;have c:=(BH.tail h).pt;have u:=BH.tail (BH.tail h);obtain ⟨K,p,J⟩:=G8 (n:=n) ⟨i+1+1,d,e⟩ (List.range (f % 3)) u;have v:BH b (i+1+1+(f % 3)+2) ((12,[123])::(((List.range 4).drop (f % 3)).flatMap WO++(a.flatMap Pd++(13,[125])::r))):=by
  have q:BH b (i+1+1) (((10,[40])::((List.range (f % 3)).map C6++[(11,[41])]))++((12,[123])::(((List.range 4).drop (f % 3)).flatMap WO++(a.flatMap Pd++(13,[125])::r)))):=by simpa using u
  have:=q.right;simp only [rW,rV,rX,l,List.length_nil] at this;rwa [show i+1+1+(f % 3+(0+1)+1)=i+1+1+(f % 3)+2 by omega] at this
 have B:=v.pt;have w:=v.tail;obtain ⟨m,g,F⟩:=Kv (n:=n) ((List.range 4).drop (f % 3)) (2*n-(4-f % 3)) ⟨i+1+1+(f % 3)+2+1,d,e⟩ [] _ w;have j:=w.right;rw [z,k] at j;obtain ⟨A,D,G⟩:=Lc (n:=n) a (2*n-(4-f % 3)+1) ⟨i+1+1+(f % 3)+2+1+3*(4-f % 3),d,e⟩ ([]++m) r I (by omega) j;have C:=j.right.pt;rw [k] at g;have E:2*n-(4-f % 3)+1+(4-f % 3)=2*n+1:=by omega
 rw [E,D,List.nil_append] at g;simp only [Wt] at o c;rw [l] at p;refine ⟨⟨Ag b (i+1),K,(Ax b 12 ⟨i+1+1+(f % 3)+2,d,e⟩).c9,m++A⟩,?_,c.2,J,m,A,rfl,F,G⟩;unfold Hh;simp only [Bl o.1 (by decide),Bl c.1 (by decide),p,Bl B.1 (by decide),g,Bl C.1 (by decide),y];simp [Ax,c.1];omega
theorem YM(n:Nat)(h:n≤2):(Qc n).flatMap KC=(List.range n).map C6++[(11,[41])]:=by
 rcases n with _ | _ | _ | n
 ·rfl
 ·simp only [Qc,List.flatMap_cons,List.flatMap_nil,DD,Eo];rfl
 ·simp only [Qc,List.flatMap_cons,List.flatMap_nil,DD,Eo];rfl
 ·omega
theorem Gl{c:Type}{f:c→List BU}{g:c→List (Nat×List UInt8)}:∀(l:List c),(∀a,a∈l→(f a).flatMap KC=g a)→(l.flatMap f).flatMap KC=l.flatMap g
 | [],_=>rfl
 | a::l,h=>by rw [List.flatMap_cons,List.flatMap_append,h a List.mem_cons_self,Gl l (fun b d=>h b (rT _ d)),List.flatMap_cons]
theorem Zn(f:Nat)(a:List Sm)(h:∀s,s∈a→s.Ok):(Ya f a).flatMap KC=FU f a:=by
 have b:KC ⟨[102,110],32⟩=[(3,[102,110])]:=by decide
 have c:=Gl ((List.range 4).drop (f % 3)) (fun v _=>Y1 v);have d:=Gl a (fun s e=>ZD s (h s e));unfold Ya FU;simp only [List.flatMap_append,List.flatMap_cons,List.flatMap_nil,PQ,Eo,YM (f % 3) (by omega),b,c,d];simp [Nm,Bc]
def fsOf(a:List Sm):List (Nat×List Sm):=(List.range 4).map fun f=>(f,a.filter fun s=>s.aW==f)
def Lo(a:List (Nat×List Sm)):List (Nat×List UInt8):=a.flatMap fun q=>FU q.1 q.2
theorem Zz(a:List Sm)(h:∀s,s∈a→s.Ok):(YN a).flatMap KC=Lo (fsOf a):=by unfold YN Lo fsOf;rw [Gl (g:=fun f=>FU f (a.filter fun s=>s.aW==f)) _ (fun f _=>Zn f _ (fun s b=>h s (List.mem_filter.1 b).1)),List.flatMap_map]
def Pe:List (Nat×List Sm)→List TF→Prop
 | [],[]=>True
 | q::a,t::b=>Y9 q.1 q.2 t∧Pe a b
 | _,_=>False
theorem NI{c:List PT}{n:Nat}(i:n=c.length):∀(a:List (Nat×List Sm)) (m:Nat) (x:PS) (b:List TF),(∀q,q∈a→∀s,s∈q.2→s.Ok)→a.length<m→BH c x.next (Lo a++[(0,[])])→
 ∃l,CZ c n m x b=(b++l,⟨x.next+(Lo a).length,x.m8,x.aS⟩)∧Pe a l
 | [],m,x,b,_,d,h=>by obtain ⟨m,rfl⟩:∃k,m=k+1:=⟨m-1,by simp at d;omega⟩;have f:=BH.pt (ks:=[]) h;refine ⟨[],?_,trivial⟩;rw [CZ,if_neg (by rw [f.1];decide)];simp [Lo]
 | q::a,m,x,b,j,d,h=>by
   obtain ⟨m,rfl⟩:∃k,m=k+1:=⟨m-1,by simp at d;omega⟩;have e:Lo (q::a)=FU q.1 q.2++Lo a:=by simp [Lo]
   rw [e,List.append_assoc] at h;obtain ⟨t,o,v⟩:=W8 i x q.1 q.2 _ (j q List.mem_cons_self) h;have f:(Ag c x.next).kind=3:=by have g:=h;unfold FU at g;exact (BH.pt g).1
   obtain ⟨l,p,r⟩:=NI i a m ⟨x.next+(FU q.1 q.2).length,x.m8,x.aS⟩ (b++[t]) (fun w u=>j w (rT _ u)) (by simp at d;omega) h.right;refine ⟨t::l,?_,v,r⟩;rw [CZ,if_pos f,o];show CZ c n m ⟨x.next+(FU q.1 q.2).length,x.m8,x.aS⟩ (b++[t])=_;rw [p,e];simp only [List.append_assoc,List.singleton_append,rV,Nat.add_assoc]
theorem W9(a:List (Nat×List Sm)):a.length≤(Lo a).length:=by
 unfold Lo;induction a with
 | nil=>exact rN _
 | cons q a b=>
   rw [List.flatMap_cons,rV,rW];have:1≤(FU q.1 q.2).length:=by simp [FU]
   omega
theorem Tn{b:List PT}(a:List Sm)(p:∀s,s∈a→s.Ok)(h:b.map Wv=Lo (fsOf a)++[(0,[])]):
 ∃l v i,CM b b.length ⟨0,false,0⟩=(l,v,⟨i,false,0⟩)∧Pe (fsOf a) l:=by
 have d:BH b 0 (Lo (fsOf a)++[(0,[])]):=by unfold BH;rw [List.drop_zero,h];exact List.prefix_refl _
 have x:b.length=(Lo (fsOf a)).length+1:=by have:=congrArg List.length h;simpa using this
 have w:=W9 (fsOf a);have r:∀q,q∈fsOf a→∀s,s∈q.2→s.Ok:=fun q j s t=>by unfold fsOf at j;obtain ⟨f,_,rfl⟩:=List.mem_map.1 j;exact p s (List.mem_filter.1 t).1
 obtain ⟨l,e,o⟩:=NI (n:=b.length) rfl (fsOf a) (b.length+1) ⟨0,false,0⟩ [] r (by omega) d;have k:(Ag b 0).kind=3:=by
  have m:Lo (fsOf a)=FU 0 (a.filter fun s=>s.aW==0)++Lo ((fsOf a).drop 1):=by simp [Lo,fsOf,List.range_succ]
  have c:=d;rw [m] at c;unfold FU at c;exact (BH.pt c).1
 have g:=(BH.right d).pt;rw [CZ,if_pos k] at e;simp only [List.nil_append,Nat.zero_add] at e g;refine ⟨l,(Ax b 0 ⟨(Lo (fsOf a)).length,false,0⟩).c9,(Lo (fsOf a)).length,?_,o⟩;have u:Af b b.length 0 ⟨(Lo (fsOf a)).length,false,0⟩=⟨(Lo (fsOf a)).length,false,0⟩:=by unfold Af;rw [if_pos g.1,if_pos rfl]
 unfold CM;simp only [e,u]
def GA(v:Nat):ByteArray:=⟨(Cx v).toArray⟩
def Kz(f:Nat):ByteArray:=⟨(II f).toArray⟩
theorem Et{t:PT}{l:List UInt8}(h:tx t=l):t.a9=⟨l.toArray⟩:=by apply ByteArray.ext;apply Array.ext';exact h
theorem Wi{b:Type}{f:b→List UInt8}:∀{l:List PT} {m:List b},l.map tx=m.map f→l.map (fun p=>p.a9)=m.map fun a=>(⟨(f a).toArray⟩:ByteArray)
 | [],[],_=>rfl
 | [],_::_,h=>by simp at h
 | _::_,[],h=>by simp at h
 | t::l,a::m,h=>by simp only [List.map_cons,List.cons.injEq] at h⊢;exact ⟨Et h.1,Wi h.2⟩
def IJ:List ByteArray:=(List.range 4).map GA
def fnL:List ByteArray:=(List.range 4).map Kz
def paL:List Nat:=(List.range 4).map (·% 3)
structure Sm.In(s:Sm):Prop where
 ok:s.Ok
 aW:s.aW<4
 p:s.p<4
 q:s.q<4
 g:s.g<4
 a4:∀a,a∈s.args→a<4
 a7:s.kind=7→s.args.length=s.g % 3
theorem IE:∀v,v<4→CE IJ (GA v) 0=v:=by
 intro v a;have:v=0∨v=1∨v=2∨v=3:=by omega
 rcases this with rfl | rfl | rfl | rfl<;>decide+kernel
theorem Ib:∀v,v<4→CE fnL (Kz v) 0=v:=by
 intro v a;have:v=0∨v=1∨v=2∨v=3:=by omega
 rcases this with rfl | rfl | rfl | rfl<;>decide+kernel
theorem XN{a b:Nat}(e:a<4)(f:b<4)(h:GA a=GA b):a=b:=by have c:=IE a e;have d:=IE b f;rw [h,d] at c;omega
theorem M4{t:PT}{v:Nat}(a:v<4)(h:tx t=Cx v)(c:CS):FH IJ (Ai t) c=c:=by unfold FH;have:(Ai t).a9=GA v:=Et h;rw [this,IE v a,if_pos (by omega)]
theorem Li:∀{l:List PT} {m:List Nat} (c:CS),l.map tx=m.map Cx→(∀a,a∈m→a<4)→(l.map Ai).foldl (fun c t=>FH IJ t c) c=c
 | [],[],c,_,_=>rfl
 | [],_::_,_,h,_=>by simp at h
 | _::_,[],_,h,_=>by simp at h
 | t::l,a::m,c,h,d=>by simp only [List.map_cons,List.cons.injEq] at h;rw [List.map_cons,List.foldl_cons,M4 (d a List.mem_cons_self) h.1];exact Li c h.2 fun b e=>d b (rT _ e)
section
variable {i : List RF} (j : i.map (fun f => f.name.a9) = fnL) (k : i.map (fun f => f.aZ.length) = paL)
include j k
theorem Rk{t:PT}{g:Nat}{m:Int}(b:g<4)(h:tx t=II g)(d:m= -1∨m=(g % 3:Nat))(c:CS):JT i (Ai t) m c=c:=by
 unfold JT;have:(Ai t).a9=Kz g:=Et h;rw [j,k,this,Ib g b,if_pos (by omega),if_neg];rintro ⟨e,a⟩;rcases d with rfl | rfl
 ·omega
 ·apply a;have:g=0∨g=1∨g=2∨g=3:=by omega
  rcases this with rfl | rfl | rfl | rfl<;>rfl
theorem Oh{s:Sm}{v:VS}(d:s.In)(h:Ng s.kind s.p s.q s.g s.k s.args v)(c:CS):v.kind≠11∧v.kind≠12∧C3 i v (IJ,c)=(IJ,c):=by
 have p:=d.ok.kind;have g:=h.kd;have a:s.kind≤8→∀c,FH IJ (Ai v.tg) c=c:=fun q c=>M4 d.p (h.tg q) c
 have f:s.kind=1∨s.kind=3∨s.kind=4∨s.kind=5∨s.kind=6∨s.kind=8∨9≤s.kind→∀c,FH IJ (Ai v.sr) c=c:=fun q c=>M4 d.q (h.sr q) c
 have b:∀c,(v.args.map Ai).foldl (fun c t=>FH IJ t c) c=c:=fun c=>by
  have:=h.ar;split at this
  ·exact Li c this d.a4
  ·exact Li (m:=[]) c this (fun _ q=>by cases q)
 have n:s.kind=2→∀c,JT i (Ai v.sr) (-1) c=c:=fun q c=>Rk j k d.g (h.sf (.inl q)) (.inl rfl) c
 have l:s.kind=7→∀c,JT i (Ai v.sr) v.args.length c=c:=fun q c=>Rk j k d.g (h.sf (.inr q)) (.inr (by have e:=h.ar;rw [if_pos (.inl q)] at e;have:=congrArg List.length e;rw [rX,rX,d.a7 q] at this;rw [this])) c
 have o:s.kind=0∨s.kind=1∨s.kind=2∨s.kind=3∨s.kind=4∨s.kind=5∨s.kind=6∨s.kind=7∨s.kind=8∨s.kind=9:=by omega
 unfold C3 Qq;rcases o with e | e | e | e | e | e | e | e | e | e<;>rw [e] at g<;>simp only [kM] at g<;>refine ⟨by omega,by omega,?_⟩<;>rw [g]
 ·simp [a (by omega)]
 ·simp [a (by omega),f (by omega),b]
 ·simp [a (by omega),n e,b]
 ·simp [a (by omega),f (by omega),b]
 ·simp [a (by omega),f (by omega),b]
 ·simp [a (by omega),f (by omega),b]
 ·simp [a (by omega),f (by omega),b]
 ·simp [a (by omega),l e,b]
 ·simp [a (by omega),f (by omega),b]
 ·simp [f (by omega)]
theorem VL(d:Nat){s:Sm}{t:TS}(m:s.In)(h:ZQ s t)(c:CS):Hc i (d+2) 1 t (IJ,c)=(IJ,c):=by
 obtain ⟨v,n,e⟩:=h;obtain ⟨o,p,l⟩:=Oh j k m n c;have f:∀d g,Hc i (d+1) g (.mk v []) (IJ,c)=(IJ,c):=fun d g=>by rw [Hc,if_neg (by omega)];exact l
 split at e
 ·obtain ⟨a,rfl⟩:=e;rw [Hc,if_pos (by simp [Dh])];simp [f]
 ·obtain ⟨a,b,rfl⟩:=e;rw [Hc,if_pos (by simp [Dh])];simp [f]
 ·obtain ⟨a,rfl⟩:=e;rw [Hc,if_pos (by simp [Dh])];simp [f]
 ·subst e;exact f _ _
theorem OB(d:Nat):∀{a:List Sm} {ts:List TS} (c:CS),(∀s,s∈a→s.In)→Pf a ts→Oz i (d+2) 1 ts (IJ,c)=(IJ,c)
 | [],[],_,_,_=>rfl
 | [],_::_,_,_,h=>h.elim
 | _::_,[],_,_,h=>h.elim
 | s::a,t::ts,c,b,h=>by unfold Oz;rw [List.foldl_cons,VL j k d (b s List.mem_cons_self) h.1];exact OB d c (fun s q=>b s (rT _ q)) h.2
end
theorem Ku{a:List Nat}{t:PT}{v:Nat}(h:tx t=Cx v)(l:v<4)(f:∀u,u∈a→u<4)(d:v∉a)(m:a.length<12)(c:CS):EU (a.map GA) (Ai t) c=c:=by unfold EU;have e:(Ai t).a9=GA v:=Et h;simp only [rX];rw [if_neg (show¬12≤a.length by omega),e];refine if_neg ?_;intro q;have:=(Db (a.map GA) (GA v) 0).1.1 q;obtain ⟨u,b,g⟩:=List.mem_map.1 this;exact d (XN (f u b) l g▸b)
theorem OA(i:List RF)(d:Nat):∀(b a:List Nat) (l:List TS) (c:CS),Ui b l→(a++b).Nodup→(∀u,u∈a++b→u<4)→a.length+b.length≤4→Oz i (d+1) 1 l (a.map GA,c)=((a++b).map GA,c)
 | [],a,[],c,_,_,_,_=>by simp [Oz]
 | [],_,_::_,_,h,_,_,_=>h.elim
 | _::_,_,[],_,h,_,_,_=>h.elim
 | v::b,a,t::l,c,h,m,f,g=>by
   obtain ⟨⟨w,rfl,p,n,_⟩,r⟩:=h;have e:a++v::b=(a++[v])++b:=by simp
   have o:Hc i (d+1) 1 (.mk w []) (a.map GA,c)=((a++[v]).map GA,c):=by rw [Hc,if_neg (by omega)];unfold C3;rw [if_pos p,Ku n (f v (by simp)) (fun u s=>f u (by simp [s])) (fun q=>((List.nodup_append.1 m).2.2 v q v (by simp)) rfl) (by simp only [rW] at g;omega)];simp [Et n,GA]
   have:=OA i d b (a++[v]) l c r (by rw [←e];exact m) (by rw [←e];exact f) (by simp only [rV,rW,List.length_nil] at g⊢;omega);unfold Oz at this⊢;rw [List.foldl_cons,o,this,e]
theorem KY:∀(b a:List Nat) (l:List PT) (c:CS),l.map tx=b.map Cx→(a++b).Nodup→(∀u,u∈a++b→u<4)→a.length+b.length≤4→Dt l (a.map GA,c)=((a++b).map GA,c)
 | [],a,[],c,_,_,_,_=>by simp [Dt]
 | [],_,_::_,_,h,_,_,_=>by simp at h
 | _::_,_,[],_,h,_,_,_=>by simp at h
 | v::b,a,t::l,c,h,g,d,f=>by
   simp only [List.map_cons,List.cons.injEq] at h;have e:a++v::b=(a++[v])++b:=by simp
   have:=KY b (a++[v]) l c h.2 (by rw [←e];exact g) (by rw [←e];exact d) (by simp only [rV,rW,List.length_nil] at f⊢;omega);unfold Dt at this⊢;rw [List.foldl_cons];simp only;rw [Ku h.1 (d v (by simp)) (fun u m=>d u (by simp [m])) (fun q=>((List.nodup_append.1 g).2.2 v q v (by simp)) rfl) (by simp only [rW] at f;omega),e];rw [←this];simp [Et h.1,GA]
theorem Gt{i:List RF}(j:i.map (fun f=>f.name.a9)=fnL)(k:i.map (fun f=>f.aZ.length)=paL){f:Nat}{m:List Sm}{t:TF}(C:f<4)(G:∀s,s∈m→s.In)(h:Y9 f m t)(c:CS):(DZ i 4000 f t c).2=c:=by
 obtain ⟨w,x,b,d,y,z,A⟩:=h;have D:EK i f t c=c:=by unfold EK;have e:t.name.a9=Kz f:=Et w;rw [j,e,Ib f C,if_pos rfl,if_neg (by omega)]
 have g:List.range 4=List.range (f % 3)++(List.range 4).drop (f % 3):=by
  have:f % 3=0∨f % 3=1∨f % 3=2:=by omega
  rcases this with e | e | e<;>rw [e]<;>rfl
 have F:(List.range 4).Nodup:=List.nodup_range;have E:∀u,u∈List.range 4→u<4:=fun u a=>List.mem_range.1 a
 have B:((List.range 4).drop (f % 3)).length=4-f % 3:=by simp
 have H:f % 3≤4:=by omega
 have q:=KY (List.range (f % 3)) [] t.i8 c x (by rw [List.nil_append];exact List.nodup_range) (fun u a=>by rw [List.nil_append] at a;have:=List.mem_range.1 a;omega) (by simp;omega);have l:=OA i 3999 ((List.range 4).drop (f % 3)) (List.range (f % 3)) b c z (by rw [←g];exact F) (by rw [←g];exact E) (by rw [B];simp;omega);rw [←g] at l;have r:=OB j k 3998 (ts:=d) c G A;unfold DZ;rw [D,y];have n:Dt t.i8 ([],c)=((List.range (f % 3)).map GA,c):=by simpa using q
 rw [n];have o:Oz i 4000 1 (b++d) ((List.range (f % 3)).map GA,c)=Oz i 4000 1 d (Oz i 4000 1 b ((List.range (f % 3)).map GA,c)):=by unfold Oz;rw [List.foldl_append]
 rw [o];have p:Oz i 4000 1 b ((List.range (f % 3)).map GA,c)=(IJ,c):=l;rw [p];have v:Oz i 4000 1 d (IJ,c)=(IJ,c):=r;rw [v]
theorem Tq{i:List RF}(j:i.map (fun f=>f.name.a9)=fnL)(k:i.map (fun f=>f.aZ.length)=paL){a:List Sm}(g:∀s,s∈a→s.In){d:List TF}(h:Pe (fsOf a) d)(x:List RF)(c:CS):(Ds i 4000 d 0 (x,c)).2=c:=by
 have b:∀f,∀s,s∈(a.filter fun s=>s.aW==f)→s.In:=fun f s q=>g s (List.mem_filter.1 q).1
 have e:fsOf a=[(0,a.filter fun s=>s.aW==0),(1,a.filter fun s=>s.aW==1),(2,a.filter fun s=>s.aW==2),(3,a.filter fun s=>s.aW==3)]:=rfl;rw [e] at h;rcases d with _ | ⟨l,_ | ⟨m,_ | ⟨n,_ | ⟨o,_ | ⟨p,r⟩⟩⟩⟩⟩
 ·exact h.elim
 ·exact h.2.elim
 ·exact h.2.2.elim
 ·exact h.2.2.2.elim
 ·simp only [Ds];rw [Gt j k (by omega) (b 3) h.2.2.2.1,Gt j k (by omega) (b 2) h.2.2.1,Gt j k (by omega) (b 1) h.2.1,Gt j k (by omega) (b 0) h.1]
 ·exact h.2.2.2.2.elim
theorem LS{a:List Sm}{b:List TF}(h:Pe (fsOf a) b):b.map (fun t=>t.name.a9)=fnL∧b.map (fun t=>t.i8.length)=paL:=by
 have e:fsOf a=[(0,a.filter fun s=>s.aW==0),(1,a.filter fun s=>s.aW==1),(2,a.filter fun s=>s.aW==2),(3,a.filter fun s=>s.aW==3)]:=rfl;rw [e] at h;have L:∀{f a t},Y9 f a t→t.i8.length=f % 3:=fun h=>by have:=congrArg List.length h.2.1;simpa using this
 rcases b with _ | ⟨m,_ | ⟨n,_ | ⟨o,_ | ⟨p,_ | ⟨q,r⟩⟩⟩⟩⟩
 ·exact h.elim
 ·exact h.2.elim
 ·exact h.2.2.elim
 ·exact h.2.2.2.elim
 ·obtain ⟨c,d,g,l,_⟩:=h;simp only [List.map_cons,List.map_nil,Et c.1,Et d.1,Et g.1,Et l.1,L c,L d,L g,L l];exact ⟨rfl,rfl⟩
 ·exact h.2.2.2.2.elim
theorem UW{i:List RF}(j:i.map (fun f=>f.name.a9)=fnL)(k:i.map (fun f=>f.aZ.length)=paL)(N:Nat)(c:CS):Nz i N c=c:=by unfold Nz;rw [j,k];exact if_pos (by decide+kernel)
theorem Ml(m E)(hF:Cf m E)(s:ByteArray)(r:s.size≤4000)(y:Sc)(A:Aw s s.size 0 x0=.inr y)(d:List TF)(h:Nat)(x:PS)(o:CM (AH s y) (AH s y).length ⟨0,false,0⟩=(d,h,x))(D:x.m8=false)
 (p:(∀j:List RF,j.map (fun f=>f.name.a9)=d.map (fun t=>t.name.a9)→j.map (fun f=>f.aZ.length)=d.map (fun t=>t.i8.length)→Lt d 4000 h=Nz j s.size (Ds j 4000 d 0 (j,⟨0,0⟩)).2→(Lt d 4000 h).aR=0)):
 GoodP d∧(∀t,t∈d→∀u,u∈t.v8→Na 4000 u)∧
  (∀w,Below m E w→m≤w.heap.size→Calls Tryz.prog 36 #[.string s] w fun e v=>∃(g n z:Nat) (a:Option Addr) (l c:Nat) (U:Nat→Prop),e=.returned (.tuple #[.slice (some ⟨g,0,none⟩) n z,.agg #[.slice a l c,.int .i64 h],.int .i64 0,.int .i64 0])∧Di 4000 U v (.slice a l c) d∧(∀k,U k→k<v.heap.size)∧Below w.heap.size w v):=by
 have K:=Qo A;have S:=K.end_;have F:(AH s y).length≤4001:=rO K.bA (by omega);obtain ⟨H,T,V,_,_,W⟩:=mX K r F d h x o D
 have I:=W _ (lM d) (lN d);have p:=p _ (lM d) (lN d) I;have O:Z0 d:=Yv (lM d) (lN d) (fun t i u C=>by obtain ⟨_,_,q⟩:=V t i u C;exact q.shp) (N:=s.size) (by rw [←I];exact p)
 obtain ⟨X,Y⟩:=Vw K r F d h x o D
 have R:=Qp (s:=s) (y:=y) A;have G:GoodP d:=⟨O,X,Y,by have:=Vv (toks:=AH s y) (Q:=fun b=>Ud b∧b.size≤4000) (fun t i B=>⟨R t i B,rO (K.len t i).1 r⟩) ⟨KJ,by decide⟩ (AH s y).length ⟨0,false,0⟩;rw [o] at this;exact this⟩
 refine ⟨G,fun t i=>(H.each t i).2.1,fun w L J=>?_⟩;refine (Ow m E hF s y r A d h x o D w L J S 4000 T H _ rfl p).mono ?_;rintro e v ⟨g,z,a,l,c,U,rfl,_,_,P,C,M⟩;exact ⟨g,_,z,a,l,c,U,rfl,P,fun k B=>(C k B).2,M⟩
theorem TT(d r)(hF:Cf d r)(s:ByteArray)(f:List Sm)(v:∀s,s∈f→s.In)(F:s.size≤4000)(y:Sc)(D:Aw s s.size 0 x0=.inr y)(E:(AH s y).map Wv=Lo (fsOf f)++[(0,[])]):
 ∃(b:List TF) (h:Nat),Pe (fsOf f) b∧GoodP b∧(∀t,t∈b→∀u,u∈t.v8→Na 4000 u)∧
  (∀w,Below d r w→d≤w.heap.size→Calls Tryz.prog 36 #[.string s] w fun e p=>∃(g n x:Nat) (a:Option Addr) (l c:Nat) (U:Nat→Prop),e=.returned (.tuple #[.slice (some ⟨g,0,none⟩) n x,.agg #[.slice a l c,.int .i64 h],.int .i64 0,.int .i64 0])∧Di 4000 U p (.slice a l c) b∧(∀k,U k→k<p.heap.size)∧Below w.heap.size w p):=by
 obtain ⟨b,h,i,C,j⟩:=Tn f (fun s q=>(v s q).ok) E;obtain ⟨z,A,B⟩:=Ml d r hF s F y D b h _ C rfl (fun J m o I=>by obtain ⟨G,H⟩:=LS j;rw [G] at m;rw [H] at o;rw [I,Tq m o v j,UW m o])
 exact ⟨b,h,j,z,A,B⟩
abbrev PH:ByteArray:=⟨#[102,110,32,109,97,105,110,40,41,32,123,32,118,97,114,32,112,59,32,118,97,114,32,113,59,32,112,32,61,32,110,101,119,59,32,113,32,61,32,38,112,46,50,59,32,42,113,32,61,32,112,59,32,112,32,61,32,42,113,59,32,125]⟩
def Y6:Sc:=match Aw PH PH.size 0 ⟨[],false,0,0⟩ with
 | .inr y=>y
 | .inl _=>⟨[],false,0,0⟩
theorem Zi:(match Aw PH PH.size 0 ⟨[],false,0,0⟩ with | .inr _=>true | .inl _=>false)=true:=by decide+kernel
theorem WW:Aw PH PH.size 0 x0=.inr Y6:=by
 have h:=Zi;show Aw PH PH.size 0 ⟨[],false,0,0⟩=.inr Y6;unfold Y6;cases a:Aw PH PH.size 0 ⟨[],false,0,0⟩ with
 | inl p=>rw [a] at h;cases h
 | inr y=>rfl
def Uf:List TF×Nat×PS:=CM (AH PH Y6) (AH PH Y6).length ⟨0,false,0⟩
theorem Zj:Uf.2.2.m8=false:=by decide+kernel
theorem Yy:(Lt Uf.1 4000 Uf.2.1).aR=0:=by decide+kernel
def Nc:List PFn:=Bu (DU Uf.1) Uf.1 0 0
def Yf(s:AY):List Nat:=[s.kind,s.aQ,s.r9,s.field,s.m9]
theorem Rd:Nc.map (fun f=>f.b9.map Yf)=[[[0,0,0,0,0],[0,1,0,0,0],[1,0,0,0,1],[3,1,0,2,0],[9,1,0,0,0],[5,0,1,0,0]]]:=by decide+kernel
theorem YA:(BB (DU Uf.1) Uf.1 0 0).1=1:=by decide+kernel
end Go.Proofs.YtegmjgjkcdbmkaaGreatDoor
