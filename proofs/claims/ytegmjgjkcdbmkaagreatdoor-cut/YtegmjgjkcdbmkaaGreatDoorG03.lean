/- One of the texts of the proof of cut_card_holds: ScA ScB KpD. -/
import Derived.Test.YtegmjgjkcdbmkaaGreatDoorG02
import Derived.Laws.RangeAny
import Derived.Laws.Strings
namespace Go.Proofs.YtegmjgjkcdbmkaaGreatDoor
open Go.RowKit
structure PT where
 kind:Nat
 i6:ByteArray
 i9:Nat
structure Sc where
 Yq:List PT
 rem:Bool
 start:Nat
 Yb:Nat
def DX(l:List UInt8):Nat:=
 if l=[102,110] then 3 else if l=[118,97,114] then 4 else if l=[110,101,119] then 5 else if l=[114,101,116,117,114,110] then 6 else if l=[105,102] then 7 else if l=[101,108,115,101] then 8 else if l=[119,104,105,108,101] then 9 else 1
def BI(r:Nat):Nat:=
 if r=48∨r=49∨r=50∨r=51 then 2 else if r=40 then 10 else if r=41 then 11 else if r=123 then 12 else if r=125 then 13 else if r=59 then 14 else if r=61 then 15 else if r=38 then 16 else if r=42 then 17 else if r=64 then 18 else if r=46 then 19 else if r=63 then 20 else 0
def Ja(r:Nat):Bool:=(decide (97≤r) && decide (r≤122)) || (decide (224≤r) && decide (r≤255) && (r !=247))
def Dd(s:ByteArray)(p r:Nat):Bool:=r==65533 && !(decide (p+3≤s.size) && (s.extract p (p+3)).toList==[239,191,189])
def Da(s:ByteArray)(e:Nat)(x:Sc):Sc:=
 if 0<x.Yb then ⟨x.Yq++[⟨DX (s.extract x.start e).toList,s.extract x.start e,x.start⟩],x.rem,x.start,0⟩ else ⟨x.Yq,x.rem,x.start,0⟩
def Cs(p:Nat)(x:Sc):Sc:=⟨x.Yq,x.rem,if x.Yb=0 then p else x.start,x.Yb+1⟩
def Dz(s:ByteArray)(p r:Nat)(x:Sc):Sc×Nat×Bool:=
 if r=32∨r=9∨r=10 then (x,0,true)
 else if r=35 then (⟨x.Yq,true,x.start,x.Yb⟩,0,true)
 else if BI r=0 then (x,p,false)
 else (⟨x.Yq++[⟨BI r,s.extract p (p+1),p⟩],x.rem,x.start,x.Yb⟩,0,true)
def AU(s:ByteArray)(p r:Nat)(x:Sc):Sc×Nat×Bool:=
 if Dd s p r then (x,p,false)
 else if x.rem then (⟨x.Yq,r !=10,x.start,x.Yb⟩,0,true)
 else if Ja r then (if 8<x.Yb+1 then (Cs p x,(Cs p x).start,false) else (Cs p x,0,true))
 else Dz s p r (Da s p x)
def AK(s:ByteArray):Nat→Nat→Sc→Nat ⊕ Sc
 | 0,_,x=>.inr x
 | f+1,p,x=>if p<s.size then
    (if (AU s p (Utf8.decode s p).1 x).2.2 then AK s f (p+(Utf8.decode s p).2) (AU s p (Utf8.decode s p).1 x).1
     else .inl (AU s p (Utf8.decode s p).1 x).2.1)
   else .inr x
def AC(s:ByteArray)(x:Sc):List PT:=(Da s s.size x).Yq++[⟨0,s.extract s.size s.size,s.size⟩]
theorem DI{s f p x}(h:¬p<s.size):AK s f p x=.inr x:=by
 cases f with
 | zero=>rfl
 | succ f=>simp only [AK,if_neg h]
theorem Ej{s f p x}(b:s.size-p≤f)(h:p<s.size)(a:(AU s p (Utf8.decode s p).1 x).2.2=false):AK s f p x=.inl (AU s p (Utf8.decode s p).1 x).2.1:=by
 cases f with
 | zero=>omega
 | succ f=>simp [AK,if_pos h,a]
theorem FO(s p)(h:p<s.size):1≤(Utf8.decode s p).2:=by
 by_cases a:(s[p]'h).toNat<128
 ·rw [decode_ascii s p h a];exact Nat.le_refl _
 ·exact (decode_high s p h (by omega)).2
theorem Dr{s f p x}(d:s.size-p≤f)(h:p<s.size)(b:(AU s p (Utf8.decode s p).1 x).2.2=true):
 ∃a,s.size-(p+(Utf8.decode s p).2)≤a∧AK s f p x=AK s a (p+(Utf8.decode s p).2) (AU s p (Utf8.decode s p).1 x).1:=by
 have c:=FO s p h;cases f with
 | zero=>omega
 | succ f=>exact ⟨f,by omega,by simp [AK,if_pos h,b]⟩
structure JI(p:Nat)(x:Sc):Prop where
 start:x.start≤p
 Yb:x.Yb≤8
 many:x.Yq.length+x.Yb≤p
theorem JI.more{p q x}(h:JI p x)(a:p≤q):JI q x:=⟨Nat.le_trans h.start a,h.Yb,Nat.le_trans h.many a⟩
theorem JI.YG{s p x}(h:JI p x):JI p (Da s p x):=by
 have a:=h.start;have b:=h.many;unfold Proofs.YtegmjgjkcdbmkaaGreatDoor.Da;split
 ·exact ⟨a,by simp,by simp;omega⟩
 ·exact ⟨a,by simp,by simp;omega⟩
theorem DR(s p x):(Da s p x).Yb=0:=by unfold Da;split<;>rfl
theorem TH(s p x):(Da s p x).rem=x.rem:=by unfold Da;split<;>rfl
theorem Vc{s p r x}(h:JI p x)(a:(AU s p r x).2.2=true):JI (p+1) (AU s p r x).1:=by
 have k:=h.start;have l:=h.many;have m:=h.Yb;unfold AU at a⊢;split
 ·rename_i c;simp [c] at a
 ·rename_i c;simp only [c] at a;split
  ·exact ⟨by simp;omega,by simp;omega,by simp;omega⟩
  ·rename_i g;simp only [g] at a;split
   ·rename_i f;simp only [f,if_true] at a;split
    ·rename_i e;simp [e] at a
    ·exact ⟨by simp only [Cs];split<;>omega,by simp only [Cs];omega,by simp only [Cs];omega⟩
   ·have b:=h.YG (s:=s);have i:=b.start;have j:=b.many;have d:=DR s p x;unfold Dz;split
    ·exact b.more (by omega)
    ·split
     ·exact ⟨by simp;omega,by simp [d],by simp;omega⟩
     ·split
      ·exact b.more (by omega)
      ·exact ⟨by simp;omega,by simp [d],by simp;omega⟩
theorem FR{c}(a:(E3 c || CS c || I1 c)=true):Ja c.toNat=false∧((c.toNat=32∨c.toNat=9∨c.toNat=10)∨BI c.toNat≠0)∧c.toNat≠35:=by
 revert a;have:∀n:Fin 256,(E3 (UInt8.ofNat n) || CS (UInt8.ofNat n) || I1 (UInt8.ofNat n))=true→Ja n=false∧(((n:Nat)=32∨(n:Nat)=9∨(n:Nat)=10)∨BI n≠0)∧(n:Nat)≠35:=by decide+kernel
 have h:=this ⟨c.toNat,c.toNat_lt⟩;simpa using h
theorem HU{c}(a:HA c=true):Ja c.toNat=true:=by
 revert a;have:∀n:Fin 256,HA (UInt8.ofNat n)=true→Ja n=true:=by decide+kernel
 have h:=this ⟨c.toNat,c.toNat_lt⟩;simpa using h
theorem E2{c}(a:HA c=true∨(E3 c || CS c || I1 c)=true):c.toNat<128:=by
 revert a;have:∀n:Fin 256,HA (UInt8.ofNat n)=true∨(E3 (UInt8.ofNat n) || CS (UInt8.ofNat n) || I1 (UInt8.ofNat n))=true→(n:Nat)<128:=by decide+kernel
 have h:=this ⟨c.toNat,c.toNat_lt⟩;simpa using h
theorem Ka(s p r)(h:r<65533):Dd s p r=false:=by
 have:(r==65533)=false:=by simp;omega
 simp [Dd,this]
theorem F6(s p)(h:p<s.size)(c:s[p]'h=255):Dd s p (Utf8.decode s p).1=true:=by
 have d:(Utf8.decode s p).1=65533:=by simp only [Utf8.decode,get_at s p h,c];simp [Utf8.runeError]
 rw [d];have f:∀t,(s.extract p (p+3)).toList≠239::t:=by
  intro t e;rw [ByteArray.toList_eq] at e;have a:(s.extract p (p+3)).data.toList[0]? =some 239:=by rw [e];rfl
  have g:p<s.data.size:=h;simp [ByteArray.data_extract,Array.getElem?_eq_getElem g] at a;have b:s[p]'h=239:=by rw [←a];rfl
  rw [c] at b;cases b
 have:((s.extract p (p+3)).toList==[239,191,189])=false:=by simp [f]
 simp [Dd,this]
theorem Fk(s i)(C:i<s.size)(y:Dd s i (Utf8.decode s i).1=true):
 ∀(m p f:Nat) (x:Sc) (j:Nat),p+m=i→s.size-p≤f→x.rem=false→A4 x.Yb ((s.data.toList.drop p).take m)=some j→AK s f p x=.inl i:=by
 intro m;induction m with
 | zero=>
   intro p f x j F o d _;have e:p=i:=by omega
   subst e;have h:AU s p (Utf8.decode s p).1 x=(x,p,false):=by simp [AU,y]
   rw [Ej o C (by rw [h]),h]
 | succ m I=>
   intro p f x j F o d a;have g:p<s.size:=by omega
   have E:p<s.data.toList.length:=by simpa using g
   rw [List.drop_eq_getElem_cons E,List.take_succ_cons] at a;have z:s.data.toList[p]=s[p]'g:=by simp;rfl
   rw [z] at a;generalize r:s[p]'g=c at*;have go:∀k,(c.toNat<128)→AU s p c.toNat x=(k,0,true)→k.rem=false→A4 k.Yb (List.take m (List.drop (p+1) s.data.toList))=some j→AK s f p x=.inl i:=by
    intro k b h G B;have n:Utf8.decode s p=(c.toNat,1):=by rw [←r];exact decode_ascii s p g (by rw [r];exact b)
    obtain ⟨w,t,A⟩:=Dr (x:=x) o g (by rw [n,h]);rw [A,n,h];rw [n] at t;exact I (p+1) w k j (by omega) t G B
   simp only [A4] at a;split at a
   ·rename_i u;split at a
    ·rename_i M;have b:=E2 (.inl u);refine go (Cs p x) b ?_ (by simp [Cs,d]) (by simpa [Cs] using a);have H:¬8<x.Yb+1:=by omega
     simp [AU,Ka s p c.toNat (by omega),d,HU u,H]
    ·cases a
   ·split at a
    ·rename_i N v;have b:=E2 (.inr v);obtain ⟨J,K,L⟩:=FR v;have q:AU s p c.toNat x=Dz s p c.toNat (Da s p x):=by simp [AU,Ka s p c.toNat (by omega),d,J]
     by_cases l:c.toNat=32∨c.toNat=9∨c.toNat=10
     ·refine go (Da s p x) b ?_ (by rw [TH,d]) (by rw [DR];exact a);rw [q,Dz,if_pos l]
     ·have D:BI c.toNat≠0:=K.resolve_left l;refine go ⟨(Da s p x).Yq++[⟨BI c.toNat,s.extract p (p+1),p⟩],(Da s p x).rem,(Da s p x).start,(Da s p x).Yb⟩ b ?_ (by simp only;rw [TH,d]) (by simp only;rw [DR];exact a);rw [q,Dz,if_neg l,if_neg L,if_neg D]
    ·cases a
abbrev x0:Sc:=⟨[],false,0,0⟩
def Lq(s:ByteArray):Option (List (Nat×Nat)):=match AK s s.size 0 x0 with
 | .inl _=>none
 | .inr x=>some ((AC s x).map fun t=>(t.kind,t.i9))
abbrev BL:List UInt8:=[102,110,32,109,97,105,110,40,41]
def D0(n:Nat):List (Nat×Nat):=
 if n≤3 then [(3,0),(0,n)] else if n≤7 then [(3,0),(1,3),(0,n)] else if n=8 then [(3,0),(1,3),(10,7),(0,8)] else [(3,0),(1,3),(10,7),(11,8),(0,9)]
theorem KR:∀n:Fin 8,Lq ⟨⟨BL.take (n+2)⟩⟩=some (D0 (n+2)):=by decide+kernel
theorem L0(s n)(b:2≤n)(c:n≤9)(a:s.data.toList=BL.take n):Lq s=some (D0 n):=by
 have h:=KR ⟨n-2,by omega⟩;simp only [show n-2+2=n from by omega] at h;have e:s=⟨⟨BL.take n⟩⟩:=by rw [←a]
 rw [e];exact h
structure B9(g off:Nat)(ls:List Ln)(w:World):Prop where
 lt:ls≠[]→g<w.heap.size
 c0:∀i (h:i<ls.length),w.cell? ⟨g,off+i*6,none⟩=some (.int .i64 ls[i].a0)
 c1:∀i (h:i<ls.length),w.cell? ⟨g,off+i*6+1,none⟩=some (.int .i64 ls[i].a1)
 c2:∀i (h:i<ls.length),w.cell? ⟨g,off+i*6+2,none⟩=some (.int .i64 ls[i].a2)
 c3:∀i (h:i<ls.length),w.cell? ⟨g,off+i*6+3,none⟩=some (.int .i64 ls[i].a3)
 c4:∀i (h:i<ls.length),w.cell? ⟨g,off+i*6+4,none⟩=some (.int .i64 ls[i].a4)
 c5:∀i (h:i<ls.length),w.cell? ⟨g,off+i*6+5,none⟩=some (.int .i64 ls[i].a5)
theorem B9.f8{g j:Nat}{b:List Ln}{w d:World}(h:B9 g j b w)(f:Ab (fun _=>False) w d):B9 g j b d:=by
 have k:∀o,b≠[]→d.cell? ⟨g,o,none⟩=w.cell? ⟨g,o,none⟩:=fun o c=>World.cell?_of_block (f.block g (h.lt c) (fun q=>q))
 have e:∀i,i<b.length→b≠[]:=fun i a e=>by subst e;simp at a
 exact ⟨fun c=>Nat.lt_of_lt_of_le (h.lt c) f.size,fun i a=>(k _ (e i a)).trans (h.c0 i a),fun i a=>(k _ (e i a)).trans (h.c1 i a),fun i a=>(k _ (e i a)).trans (h.c2 i a),fun i a=>(k _ (e i a)).trans (h.c3 i a),fun i a=>(k _ (e i a)).trans (h.c4 i a),fun i a=>(k _ (e i a)).trans (h.c5 i a)⟩
def Lk(e:Value)(b:List Ln)(w:World):Prop:=∃(a:Option Addr) (c:Nat),e=.slice a b.length c∧b.length≤c∧(b=[]∨∃g d,a=some ⟨g,d,none⟩∧B9 g d b w)
abbrev L6:Array Value:=#[.string {data:=#[]},.slice none 0 0,.int .i64 0,.int .i64 0]
structure PF(w:World)(s:ByteArray)(v:Value)(pl ca:Int)(m:Nat)(wr:World):Prop where
 o:Ar (w.heap.size+1) #[.string s,v,.int .i64 pl,.int .i64 ca] 25 wr
 t8:Ar w.heap.size L6 25 wr
 row:∃xs,wr.ownsRow w.heap.size 39 8 v m xs
 f8:Ab (fun _=>False) w wr
theorem PF.quiet{w:World}{s:ByteArray}{v:Value}{c b:Int}{m:Nat}{wr d:World}(h:PF w s v c b m wr)(a:Ab (fun _=>False) wr d):PF w s v c b m d:=by obtain ⟨f,e⟩:=h.row;exact ⟨h.o.f8 a (fun q=>q),h.t8.f8 a (fun q=>q),⟨f,Ac e a (fun _ _ q=>q)⟩,h.f8.YF a⟩
theorem Ab.set_far{w wr:World}{b i:Nat}{u:Value}(h:Ab (fun _=>False) w wr)(a:w.heap.size≤b):Ab (fun _=>False) w (wr.setCell ⟨b,i,none⟩ u):=h.Yc i u a
theorem PF.set{w:World}{s:ByteArray}{v:Value}{e b:Int}{m:Nat}{wr:World}(h:PF w s v e b m wr)(a:ByteArray):PF w a v e b m (wr.setCell ⟨w.heap.size+1,0,none⟩ (.string a)):=by obtain ⟨f,d⟩:=h.row;have c:=(Ab.refl (fun k=>k=w.heap.size+1) wr).p7 0 (.string a);refine ⟨?_,h.t8.f8 c (by omega),⟨f,Ac d c (Ap d h.o (by decide))⟩,h.f8.set_far (by omega)⟩;have:=h.o.set 0 (.string a);simpa using this
theorem PF.set2{w:World}{s:ByteArray}{v:Value}{d a:Int}{m:Nat}{wr:World}(h:PF w s v d a m wr)(n:Int):PF w s v n a m (wr.setCell ⟨w.heap.size+1,2,none⟩ (.int .i64 n)):=by obtain ⟨e,c⟩:=h.row;have b:=(Ab.refl (fun k=>k=w.heap.size+1) wr).p7 2 (.int .i64 n);refine ⟨?_,h.t8.f8 b (by omega),⟨e,Ac c b (Ap c h.o (by decide))⟩,h.f8.set_far (by omega)⟩;have:=h.o.set 2 (.int .i64 n);simpa using this
theorem PF.set3{w:World}{s:ByteArray}{v:Value}{c d:Int}{m:Nat}{wr:World}(h:PF w s v c d m wr)(n:Int):PF w s v c n m (wr.setCell ⟨w.heap.size+1,3,none⟩ (.int .i64 n)):=by obtain ⟨e,b⟩:=h.row;have a:=(Ab.refl (fun k=>k=w.heap.size+1) wr).p7 3 (.int .i64 n);refine ⟨?_,h.t8.f8 a (by omega),⟨e,Ac b a (Ap b h.o (by decide))⟩,h.f8.set_far (by omega)⟩;have:=h.o.set 3 (.int .i64 n);simpa using this
def FF(a:List Ln)(f:Nat):Nat:=(a.take 60).countP (fun l=>decide (AL l.a0 4<f))
def ME(a:List Ln)(f i:Nat):Nat:=(a.take i).countP (fun l=>decide (AL l.a0 4=f))
theorem Co(a:List Ln)(f:Nat):FF a f≤60:=Nat.le_trans (List.countP_le_length) (by simp;omega)
theorem FV(b:List Ln)(f:Nat):FF b f+ME b f 60=FF b (f+1):=by
 unfold FF ME;induction b.take 60 with
 | nil=>rfl
 | cons a l e=>
   simp only [List.countP_cons];by_cases c:AL a.a0 4<f
   ·simp [c,show¬AL a.a0 4=f from by omega,show AL a.a0 4<f+1 from by omega];omega
   ·by_cases d:AL a.a0 4=f
    ·simp [d];omega
    ·simp [c,d,show¬AL a.a0 4<f+1 from by omega];omega
theorem GN(a:List Ln)(f i:Nat)(h:i<a.length):ME a f (i+1)=ME a f i+(if AL a[i].a0 4=f then 1 else 0):=by unfold ME;rw [List.take_succ_eq_append_getElem h,List.countP_append,List.countP_cons,List.countP_nil];simp
theorem EE(a:List Ln)(f i:Nat)(h:¬(i<a.length∧i<60))(b:i≤60):ME a f i=ME a f 60:=by
 unfold ME;by_cases c:i<a.length
 ·have:i=60:=by omega
  rw [this]
 ·rw [List.take_of_length_le (by omega),List.take_of_length_le (by omega)]
structure L2(ls:List Ln)(f:Nat)(l:List UInt8):Prop where
 run:A4 0 l=some 0
 len:l.length≤60*f+36*FF ls f
 head:0<f→BL<+:l
 nil:f=0→l=[]
end Go.Proofs.YtegmjgjkcdbmkaaGreatDoor
