/- For every text Texts returns true, and the text reads behind the call as before it (P3, P4: Print of every text tells its tokens, a space between each two, or what is wrong first, and where, as the document's own reader tells it). Condition: the listed package-level variables of Go's library are laid as the program's text lays them (the card ties them). -/
import Derived.Test.YtmaankfbhhbeoaaGreatDoorG26
import Derived.Test.YtmaankfbhhbeoaaGreatDoorRows
import Derived.ProofKit
import Derived.Stop.Joined
import Derived.Stop.LaidErr
import Derived.MakeChecks
import Derived.SizedLaws
import Derived.Carry
import Derived.LaidMore
import Derived.OpenShut
import Derived.Test.YtmaankfbhhbeoaaGreatDoorTie
import Derived.Test.YtmaankfbhhbeoaaGreatDoorCards
import Derived.SevenTiedAt
set_option maxRecDepth 100000
set_option maxHeartbeats 4000000
namespace Go.Proofs.YtmaankfbhhbeoaaGreatDoor
open Go.RowKit Go.ChangeShapes Go.WideShapes Go.ChangeAt Go
open Go.ChangeMaps (open_string shut_string)
theorem Tryz.textOf(a s p w):(Instr.field 69 (.agg #[.int .i64 a,.string s,.int .i64 p]) 1).run Tryz.prog w=.ok (.string s) w:=by kernel_rfl
theorem Below.quiet{w a}(h:Below w.heap.size w a):Ab (fun _=>False) w a:=⟨h.os,h.tape,h.output,h.size,fun k b _=>h.block k b⟩
theorem KA(t w b)(l:w.cell? ⟨1,0,none⟩=some b)(i:b=.nilIface∨∃n m,b=.iface n m)
 (k:t=⟨#[]⟩∨t=⟨#[48]⟩∨t=⟨#[49]⟩∨t=⟨#[50]⟩∨t=⟨#[51]⟩):
 Calls Tryz.prog 85 #[.string t] w fun e a=>∃x,e=.returned (.tuple #[.int .i64 (F9 ⟨2,t,0⟩),x])∧Ab (fun _=>False) w a:=by
 have c:∀(d:Nat),t.size≤18→Lib.atoi t.data.toList=some (d:Int)→F9 ⟨2,t,0⟩=d→Calls Tryz.prog 85 #[.string t] w fun e a=>∃x,e=.returned (.tuple #[.int .i64 (F9 ⟨2,t,0⟩),x])∧Ab (fun _=>False) w a:=by intro d j h f;rw [f];refine (Tryz.strconv_Atoi t d j h w).mono ?_;rintro e a ⟨rfl,u,rfl⟩;exact ⟨_,rfl,Below.quiet (Lib.bytesWorld_below _ _ _)⟩
 rcases k with h | h | h | h | h
 ·have f:F9 ⟨2,t,0⟩=0:=by subst h;decide+kernel
  rw [f];refine (Tryz.strconv_Atoi_err t (by subst h;decide) (by subst h;decide) b w l i).mono ?_;rintro e a ⟨N,rfl,_,_,g⟩;exact ⟨_,rfl,Below.quiet g⟩
 ·exact c 0 (by subst h;decide) (by subst h;decide) (by subst h;decide+kernel)
 ·exact c 1 (by subst h;decide) (by subst h;decide) (by subst h;decide+kernel)
 ·exact c 2 (by subst h;decide) (by subst h;decide) (by subst h;decide+kernel)
 ·exact c 3 (by subst h;decide) (by subst h;decide) (by subst h;decide+kernel)
theorem K6{l i}(h:i<l.length):Ah l i∈l:=by unfold Ah;rw [List.getElem?_eq_getElem h];exact List.getElem_mem h
theorem Ki{a x}(b:DigOk a)(d:x.d8<a.length):
 (Av a 2 x).d9=⟨#[]⟩∨(Av a 2 x).d9=⟨#[48]⟩∨(Av a 2 x).d9=⟨#[49]⟩∨(Av a 2 x).d9=⟨#[50]⟩∨(Av a 2 x).d9=⟨#[51]⟩:=by
 unfold Av;split
 ·rename_i c;exact .inr (b _ (K6 d) c)
 ·exact .inl rfl
theorem J0(l C)(L:1<l)(a)(B:C.cell? ⟨1,0,none⟩=some a)(s:a=.nilIface∨∃P O,a=.iface P O):Bi l C:=by
 intro b g n K x c w R o v d M;have i:=Ki (x:=x) d.2.2.2 (by have:=d.2.1;omega);have r:F9 (Av c 2 x)=F9 ⟨2,(Av c 2 x).d9,0⟩:=rfl;rw [r];obtain ⟨t,f⟩:∃t,Av c 2 x=t:=⟨_,rfl⟩;obtain ⟨y,k⟩:∃y,Ae c n 2 x=y:=⟨_,rfl⟩;rw [f] at i;rw [f,k];have h:w.cell? ⟨1,0,none⟩=some a:=by rw [o.cell L];exact B
 have I:=Aa f;have J:=Aa k;have E:=Aa i;clear f k i r;go_enter Tryz.func84,Tryz.ntmps84;go_wp2_with fail;refine (Au b g n K 2 x c _ v d M).mono ?_;rw [I.o,J.o];rintro e Q ⟨rfl,A,j⟩;have p:Q.cell? ⟨1,0,none⟩=some a:=by have N:1<w.heap.size:=Lib.lt_of_cell h;rw [World.cell?_of_block (w:=w) (j.block 1 N (by omega))];exact h
 have H:=Aa A;have G:=Aa j;have D:=Aa p;have F:=Aa s;clear A j p v d s h B o;unfold K7;have S:=Tryz.textOf t.kind t.d9 t.f8;go_wp2_with (go_at_call 85;refine (KA t.d9 _ a D.o F.o E.o).mono ?_);rintro e T ⟨z,rfl,u⟩;have m:=Aa u;clear u;go_wp2;go_ret;exact ⟨rfl,H.o.d7 m.o (fun q=>q),G.o.trans (m.o.mono (fun _ _ q=>q.elim))⟩
theorem D7(s:ByteArray)(a p:Nat)(w:World)(h:Calls Tryz.prog 9 #[.string s] w fun e b=>e=.returned (.tuple #[.slice none 0 0,LR,.int .i64 a,.int .i64 p])∧Below w.heap.size w b)(f:a≠0):
 Calls Tryz.prog 5 #[.string s] w fun e b=>e=.returned (.tuple #[.string {data:=#[]},.int .i64 a,.int .i64 p])∧Below w.heap.size w b:=by
 have g:((a:Int) !=0)=true:=by simp;omega
 have d:=Aa h;clear h;go_enter Tryz.func5,Tryz.ntmps5;go_wp2_with fail;refine d.o.mono ?_;rintro e j ⟨rfl,c⟩;have i:=c.size;go_wp2;go_ret3;exact ⟨rfl,c.alloc (by omega) _⟩
theorem Jr(s:ByteArray)(b:List PT)(w:World)(J:List UInt8)(k:Lib.join ((Dd b).map (fun x=>x.data.toList)) [32]=J)(n:∀t,t∈b→t.d9.size≤4000)
 (h:Calls Tryz.prog 9 #[.string s] w fun e f=>∃(g d:Nat) (a:Option Addr) (l c j:Nat),e=.returned (.tuple #[.slice (some ⟨g,0,none⟩) b.length d,.agg #[.slice a l c,.int .i64 j],.int .i64 0,.int .i64 0])∧AI g b.length d b f∧Below w.heap.size w f):
 Calls Tryz.prog 5 #[.string s] w fun e f=>(∃u:ByteArray,e=.returned (.tuple #[.string u,.int .i64 0,.int .i64 0])∧u.data.toList=J)∧Below w.heap.size w f:=by
 have r:=Aa h;have v:=Aa k;have z:=Aa n;clear h k n;go_enter Tryz.func5,Tryz.ntmps5;go_wp2_with fail;refine r.o.mono ?_;rintro e C ⟨g,d,a,l,c,j,rfl,m,i⟩;have D:=i.size;have y:=Aa (m.d7 ((Ab.refl (fun _=>False) C).alloc (.cells #[.slice a l c,.int .i64 j] 36)) (fun q=>q));have p:=Aa i;clear m i;go_wp2_with fail;refine (KU g b.length d b _ y.o z.o).mono ?_;rw [v.o];rintro e E ⟨⟨u,rfl,o⟩,B⟩;have A:=Aa o;clear o;go_wp2;go_ret3;exact ⟨⟨u,rfl,A.o⟩,(p.o.alloc (by omega) _).trans (B.mono (by simp;omega))⟩
def Ce(s:ByteArray):Nat×Nat×List UInt8:=
 if 4000<s.size then (1,0,[]) else
 match Aw s s.size 0 x0 with
 | .inl p=>(2,p,[])
 | .inr y=>
   if (Bx (An s y) (An s y).length ⟨0,false,0⟩).2.2.l7=true then (3,(Bx (An s y) (An s y).length ⟨0,false,0⟩).2.2.r8,[])
   else if (Ek (Bx (An s y) (An s y).length ⟨0,false,0⟩).1 4000 (Bx (An s y) (An s y).length ⟨0,false,0⟩).2.1).p9=0 then (0,0,Lib.join ((Dd (An s y)).map (fun x=>x.data.toList)) [32])
   else ((Ek (Bx (An s y) (An s y).length ⟨0,false,0⟩).1 4000 (Bx (An s y) (An s y).length ⟨0,false,0⟩).2.1).p9,(Ek (Bx (An s y) (An s y).length ⟨0,false,0⟩).1 4000 (Bx (An s y) (An s y).length ⟨0,false,0⟩).2.1).f8,[])
theorem J1(a:List (List UInt8))(x b:List UInt8):Lib.join (a++[x]) b=if a=[] then x else Lib.join a b++b++x:=by
 cases a with
 | nil=>simp [Lib.join_one]
 | cons y c=> rw [List.cons_append,Lib.join_cons,Lib.join_cons,if_neg (by simp)];simp [Lib.joinTail]
theorem II(a:List PT):∀k,k≤a.length→LI (a.map Ak) k=Lib.join ((a.take k).map (fun t=>t.d9.data.toList)) [32]
 | 0,_=>by simp [LI,Lib.join_nil]
 | k+1,h=>by
   rw [LI,II a k (by omega),H2 (by omega),List.map_append,List.map_singleton,J1,AY];have e:((a.take k).map fun t=>t.d9.data.toList)=[]↔k=0:=by
    rw [List.map_eq_nil_iff,List.take_eq_nil_iff];constructor
    ·rintro (q | q)
     ·exact q
     ·rw [q] at h;simp at h
    ·exact .inl
   by_cases b:k=0
   ·subst b;simp [Ak,Lib.join_nil]
   ·rw [if_pos (by omega),if_neg (fun q=>b (e.1 q))];rfl
theorem Lo{N:Nat}{a:List PT}(H:TksOk N a):Dd a=(a.take (a.length-1)).map (fun t=>t.d9):=by
 have n:=H.pos;obtain ⟨d,j,m,o,p⟩:=H.last;have e:a=a.take (a.length-1)++[d]:=by
  have b:=H2 (l:=a) (k:=a.length-1) (by omega);rw [show a.length-1+1=a.length by omega,List.take_length] at b;have f:Ah a (a.length-1)=d:=by unfold Ah;rw [j];rfl
  rw [f] at b;exact b
 have g:∀t,t∈a.take (a.length-1)→t.kind≠0:=by intro t c;obtain ⟨i,h,rfl⟩:=List.mem_iff_getElem.1 c;rw [List.length_take] at h;rw [List.getElem_take];exact H.d7 i _ (by omega) (List.getElem?_eq_getElem (by omega))
 conv=>lhs;rw [e]
 rw [He,if_pos m];unfold Dd;rw [List.filter_eq_self.2 (fun t c=>by simpa using g t c)]
theorem DS(i:Nat)(q:World)(hF:Bi i q)(s:ByteArray)(H:s.size≤maxLen)(w:World)(A:Below i q w)(z:i≤w.heap.size):
 Calls Tryz.prog 5 #[.string s] w fun e h=>(∃u:ByteArray,e=.returned (.tuple #[.string u,.int .i64 (Ce s).1,.int .i64 (Ce s).2.1])∧u.data.toList=(Ce s).2.2)∧Below w.heap.size w h:=by
 unfold Ce;by_cases v:4000<s.size
 ·rw [if_pos v];refine (D7 s 1 0 w (J4 s v H w) (by decide)).mono ?_;rintro e h ⟨rfl,d⟩;exact ⟨⟨_,rfl,rfl⟩,d⟩
 rw [if_neg v];have f:s.size≤4000:=by omega
 cases n:Aw s s.size 0 x0 with
 | inl p=> refine (D7 s 2 p w (H0 s p f n w) (by decide)).mono ?_;rintro e h ⟨rfl,d⟩;exact ⟨⟨_,rfl,rfl⟩,d⟩
 | inr y=>
   have K:=It f n;have B:=K.ok.end_;obtain ⟨k,j,x,m⟩:∃a b c,Bx (An s y) (An s y).length ⟨0,false,0⟩=(a,b,c):=⟨_,_,_,rfl⟩;obtain ⟨N,O,F,G⟩:∃a b c,BU ((An s y).map Ak) (2*(An s y).length) (An s y).length ⟨0,none,0,0⟩ [] []=(a,b,c):=⟨_,_,_,rfl⟩;obtain ⟨P,M⟩:=Ha K.ok K.M9 f K.len k j x m N O F G
   simp only [m];cases r:x.l7 with
   | true=> simp only [if_true];refine (D7 s 3 x.r8 w (Gr i q hF s y f n k j x m r w A z B) (by decide)).mono ?_;rintro e h ⟨rfl,d⟩;exact ⟨⟨_,rfl,rfl⟩,d⟩
   | false=>
     obtain ⟨Q,R,C,D,S⟩:=M r;rw [if_neg (by decide)];by_cases o:(Ek k 4000 j).p9=0
     ·rw [if_pos o];refine (Jr s (An s y) w _ rfl (fun t J=>Nat.le_trans (K.ok.len t J).1 f) ((IN i q hF s y f n k j x m r w A z B 4000 D C _ rfl o).mono ?_)).mono ?_
      ·rintro e h ⟨g,E,a,l,c,U,rfl,I,_,_,_,d⟩;exact ⟨g,E,a,l,c,j,rfl,I,d⟩
      ·rintro e h ⟨⟨u,rfl,L⟩,d⟩;exact ⟨⟨u,rfl,L⟩,d⟩
     ·rw [if_neg o];refine (D7 s _ _ w (Hy i q hF s y f n k j x m r w A z B 4000 D C _ rfl o) o).mono ?_;rintro e h ⟨rfl,d⟩;exact ⟨⟨_,rfl,rfl⟩,d⟩
theorem Gs(s:ByteArray)(R:s.size≤maxLen)(w:World):
 Calls Tryz.prog 6 #[.string s] w fun e m=>(∃N C,(∃X,N=.pointer X)∧(∃a l c,C=.slice a l c)∧e=.returned (.tuple #[N,C,.int .i64 (Ce s).1,.int .i64 (Ce s).2.1])∧((Ce s).1=0→∃g n o A,C=.slice (some ⟨g,0,none⟩) n o∧AA g n o A m∧0<n∧(∀t,t∈A→t.d9.size≤4000)∧LI A (n-1)=(Ce s).2.2)∧((Ce s).1≠0→(Ce s).2.2=[]))∧Below w.heap.size w m:=by
 unfold Ce;by_cases u:4000<s.size
 ·rw [if_pos u];refine (LJ s u R w).mono ?_;rintro e m ⟨rfl,rfl⟩;exact ⟨⟨_,_,⟨_,rfl⟩,⟨_,_,_,rfl⟩,rfl,fun h=>absurd h (by decide),fun _=>rfl⟩,Below.refl _ _⟩
 rw [if_neg u];have k:s.size≤4000:=by omega
 cases H:Aw s s.size 0 x0 with
 | inl p=>
   have I:AZ s s.size 0 []=.inl p:=by rw [Fh];have P:Aw s s.size 0 ⟨[],false,0,0⟩=.inl p:=H;rw [P];rfl
   refine (DU s k w 0 [] (fun l h=>by rw [I] at h;cases h)).mono ?_;intro e m d;unfold Gq at d;rw [I] at d;obtain ⟨rfl,i⟩:=d;exact ⟨⟨_,_,⟨_,rfl⟩,⟨_,_,_,rfl⟩,rfl,fun h=>absurd h (by simp),fun _=>rfl⟩,i⟩
 | inr y=>
   have K:=It k H;obtain ⟨f,z,x,F⟩:∃a b c,Bx (An s y) (An s y).length ⟨0,false,0⟩=(a,b,c):=⟨_,_,_,rfl⟩;obtain ⟨r,O,D,G⟩:∃a b c,BU ((An s y).map Ak) (2*(An s y).length) (An s y).length ⟨0,none,0,0⟩ [] []=(a,b,c):=⟨_,_,_,rfl⟩;obtain ⟨V,W⟩:=Ha K.ok K.M9 k K.len f z x F r O D G
   have j:Fv s ((Cb s s.size y).p6.map Ak)=(r,O,D):=by unfold Fv;rw [Hc,K.M4];exact G
   simp only [F];cases L:x.l7 with
   | true=>
     simp only [if_true];have M:=V L;refine (DU s k w 0 [] (fun l h=>by rw [K.lex] at h;cases h;rw [j];intro q;simp only at q;rw [M] at q;cases q)).mono ?_
     intro e m d;unfold Gq at d;rw [K.lex] at d;simp only [j,M] at d;obtain ⟨rfl,i⟩:=d;exact ⟨⟨_,_,⟨_,rfl⟩,⟨_,_,_,rfl⟩,rfl,fun h=>absurd h (by simp),fun _=>trivial⟩,i⟩
   | false=>
     obtain ⟨Y,Z,q3,q4,q5⟩:=W L;rw [if_neg (by decide)];refine (DU s k w 4000 f (fun l h=>by rw [K.lex] at h;cases h;rw [j];intro _;exact Z)).mono ?_
     intro e m d;unfold Gq at d;rw [K.lex] at d;have E:Kf s ((Cb s s.size y).p6.map Ak) 4000 f=DD r 4000 f 0 (r,⟨0,0⟩):=by unfold Kf;rw [j]
     have Q:K8 s ((Cb s s.size y).p6.map Ak) 4000 f=Ek f 4000 z:=by unfold K8;rw [E,j];exact q5.symm
     simp only [j,Y,E,Q] at d;unfold Fn at d;by_cases v:(Ek f 4000 z).p9=0
     ·rw [if_pos v] at d⊢;obtain ⟨pb,B,g,o,U,fv,sv,rfl,J,_,_,_,_,_,_,i⟩:=d;rw [K.M4,Hc] at J;refine ⟨⟨_,_,⟨_,rfl⟩,⟨_,_,_,rfl⟩,rfl,fun _=>⟨g,_,o,(An s y).map Ak,rfl,by rw [K.M4];exact J,by omega,fun t T=>?_,?_⟩,fun h=>absurd rfl h⟩,i⟩
      ·obtain ⟨p,S,rfl⟩:=List.mem_map.1 T;exact Nat.le_trans (K.ok.len p S).1 k
      ·rw [K.M4,II _ _ (by omega),Lo K.ok,List.map_map];rfl
     ·rw [if_neg v] at d⊢;obtain ⟨rfl,i⟩:=d;exact ⟨⟨_,_,⟨_,rfl⟩,⟨_,_,_,rfl⟩,rfl,fun h=>absurd h v,fun _=>rfl⟩,i⟩
abbrev Mv:ByteArray:=⟨#[102,110,32,109,97,105,110,40,41,123,118,97,114,32,112,59,112,61,38,112,46,51,59,125,35,32,120]⟩
abbrev Mu:List UInt8:=[102,110,32,109,97,105,110,32,40,32,41,32,123,32,118,97,114,32,112,32,59,32,112,32,61,32,38,32,112,32,46,32,51,32,59,32,125]
theorem LF:Ce Mv=(0,0,Mu):=by decide+kernel
theorem JM(n:Int)(w:World):Calls Tryz.prog 7 #[.int .i64 n] w fun e a=>e=.returned (.int .i64 n)∧a=w:=by go_enter Tryz.func7,Tryz.ntmps7;go_wp2;go_ret;exact ⟨rfl,rfl⟩
theorem GX(a:Nat)(c:World)(hF:Bi a c)(w:World)(g:Below a c w)(f:a≤w.heap.size):
 Calls Tryz.prog 4 #[] w fun e j=>e=.returned (.bool true)∧Below w.heap.size w j:=by
 have d:=Aa (DS a c hF Mv (by unfold maxLen;decide) w g f);rw [LF] at d;clear hF g f;go_enter Tryz.func4,Tryz.ntmps4;go_wp2_with fail;refine d.o.mono ?_;rintro e m ⟨⟨u,rfl,b⟩,h⟩;have k:(u.toList==({data:=#[102,110,32,109,97,105,110,32,40,32,41,32,123,32,118,97,114,32,112,32,59,32,112,32,61,32,38,32,112,32,46,32,51,32,59,32,125]}:ByteArray).toList)=true:=by rw [ByteArray.toList_eq,ByteArray.toList_eq,b];decide
 have l:(u.toList==Mu)=true:=by rw [ByteArray.toList_eq,b];decide
 have i:=Aa h;clear b h;go_wp2;go_ret;exact ⟨rfl,i.o⟩
theorem Kj(s:ByteArray)(B:s.size≤maxLen)(w:World)(hF:Bi w.heap.size w):
 Calls Tryz.prog 3 #[.string s] w fun e E=>e=.returned (.bool true)∧Below w.heap.size w E:=by
 obtain ⟨f,p,J,A⟩:∃f p J,Ce s=(f,p,J):=⟨_,_,_,rfl⟩;have a0:((f:Int) !=(f:Int))=false:=by simp
 have a1:((p:Int) !=(p:Int))=false:=by simp
 by_cases h:f=0
 ·have P:((f:Int) !=0)=false:=by simp [h]
  have y:=Aa h;clear h;have k:=Aa hF;have m:=Aa A;have l:=Aa B;clear hF A B;go_enter Tryz.func3,Tryz.ntmps3;go_wp2_with fail;refine (GX w.heap.size w k.o w (Below.refl _ _) (Nat.le_refl _)).mono ?_;rintro e F ⟨rfl,b⟩;have x:=b.size;have i:=Aa b;clear b;go_wp2_with fail;refine (DS w.heap.size w k.o s l.o F i.o x).mono ?_;rw [m.o];rintro e G ⟨⟨u,rfl,t⟩,c⟩;have Y:=c.size;have C:=Aa (i.o.trans (c.mono x));have d:=Aa t;clear c t;go_wp2_with fail;refine (Gs s l.o G).mono ?_;rw [m.o];rintro e O ⟨⟨U,X,⟨T,rfl⟩,⟨V,N,M,rfl⟩,rfl,r,q⟩,o⟩;have D:=Aa (C.o.trans (o.mono (by omega)));have z:=Aa r;have j:=Aa q;clear o r q;simp only at d z j;go_wp2_with (go_at_call 7;refine (JM _ _).mono ?_;rintro e E ⟨rfl,a⟩;have a:=a.symm;subst a);obtain ⟨g,n,Z,W,K,I,Q,S,H⟩:=z.o y.o;rw [Value.slice.injEq] at K;obtain ⟨rfl,rfl,rfl⟩:=K;refine (Hz g N M W O I Q S).mono ?_;rintro e w4 ⟨⟨v,rfl,L⟩,a⟩;have a:=a.symm;subst a;have R:(u.toList==v.toList)=true:=by rw [ByteArray.toList_eq,ByteArray.toList_eq,d.o,L,H];simp
  clear L H I;go_wp2;go_ret;exact ⟨rfl,D.o⟩
 ·have P:((f:Int) !=0)=true:=by simp [h]
  have y:=Aa h;clear h;have k:=Aa hF;have m:=Aa A;have l:=Aa B;clear hF A B;go_enter Tryz.func3,Tryz.ntmps3;go_wp2_with fail;refine (GX w.heap.size w k.o w (Below.refl _ _) (Nat.le_refl _)).mono ?_;rintro e F ⟨rfl,b⟩;have x:=b.size;have i:=Aa b;clear b;go_wp2_with fail;refine (DS w.heap.size w k.o s l.o F i.o x).mono ?_;rw [m.o];rintro e G ⟨⟨u,rfl,t⟩,c⟩;have Y:=c.size;have C:=Aa (i.o.trans (c.mono x));have d:=Aa t;clear c t;go_wp2_with fail;refine (Gs s l.o G).mono ?_;rw [m.o];rintro e O ⟨⟨U,X,⟨T,rfl⟩,⟨V,N,M,rfl⟩,rfl,r,q⟩,o⟩;have D:=Aa (C.o.trans (o.mono (by omega)));have z:=Aa r;have j:=Aa q;clear o r q;simp only at d z j;have R:(u.toList==({data:=#[]}:ByteArray).toList)=true:=by rw [ByteArray.toList_eq,ByteArray.toList_eq,d.o,j.o y.o];simp
  have a2:(u.toList==[])=true:=by rw [ByteArray.toList_eq,d.o,j.o y.o];simp
  go_wp2_with (go_at_call 7;refine (JM _ _).mono ?_;rintro e E ⟨rfl,a⟩;have a:=a.symm;subst a);go_ret;exact ⟨rfl,D.o⟩
theorem Tryz.gES:Tryz.prog.globalNamed "strconv.ErrSyntax" =some 1:=by kernel_rfl
theorem Tryz.gESType:(Tryz.prog.globals[1]?).map (·.type)=some 107:=by kernel_rfl
theorem Tryz.cellsES:Tryz.prog.cellsOf 172=1:=by kernel_rfl
theorem Tryz.cellsStr:Tryz.prog.cellsOf 9=1:=by kernel_rfl
theorem Tryz.star: "*" ++ "errors.errorString" = "*errors.errorString" :=by decide
theorem Tryz.rowES(u:TypeId)(h:Tryz.prog.typeName? 3 u=some "*errors.errorString"):u=170:=
 typeName_ptr_named (nm:= "errors.errorString") (by rw [Tryz.star];kernel_rfl) (by kernel_rfl) (by decide) u (by rw [Tryz.star];exact h)
theorem Je(W:World)(b:laidMetH Tryz.prog Rows.textsRow.laid W):Bi W.heap.size W:=by
 rw [Go.MakeChecks.laidMetH_plain _ _ _ (by kernel_rfl)] at b;obtain ⟨c,g,f,-,-,-⟩:=laid_sentinel b.tail.tail.tail.tail Tryz.gES Tryz.gESType Tryz.underlying107 Tryz.rowES Tryz.underlying170 Tryz.underlying172 rfl rfl Tryz.underlying9 Tryz.cellsES Tryz.cellsStr;have a:W.cell? ⟨1,0,none⟩=some (.iface 170 (.pointer (some c))):=by have d:=World.var?_cell Tryz.gES f 0;simpa using d
 have e:1<W.heap.size:=by
  rcases Nat.lt_or_ge 1 W.heap.size with q | q
  ·exact q
  ·have:W.heap[1]? =none:=by simp;exact q
   unfold World.cell? at a;rw [this] at a;cases a
 exact J0 W.heap.size W e _ a (.inr ⟨_,_,rfl⟩)
theorem Tryz.own:ownKnob Tryz.prog.godebug=none:=by kernel_rfl
theorem KG(b:Os)(a:Array Value):laidMetH Tryz.prog Rows.textsRow.laid ((World.doorLaid Tryz.prog 400 b).forCall (fun _ _=>0) ⟨#[],a,[]⟩).memory:=
 laidMetH_of_parts3 (fuel:=8) (laidMet_of_run' 8 (by kernel_rfl) (by kernel_rfl)) (by kernel_rfl) (by kernel_rfl)
theorem H3(c:Os)(D:c.Started)(H:Type)(b:TypeId×Value→H):
 ReturnsInHanded {} Tryz.checked c 3 .any (fun w a=>(Rows.textsSpec.pre b Tryz.prog Tryz.f3 [] false w a∧laidMetH Tryz.prog Rows.textsRow.laid w)∧sizedMet b Tryz.prog Tryz.f3 (OpenSpec.ofChange Rows.textsSpec) false w a)
  (Rows.textsSpec.post b Tryz.prog Tryz.f3 false true false false):=by
 refine returnsInHanded_of_change_and (C:=Tryz.checked) (X:=fun w _=>laidMetH Tryz.prog Rows.textsRow.laid w) (fun _ _ _ B h=>h.of_heap B) Tryz.own D (by kernel_rfl) Tryz.func3
  (ChangeSpec.witness_shaped (enc:=b) (C:=Tryz.checked) (os:=c) (X:=fun w _=>laidMetH Tryz.prog Rows.textsRow.laid w) false (World.doorLaid Tryz.prog 400 c) #[.string ⟨#[]⟩] 8 rfl (World.shaped_of_RefB (by kernel_rfl) (by kernel_rfl)) (by kernel_rfl) (by kernel_rfl) (by kernel_rfl) (KG c _)) ?_
 intro W o a r J G n i _ _ x _;have m:∀(j:Nat) t v,Tryz.f3.params[j]? =some t→a[j]? =some v→Value.okWide Tryz.prog W .any o t v:=n;have k:=i;obtain ⟨p,q,g,y,rfl,K,L⟩:=i;have f:DataW.TrodAll b Tryz.prog W 0 (fun _=>true) true Tryz.f3.params.toList a.toList r p:=g;rw [Tryz.params3] at f m;obtain ⟨E,I,rfl,rfl,u⟩:=trodAll_one f;obtain ⟨rfl,rfl⟩:=trodVars_none y;obtain ⟨s,rfl,rfl,rfl,l⟩:=open_string Tryz.underlying9 (m 0 9 E rfl rfl) u;clear g n;simp only [List.append_nil] at k;refine (Kj s l W (Je W x)).mono fun e F ⟨A,z⟩=>?_
 subst A;have d:Rows.textsSpec.fn H ([.lit (.string s.data.toList)]++[])={results:=[.lit (.bool true)],args:=[.lit (.string s.data.toList)]}:=rfl;refine ⟨_,rfl,_,_,_,[],[],[],k,?_,?_,by rw [d];rfl,z.frame _,fun h=>by cases h⟩
 ·rw [d];exact trodAll_mk1 (shut_bool Tryz.underlying4 true)
 ·rw [d];exact trodAll_mk1 (shut_string Tryz.underlying9 l)
theorem AF{a b:Bool}(h:a=true)(k:b=true):(a && b)=true:=by rw [h,k];rfl
theorem IS:joinedFacts Tryz.pinned.checked.prog 3 Tryz.f3 Rows.textsSpec Rows.textsRow=true:=by
 unfold joinedFacts;exact AF (AF (AF (AF (AF (AF (AF (AF (AF (AF (AF (AF (AF (AF (AF (AF (AF (AF (AF (AF (AF (AF (AF (AF (AF (AF (AF (AF (AF (AF (AF
  (by as_aux_lemma=>kernel_rfl) (by as_aux_lemma=>kernel_rfl))
  (by as_aux_lemma=>kernel_rfl))
  (by as_aux_lemma=>kernel_rfl))
  (by as_aux_lemma=>kernel_rfl))
  (by as_aux_lemma=>kernel_rfl))
  (by as_aux_lemma=>kernel_rfl))
  (by as_aux_lemma=>kernel_rfl))
  (by as_aux_lemma=>kernel_rfl))
  (by as_aux_lemma=>kernel_rfl))
  (by as_aux_lemma=>kernel_rfl))
  (by as_aux_lemma=>kernel_rfl))
  (by as_aux_lemma=>kernel_rfl))
  (by as_aux_lemma=>kernel_rfl))
  (by as_aux_lemma=>kernel_rfl))
  (by as_aux_lemma=>kernel_rfl))
  (by as_aux_lemma=>kernel_rfl))
  (by as_aux_lemma=>kernel_rfl))
  (by as_aux_lemma=>kernel_rfl))
  (by as_aux_lemma=>kernel_rfl))
  (by as_aux_lemma=>kernel_rfl))
  (by as_aux_lemma=>kernel_rfl))
  (by as_aux_lemma=>kernel_rfl))
  (by as_aux_lemma=>kernel_rfl))
  (by as_aux_lemma=>kernel_rfl))
  (by as_aux_lemma=>kernel_rfl))
  (by as_aux_lemma=>kernel_rfl))
  (by as_aux_lemma=>kernel_rfl))
  (by as_aux_lemma=>kernel_rfl))
  (by as_aux_lemma=>kernel_rfl))
  (by as_aux_lemma=>kernel_rfl))
  (by as_aux_lemma=>kernel_rfl)
theorem IT:Rows.TextsSaid:=
 OpenClaim.holds_of_wide 3 Tryz.f3 rfl rfl rfl rfl rfl rfl rfl ⟨rfl,rfl,rfl,rfl,rfl⟩ rfl rfl rfl rfl rfl (by kernel_rfl) Tryz.func3 IS
  (of_decide_eq_true (by kernel_rfl)) (by unfold Func.isWrapper;first | (rw [if_pos (by decide+kernel)];kernel_rfl) | (rw [if_neg (by decide+kernel)];exact ⟨rfl,rfl⟩))
  (fun b c H a _=>H3 b c H a)
theorem texts_card_holds:Rows.TextsCardSaid:=
 Claim7.holds_tied_plain_at .later [] [.data,.data,.data,.sentinel,.sentinel] true Rows.textsCard.stood.harness true
  IT (fun _ h=>by cases h) (by kernel_rfl) (fun _ h=>by cases h) texts_row_tie rfl ⟨rfl,rfl⟩ (by kernel_rfl) rfl
  (fun f b d e=>by
    obtain rfl:f=3:=Option.some.inj ((show Tryz.prog.funcNamed "pointsman/pointsmanlaw.Texts" =some 3 by kernel_rfl).symm.trans d) |>.symm
    obtain rfl:b=Tryz.f3:=(Option.some.inj (Tryz.func3.symm.trans e)).symm;exact ⟨by kernel_rfl,fun j t a=>by
     rw [Tryz.params3] at a;have g:t∈[9]:=by simpa using Array.mem_of_getElem? a
     have c:([9].all fun u=>!Tryz.prog.wantsStandIn u)=true:=by kernel_rfl
     exact (show Tryz.prog.wantsStandIn t=false by simpa using List.all_eq_true.1 c t g)⟩)
  (by kernel_rfl)
#print axioms texts_card_holds
end Go.Proofs.YtmaankfbhhbeoaaGreatDoor
