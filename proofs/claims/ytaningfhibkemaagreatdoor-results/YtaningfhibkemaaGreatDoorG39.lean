/- Part of the proof: PrA PrB. -/
import Derived.Test.YtaningfhibkemaaGreatDoorG38
set_option maxRecDepth 100000
set_option maxHeartbeats 1000000
namespace Go.Proofs.YtaningfhibkemaaGreatDoor
open Go.RowKit Go.Proofs.Tryz
theorem Hq(s:ByteArray)(a p:Nat)(w:World)(h:Calls prog 13 #[.string s] w fun e b=>e=.returned (.tuple #[.slice none 0 0,Vj,.int .i64 a,.int .i64 p])/\Below w.heap.size w b)(f:a≠0):
 Calls prog 7 #[.string s] w fun e b=>e=.returned (.tuple #[.string {data:=#[]},.int .i64 a,.int .i64 p])/\Below w.heap.size w b:=by
 have g:((a:Int) !=0)=true:=jX;have d:=J h;clear h;go_enter func7,ntmps7;go_wp2_with fail;refine d.o.mono ?_;rintro e j ⟨rfl,c⟩;have i:=c.size;go_wp2;go_ret3;exact⟨rfl,c.alloc Z _⟩
theorem RN(s:ByteArray)(b:List PT)(w:World)(k:List UInt8)(m:Lib.join ((Gh b).map (fun x=>x.data.toList)) [32]=k)(o:∀t,t∈b->t.d9.size<=4000)
 (h:Calls prog 13 #[.string s] w fun e f=>∃(g d:Nat) (a:Option Addr) (l c j:Nat),e=.returned (.tuple #[.slice (some ⟨g,0,none⟩) b.length d,.agg #[.slice a l c,.int .i64 j],.int .i64 0,.int .i64 0])/\AY g b.length d b f/\Below w.heap.size w f):
 Calls prog 7 #[.string s] w fun e f=>(∃u:ByteArray,e=.returned (.tuple #[.string u,.int .i64 0,.int .i64 0])/\u.data.toList=k)/\Below w.heap.size w f:=by
 have r:=J h;have v:=J m;have z:=J o;clear h m o;go_enter func7,ntmps7;go_wp2_with fail;refine r.o.mono ?_;rintro e C ⟨g,d,a,l,c,j,rfl,n,i⟩;have E:=i.size;have y:=J (n.d8 ((O.refl kD C).alloc (.cells #[.slice a l c,.int .i64 j] 60)) id);have q:=J i;clear n i;go_wp2_with fail;refine(We g b.length d b _ y.o z.o).mono ?_;rw[v.o];rintro e F ⟨⟨u,rfl,p⟩,B⟩;have A:=J p;clear p;go_wp2;go_ret3;exact⟨⟨u,rfl,A.o⟩,(q.o.alloc Z _).trans (B.mono jX)⟩
def JF(s:ByteArray):Nat×Nat×List UInt8:=
 if 4000<s.size then(1,0,[])else
 match AE s s.size 0 x0 with
 |.inl p=>(2,p,[])
 |.inr y=>
  if (Cf (Av s y) (Av s y).length ⟨0,false,0⟩).2.2.cH=true then(3,(Cf (Av s y) (Av s y).length ⟨0,false,0⟩).2.2.cW,[])
  else if (Ib (Cf (Av s y) (Av s y).length ⟨0,false,0⟩).1 4000 (Cf (Av s y) (Av s y).length ⟨0,false,0⟩).2.1).cI=0 then(0,0,Lib.join ((Gh (Av s y)).map (fun x=>x.data.toList)) [32])
  else((Ib (Cf (Av s y) (Av s y).length ⟨0,false,0⟩).1 4000 (Cf (Av s y) (Av s y).length ⟨0,false,0⟩).2.1).cI,(Ib (Cf (Av s y) (Av s y).length ⟨0,false,0⟩).1 4000 (Cf (Av s y) (Av s y).length ⟨0,false,0⟩).2.1).l7,[])
theorem Qm(i:Nat)(q:World)(hF:Cc i q)(s:ByteArray)(I:s.size<=maxLen)(w:World)(A:Below i q w)(z:i<=w.heap.size):
 Calls prog 7 #[.string s] w fun e h=>(∃u:ByteArray,e=.returned (.tuple #[.string u,.int .i64 (JF s).1,.int .i64 (JF s).2.1])/\u.data.toList=(JF s).2.2)/\Below w.heap.size w h:=by
 unfold JF;by_cases v:4000<s.size
 .rw[jH v];refine(Hq s 1 0 w (Nk s v I w) T).mono ?_;rintro e h ⟨rfl,d⟩;exact⟨⟨_,rfl,rfl⟩,d⟩
 rw[jG v];have f:s.size<=4000:=Z;cases n:AE s s.size 0 x0 with
 |inl p=> refine(Hq s 2 p w (JB s p f n w) T).mono ?_;rintro e h ⟨rfl,d⟩;exact⟨⟨_,rfl,rfl⟩,d⟩
 |inr y=>
  have K:=PG f n;have B:=K.ok.end_;obtain⟨k,j,x,m⟩:∃a b c,Cf (Av s y) (Av s y).length ⟨0,false,0⟩=(a,b,c):=⟨_,_,_,rfl⟩;obtain⟨Q,R,G,H⟩:∃a b c,Ce ((Av s y).map Ao) (2*(Av s y).length) (Av s y).length ⟨0,none,0,0⟩ [] []=(a,b,c):=⟨_,_,_,rfl⟩;obtain⟨S,P⟩:=Nw K.ok K.fV f K.len k j x m Q R G H
  simp only[m];cases r:x.cH with
  |true=> simp only[if_true];refine(Hq s 3 x.cW w (GX i q hF s y f n k j x m r w A z B) T).mono ?_;rintro e h ⟨rfl,d⟩;exact⟨⟨_,rfl,rfl⟩,d⟩
  |false=>
   obtain⟨V,X,C,E,Y⟩:=P r;rw[jG T];by_cases o:(Ib k 4000 j).cI=0
   .rw[jH o];refine(RN s (Av s y) w _ rfl (fun t M=>gW (K.ok.len t M).1 f) ((KB i q hF s y f n k j x m r w A z B 4000 E C _ rfl o).mono ?_)).mono ?_
    .rintro e h ⟨g,F,a,l,c,U,rfl,L,_,_,_,d⟩;exact⟨g,F,a,l,c,j,rfl,L,d⟩
    .rintro e h ⟨⟨u,rfl,N⟩,d⟩;exact⟨⟨u,rfl,N⟩,d⟩
   .rw[jG o];refine(Hq s _ _ w (Jz i q hF s y f n k j x m r w A z B 4000 E C _ rfl o) o).mono ?_;rintro e h ⟨rfl,d⟩;exact⟨⟨_,rfl,rfl⟩,d⟩
