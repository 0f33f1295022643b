import Derived.Test.YtncdpanfefnjlaaGreatDoorMyd
set_option linter.unusedVariables false
set_option linter.unusedSimpArgs false
set_option maxRecDepth 100000
set_option maxHeartbeats 1600000
namespace Go.Proofs.YtncdpanfefnjlaaGreatDoor
open Go.Proofs.Tryz
structure ScR where
 kind:Int
 least:Int
 count:Int
 first:Int
 wide:Int
 widths:List Int
def aKw:List ScR:=[⟨0,0,1,192,0,[]⟩,⟨1,0,2,194,0,[]⟩,⟨2,0,128,0,204,[1,2,4,8]⟩,⟨2,-32,32,224,208,[1,2,4,8]⟩,⟨3,0,32,160,217,[1,2,4]⟩,⟨4,0,16,144,220,[2]⟩,⟨5,0,16,128,222,[2]⟩]
def scR (i:Nat):ScR:=aKw.getD i ⟨0,0,0,0,0,[]⟩
theorem aGw {P:ScR→Prop} (g:P ⟨0,0,1,192,0,[]⟩) (b:P ⟨1,0,2,194,0,[]⟩) (e:P ⟨2,0,128,0,204,[1,2,4,8]⟩) (d:P ⟨2,-32,32,224,208,[1,2,4,8]⟩) (f:P ⟨3,0,32,160,217,[1,2,4]⟩) (a:P ⟨4,0,16,144,220,[2]⟩) (c:P ⟨5,0,16,128,222,[2]⟩):∀i,i<7→P (scR i)
 | 0,_=>g
 | 1,_=>b
 | 2,_=>e
 | 3,_=>d
 | 4,_=>f
 | 5,_=>a
 | 6,_=>c
 | n+7,h=>absurd h (by omega)
def dZ (z k:Int):Bool:=if k=1 then decide (-128≤z∧z<256) else if k=2 then decide (-32768≤z∧z<65536) else if k=4 then decide (-2147483648≤z∧z<4294967296) else true
def gQ (b z:Int):List Int→Nat→Ub
 | [],_=>[]
 | k::t,j=>if dZ z k then UInt8.ofNat (b.toNat+j)::bR (cU z) k.toNat else gQ b z t (j+1)
def oW (r:ScR) (z:Int):Ub:=if r.least≤z∧z<r.least+r.count then [UInt8.ofNat (r.first+(z - r.least)).toNat] else gQ r.wide z r.widths 0
def sIx (x:ND):Nat:=if x.kind=0 then 0 else if x.kind=1 then 1 else if x.kind=2 then (if x.num<0 then 3 else 2) else if x.kind=3 then 4 else if x.kind=4 then 5 else 6
theorem UE (z:Int) (a:-9223372036854775808≤z) (b:z≤9223372036854775807):cU z % 256=(z % 256).toNat:=by unfold cU;omega
theorem XB (z:Int) (c:0≤z) (d:z≤9223372036854775807):oW (scR 2) z=cH (gS z) (cU z):=by
 show (if (0:Int)≤z∧z<0+128 then [UInt8.ofNat ((0:Int)+(z - 0)).toNat] else gQ 204 z [1,2,4,8] 0)=_
 unfold gS cH
 by_cases a:z<128
 ·rw [Am ⟨c,by omega⟩,Am ⟨by omega,a⟩]
  dsimp only;rw [UE z (by omega) d,show (0+(z - 0)).toNat=(z % 256).toNat by omega]
  rfl
 ·rw [Ae (by omega),Ae (by omega),Am (by omega)]
  unfold gQ
  by_cases b:z<256
  ·rw [Am b,show dZ z 1=true by unfold dZ;simp;omega];rfl
  rw [Ae b,show dZ z 1=false by unfold dZ;simp;omega]
  unfold gQ
  by_cases b:z<65536
  ·rw [Am b,show dZ z 2=true by unfold dZ;simp;omega];rfl
  rw [Ae b,show dZ z 2=false by unfold dZ;simp;omega]
  unfold gQ
  by_cases b:z<4294967296
  ·rw [Am b,show dZ z 4=true by unfold dZ;simp;omega];rfl
  rw [Ae b,show dZ z 4=false by unfold dZ;simp;omega]
  rfl
theorem XC (z:Int) (c:-9223372036854775808≤z) (d:z<0):oW (scR 3) z=cH (gS z) (cU z):=by
 show (if (-32:Int)≤z∧z < -32+32 then [UInt8.ofNat ((224:Int)+(z - -32)).toNat] else gQ 208 z [1,2,4,8] 0)=_
 unfold gS cH
 by_cases a:-32≤z
 ·rw [Am ⟨a,by omega⟩,Am ⟨by omega,by omega⟩]
  dsimp only;rw [UE z (by omega) (by omega),show (224+(z - -32)).toNat=(z % 256).toNat by omega]
  rfl
 ·rw [Ae (by omega),Ae (by omega),Ae (by omega)]
  unfold gQ
  by_cases b:-128≤z
  ·rw [Am b,show dZ z 1=true by unfold dZ;simp;omega];rfl
  rw [Ae b,show dZ z 1=false by unfold dZ;simp;omega]
  unfold gQ
  by_cases b:-32768≤z
  ·rw [Am b,show dZ z 2=true by unfold dZ;simp;omega];rfl
  rw [Ae b,show dZ z 2=false by unfold dZ;simp;omega]
  unfold gQ
  by_cases b:-2147483648≤z
  ·rw [Am b,show dZ z 4=true by unfold dZ;simp;omega];rfl
  rw [Ae b,show dZ z 4=false by unfold dZ;simp;omega]
  rfl
theorem sR (n:Nat) (h:n<18446744073709551616):cU (n:Int)=n:=by unfold cU;omega
theorem XA (n:Nat) (h:n≤65536):oW (scR 4) (n:Int)=cH (gU n) n:=by
 show (if (0:Int)≤(n:Int)∧(n:Int)<0+32 then [UInt8.ofNat ((160:Int)+((n:Int) - 0)).toNat] else gQ 217 (n:Int) [1,2,4] 0)=_
 unfold gU cH
 by_cases a:n<32
 ·rw [Am ⟨by omega,by omega⟩,Am a,show (160+((n:Int) - 0)).toNat=160+n by omega];rfl
 ·rw [Ae (by omega),Ae a]
  unfold gQ;rw [sR n (by omega)]
  by_cases b:n<256
  ·rw [Am b,show dZ (n:Int) 1=true by unfold dZ;simp;omega];rfl
  rw [Ae b,show dZ (n:Int) 1=false by unfold dZ;simp;omega]
  unfold gQ;rw [sR n (by omega)]
  by_cases b:n<65536
  ·rw [Am b,show dZ (n:Int) 2=true by unfold dZ;simp;omega];rfl
  rw [Ae b,show dZ (n:Int) 2=false by unfold dZ;simp;omega]
  unfold gQ;rw [sR n (by omega),show dZ (n:Int) 4=true by unfold dZ;simp;omega]
  rfl
theorem EI (n:Nat) (h:n≤256):oW (scR 5) (n:Int)=cH (oG n) n∧oW (scR 6) (n:Int)=cH (kR n) n:=by
 refine ⟨?_,?_⟩
 ·show (if (0:Int)≤(n:Int)∧(n:Int)<0+16 then [UInt8.ofNat ((144:Int)+((n:Int) - 0)).toNat] else gQ 220 (n:Int) [2] 0)=_
  unfold oG cH
  by_cases a:n<16
  ·rw [Am ⟨by omega,by omega⟩,Am a,show (144+((n:Int) - 0)).toNat=144+n by omega];rfl
  ·rw [Ae (by omega),Ae a]
   unfold gQ;rw [sR n (by omega),show dZ (n:Int) 2=true by unfold dZ;simp;omega];rfl
 ·show (if (0:Int)≤(n:Int)∧(n:Int)<0+16 then [UInt8.ofNat ((128:Int)+((n:Int) - 0)).toNat] else gQ 222 (n:Int) [2] 0)=_
  unfold kR cH
  by_cases a:n<16
  ·rw [Am ⟨by omega,by omega⟩,Am a,show (128+((n:Int) - 0)).toNat=128+n by omega];rfl
  ·rw [Ae (by omega),Ae a]
   unfold gQ;rw [sR n (by omega),show dZ (n:Int) 2=true by unfold dZ;simp;omega];rfl
theorem aBo {d:Nat} {x:ND} (h:aC (d+1) x=true) (o:aP (d+1) x=true):sIx x<7∧(scR (sIx x)).kind=x.kind∧((scR (sIx x)).least<0↔iC x<0)∧oW (scR (sIx x)) (iC x)=cH (pHd x) (lD x)∧(∀j,j<sIx x→¬ ((scR j).kind=x.kind∧((scR j).least<0↔iC x<0)))∧-9223372036854775808≤iC x∧iC x≤9223372036854775807:=by
 obtain ⟨v,m,i,r⟩:=aX h;obtain ⟨c,s⟩:=cG o;have p:=dY i;unfold dD at c;rw [An,As,As] at c;have l:=iF h;obtain ⟨k,b,n,t,ns,its⟩:=x;unfold nd0 at l;simp only [ND.mk.injEq,ND.kind,ND.bool,ND.num,ND.text,ND.names,ND.items] at *;rcases l with ⟨rfl,rfl,rfl,rfl,rfl,rfl⟩ | ⟨rfl,-,rfl,rfl,rfl,rfl⟩ | ⟨rfl,rfl,-,rfl,rfl,rfl⟩ | ⟨rfl,rfl,rfl,-,rfl,rfl⟩ | ⟨rfl,rfl,rfl,rfl,rfl,-⟩ | ⟨⟨rfl,rfl,rfl,rfl,-,-⟩,u⟩
 ·exact ⟨by decide,rfl,by decide,rfl,fun j a=>absurd a (Nat.not_lt_zero _),by decide,by decide⟩
 ·have g:∀ (P:Prop) (j:Nat),j<1→¬ ((scR j).kind=1∧P):=fun P j a=>by
   obtain rfl:j=0:=by omega
   exact fun e=>absurd e.1 (by decide)
  cases b <;> exact ⟨by decide,rfl,by decide,rfl,fun j a=>g _ j a,by decide,by decide⟩
 ·have f:iC (.mk 2 false n ⟨#[]⟩ [] [])=n:=rfl
  rw [f]
  by_cases q:n<0
  ·rw [show sIx (.mk 2 false n ⟨#[]⟩ [] [])=3 by unfold sIx;simp [ND.kind,ND.num,q]]
   refine ⟨by decide,rfl,⟨fun _=>q,fun _=>by decide⟩,?_,fun j a=>?_,c.1,c.2⟩
   ·rw [XC n c.1 q];rfl
   ·obtain rfl | rfl | rfl:j=0∨j=1∨j=2:=by omega
    ·exact fun e=>absurd e.1 (by decide)
    ·exact fun e=>absurd e.1 (by decide)
    ·exact fun e=>absurd (e.2.2 q) (by decide)
  ·rw [show sIx (.mk 2 false n ⟨#[]⟩ [] [])=2 by unfold sIx;simp [ND.kind,ND.num,q]]
   refine ⟨by decide,rfl,⟨fun e=>absurd e (by decide),fun e=>absurd e q⟩,?_,fun j a=>?_,c.1,c.2⟩
   ·rw [XB n (by omega) c.2];rfl
   ·obtain rfl | rfl:j=0∨j=1:=by omega
    ·exact fun e=>absurd e.1 (by decide)
    ·exact fun e=>absurd e.1 (by decide)
 ·have f:iC (.mk 3 false 0 t [] [])=(t.size:Int):=rfl
  rw [f,show sIx (.mk 3 false 0 t [] [])=4 from rfl]
  refine ⟨by decide,rfl,⟨fun e=>absurd e (by decide),fun e=>by omega⟩,?_,fun j a=>?_,by omega,by omega⟩
  ·rw [XA t.size p];rfl
  ·obtain rfl | rfl | rfl | rfl:j=0∨j=1∨j=2∨j=3:=by omega
   all_goals exact fun e=>absurd e.1 (by decide)
 ·have f:iC (.mk 4 false 0 ⟨#[]⟩ [] its)=(its.length:Int):=rfl
  rw [f,show sIx (.mk 4 false 0 ⟨#[]⟩ [] its)=5 from rfl]
  refine ⟨by decide,rfl,⟨fun e=>absurd e (by decide),fun e=>by omega⟩,?_,fun j a=>?_,by omega,by omega⟩
  ·rw [(EI its.length m).1];rfl
  ·obtain rfl | rfl | rfl | rfl | rfl:j=0∨j=1∨j=2∨j=3∨j=4:=by omega
   all_goals exact fun e=>absurd e.1 (by decide)
 ·have f:iC (.mk 5 false 0 ⟨#[]⟩ ns its)=(its.length:Int):=rfl
  rw [f,show sIx (.mk 5 false 0 ⟨#[]⟩ ns its)=6 from rfl]
  refine ⟨by decide,rfl,⟨fun e=>absurd e (by decide),fun e=>by omega⟩,?_,fun j a=>?_,by omega,by omega⟩
  ·rw [(EI its.length m).2];rfl
  ·obtain rfl | rfl | rfl | rfl | rfl | rfl:j=0∨j=1∨j=2∨j=3∨j=4∨j=5:=by omega
   all_goals exact fun e=>absurd e.1 (by decide)
end Go.Proofs.YtncdpanfefnjlaaGreatDoor
namespace Go.Proofs.YtncdpanfefnjlaaGreatDoor
open Go.Proofs.Tryz
open Go Go.ChangeShapes Go.WideShapes Go.ChangeAt Go.RowKit
def scC (i:Nat) (v:Value):Vl:=[Iz (scR i).kind,Iz (scR i).least,Iz (scR i).count,.int .u8 (scR i).first,.int .u8 (scR i).wide,v]
def qV (v:Nat→Value):Vl:=(List.range 7).flatMap fun i=>scC i (v i)
theorem QB (v:Nat→Value) (j:Nat) (h:j<7):(qV v).toArray.extract (j * 6) (j * 6+6)=(scC j (v j)).toArray:=by
 obtain rfl | rfl | rfl | rfl | rfl | rfl | rfl:j=0∨j=1∨j=2∨j=3∨j=4∨j=5∨j=6:=by omega
 all_goals rfl
def aFp (B:Nat) (w:World) (v:Nat→Value):Prop:=9<B∧B≤w.heap.size∧(∀j u,(qV v)[j]?=some u→w.cell? ⟨9,j,none⟩=some u)∧∀i,i<7→mR B w (v i) (scR i).widths
def xW (B:Nat) (w:World):Prop:=∃v,aFp B w v
abbrev Scl (w:World):Prop:=xW w.heap.size w
theorem aFp.below {B:Nat} {w w':World} {v:Nat→Value} (h:aFp B w v) (a:Below B w w'):aFp B w' v:=by
 obtain ⟨b,e,d,f⟩:=h;exact ⟨b,Af e a.size,fun j u c=>(a.cell (p:=⟨9,j,none⟩) b).trans (d j u c),fun i g=>(f i g).below a⟩
theorem xW.below {B:Nat} {w w':World} (h:xW B w) (a:Below B w w'):xW B w':=by
 obtain ⟨v,h⟩:=h;exact ⟨v,h.below a⟩
theorem xW.to {B:Nat} {w w':World} (h:xW B w) (b:Below B w w'):Scl w':=by
 obtain ⟨v,h⟩:=h;obtain ⟨c,a,d,e⟩:=h.below b;exact ⟨v,Ll c a,Lr _,d,fun i f=>(e i f).same (fun _ _=>rfl) a⟩
section
variable {P:Program}
theorem ME (w:World) (g:Nat) (ty:TypeId) (a:Vl) (d:TypeDesc) (k:∀j v,a[j]?=some v→w.cell? ⟨g,j,none⟩=some v)
 (f:P.underlying ty=some d) (m:(match d with | .struct _ | .array _ _=>true | _=>false)=true) (c:(P.info? ty).map (·.size)=some a.length) :
 (loadVar ty ⟨g,0,none⟩).run P w=.ok (.agg a.toArray) w:=by
 have l:(loadCells ⟨g,0,none⟩ a.length).run P w=.ok a.toArray w:=
  run_loadCells_list (P:=P) w ⟨g,0,none⟩ a (fun j v e=>by
   rw [Bs,Ca];exact k j v e)
 cases hq:P.info? ty with
 | none=>simp [hq] at c
 | some i=>
  have h:i.size=a.length:=by simpa [hq] using c
  have b:(isAgg ty).run P w=.ok true w:=by
   unfold isAgg;rw [Sem.run_bind,run_underlying f w];cases d <;> simp_all
  simp [loadVar,Sem.run_bind,b,sizeOf,typeInfo,hq,h,l]
theorem aCl {b:Array Oper} {rest:List Oper} {o:Oper} {a:Act} {w:World} {Q:Exit→Act→World→Prop} (e:o.guard=none) (ty:TypeId) (x:Operand) (h:o.op=.load ty x)
 (g:Nat) (m:a.eval x=.pointer (some ⟨g,0,none⟩)) (c:Vl) (l:∀j v,c[j]?=some v→w.cell? ⟨g,j,none⟩=some v) (d:TypeDesc) (f:P.underlying ty=some d)
 (n:(match d with | .struct _ | .array _ _=>true | _=>false)=true) (k:(P.info? ty).map (·.size)=some c.length)
 (K:wpList P b Q rest (a.put o.dst (.agg c.toArray)) w):wpList P b Q (o::rest) a w:=by
 refine wpList_plain e fun _ i=>?_
 unfold Oper.wp execOp;simp only [h,m,Instr.loadAt,Instr.sureAddr,Sem.run_bind,Sem.run_pure,Result.andThen_ok,ME w g ty c d l f n k];exact i _ _ K
theorem MF (t e:TypeId) (n s:Nat) (b:Array Value) (j:Nat) (h:P.underlying t=some (.array n e)) (g:j<n) (c:∀w,(isAgg e).run P w=.ok true w) (a:∀w,(sizeOf e).run P w=.ok s w) (w:World) :
 (Instr.index t (.agg b) (Iz (j:Int))).run P w=.ok (.agg (b.extract (j * s) (j * s+s))) w:=by
 have d:(0≤(j:Int)∧(j:Int)<(n:Int)):=⟨by omega,by omega⟩
 have f:∀k,(part e b k).run P w=.ok (.agg (b.extract k (k+s))) w:=by
  intro k;simp only [part,Sem.run_bind,a,c,Result.andThen_ok];simp [Sem.run_bind,a]
 simp [Instr.index,asIntOf,run_underlying h,d,a,f,Result.andThen];omega
end
theorem aEd (z:Int):dZ z 8=true:=rfl
theorem LB (k l c f j:Int) (h:Option Addr) (a b:Nat) (w:World):Calls prog 200 #[.agg #[Iz k,Iz l,Iz c,.int .u8 f,.int .u8 j,.slice h a b]] w fun e w'=>e=.returned (.bool (decide (l<0)))∧Below w.heap.size w w':=by
 go_enter func200,ntmps200
 go_upto_region 1 with fail
 generalize d:w.alloc _=m;obtain ⟨g,i⟩:=Al d;clear d;have c1:=aA i
 go_wp2
 go_ret
 exact ⟨rfl,g⟩
theorem WQ (z k:Int) (w:World) (b:k=1∨k=2∨k=4∨k=8) (d:-9223372036854775808≤z) (f:z≤9223372036854775807):Calls prog 214 #[Iz z,Iz k] w fun e w'=>e=.returned (.bool (dZ z k))∧w=w':=by
 by_cases c:z<0
 ·rcases b with rfl | rfl | rfl | rfl
  ·have a:(z / 128 == -1)=dZ z 1:=by unfold dZ;rw [Bool.eq_iff_iff];simp;omega
   go_enter func214,ntmps214
   go_wp2
   go_ret
   exact ⟨rfl,rfl⟩
  ·have a:(z / 32768 == -1)=dZ z 2:=by unfold dZ;rw [Bool.eq_iff_iff];simp;omega
   go_enter func214,ntmps214
   go_wp2
   go_ret
   exact ⟨rfl,rfl⟩
  ·have a:(z / 2147483648 == -1)=dZ z 4:=by unfold dZ;rw [Bool.eq_iff_iff];simp;omega
   go_enter func214,ntmps214
   go_wp2
   go_ret
   exact ⟨rfl,rfl⟩
  ·have a:(z / 9223372036854775808 == -1)=true:=by simp;omega
   rw [aEd]
   go_enter func214,ntmps214
   go_wp2
   go_ret
   exact ⟨rfl,rfl⟩
 ·rcases b with rfl | rfl | rfl | rfl
  ·have a:(z / 256 == 0)=dZ z 1:=by unfold dZ;rw [Bool.eq_iff_iff];simp;omega
   go_enter func214,ntmps214
   go_wp2
   go_ret
   exact ⟨rfl,rfl⟩
  ·have a:(z / 65536 == 0)=dZ z 2:=by unfold dZ;rw [Bool.eq_iff_iff];simp;omega
   go_enter func214,ntmps214
   go_wp2
   go_ret
   exact ⟨rfl,rfl⟩
  ·have a:(z / 4294967296 == 0)=dZ z 4:=by unfold dZ;rw [Bool.eq_iff_iff];simp;omega
   go_enter func214,ntmps214
   go_wp2
   go_ret
   exact ⟨rfl,rfl⟩
  ·have a:(z / 18446744073709551616 == 0)=true:=by simp;omega
   rw [aEd]
   go_enter func214,ntmps214
   go_wp2
   go_ret
   exact ⟨rfl,rfl⟩
theorem aKr (z:Int) (i:Nat) (h:i≤7):z / 2 ^ (8 * i) % 256=((UInt8.ofNat (cU z / 256 ^ i)).toNat:Int):=by
 rw [Bb];unfold cU;obtain rfl | rfl | rfl | rfl | rfl | rfl | rfl | rfl:i=0∨i=1∨i=2∨i=3∨i=4∨i=5∨i=6∨i=7:=by omega
 all_goals (simp only [Nat.reduceMul,Nat.reducePow,Int.reducePow];omega)
theorem aCa {w:World} {B n b g j:Nat} {T:TypeId} {e:Vl} (h:w.ownsRow B T 1 (.slice (some ⟨g,0,none⟩) n b) n e) (q:j<n) (u:Value):(w.setCell ⟨g,j,none⟩ u).ownsRow B T 1 (.slice (some ⟨g,0,none⟩) n b) n (e.set j u)∧w.cell? ⟨g,j,none⟩=e[j]?∧w.frozen? ⟨g,j,none⟩=false∧B≤g:=by
 obtain ⟨o,h⟩:=h;rcases h with ⟨h,-⟩ | ⟨r,m,k,p,l,f,i,d,c,a⟩
 ·cases h
 ·cases p
  rw [Nat.mul_one] at a c o;refine ⟨⟨by rw [List.length_set,Nat.mul_one];exact o,.inr ⟨g,b,k.setIfInBounds j u,rfl,l,dX f u,i,d,by rw [Array.size_setIfInBounds,Nat.mul_one];exact c,?_⟩⟩,?_,gZ f,l⟩
  ·rw [Array.toList_setIfInBounds,Nat.mul_one,List.take_set,a]
  ·rw [←a,Dn,Am q,Array.getElem?_toList]
   simp [World.cell?,f]
theorem aIi (N k j:Nat) (a:j<k):(List.replicate (k - j) (Value.int .u8 0)++aS (bR N j)).set (k - 1 - j) (.int .u8 ((UInt8.ofNat (N / 256 ^ j)).toNat:Int))=List.replicate (k - (j+1)) (Value.int .u8 0)++aS (bR N (j+1)):=by
 obtain ⟨m,rfl⟩:∃m,k=j+1+m:=⟨k - (j+1),by omega⟩
 rw [show j+1+m - j=m+1 by omega,show j+1+m - 1 - j=m by omega,show j+1+m - (j+1)=m by omega,List.replicate_succ',Aj,Df _ _ (by simp)]
 simp [aS,bR]
theorem YA (z:Int) (k:Nat) (w:World) (hk:k≤8):Calls prog 215 #[Iz z,Iz (k:Int)] w fun e w'=>e=.returned (.string (bC (bR (cU z) k)))∧Below w.heap.size w w':=by
 obtain ⟨i0,W,D,y,B⟩:=Ea nA;have s:=underlying69;have t:=underlying5;have h:=underlying9;have R:(k:Int)≤8:=by omega
 have V:(0:Int)≤(k:Int):=by omega
 have N:=Hh (aKr z)
 go_enter func215,ntmps215
 go_upto_region 3 with (at_make;refine wpList_make_full _ rfl _ _ 69 rfl _ 5 i0 (.int .u8 0) 1 underlying69 W D y .i64 .i64 _ _ k rfl rfl rfl rfl (by rw [B];omega) (by unfold maxLen;omega) (Lr _) ?_;intro O a b)
 rw [show (Value.int .u8 0).cells=#[.int .u8 0] from rfl,toList_madeCells_one,Nat.mul_one] at a
 have K:=(Br w.heap.size w).grown b (Lr _) (fun _ e=>by cases e)
 have d:O.ownsRow w.heap.size 5 1 (.slice (some ⟨w.heap.size,0,none⟩) k k) k (List.replicate k (Value.int .u8 0)):=a;have E:w.heap.size≤w.heap.size:=Lr _;obtain ⟨g,v⟩:∃g,g=w.heap.size:=⟨_,rfl⟩;rw [←v] at d ⊢;have HG:=Hh v;have u:=Hh K;have r:=Hh d;clear a b d K v E
 go_loopw [10] (fun i wr=>∃ (j:Nat),i=Iz (j:Int)∧j≤k∧wr.ownsRow g 5 1 (.slice (some ⟨g,0,none⟩) k k) k (List.replicate (k - j) (Value.int .u8 0)++aS (bR (cU z) j))∧Below w.heap.size w wr) (fun i _=>k - (intOf i).toNat)
 case atStart=>exact ⟨0,by simp,Av _,by simpa [bR,aS] using r.o,u.o⟩
 case round=>
  obtain ⟨j,rfl,hj,a,q⟩:=hrel;have H:=Hh (Ai a q)
  by_cases C:j<k
  ·have L:(j:Int)<(k:Int):=by omega
   obtain ⟨m,x⟩:∃m:Nat,(m:Int)=(k:Int) - 1 - (j:Int):=⟨k - 1 - j,by omega⟩
   have X:IntKind.i64.wrap ((k:Int) - 1)=(k:Int) - 1:=Cc _ (by omega)
   have xb:IntKind.i64.wrap ((k:Int) - 1 - (j:Int))=(m:Int):=by rw [x];exact Cc _ (by omega)
   have Z:(k:Int) - 1 - (j:Int)=(m:Int):=x.symm;have M:(m:Int)<(k:Int):=by omega
   have S:(0:Int)≤(m:Int):=by omega
   have U:(j:Int)≤7:=by omega
   have Y:(0:Int)≤(j:Int):=by omega
   obtain ⟨c,f⟩:∃c,c=UInt8.ofNat (cU z / 256 ^ j):=⟨_,rfl⟩;have hc:z / 2 ^ (8 * j) % 256=(c.toNat:Int):=by rw [f];exact N.o j (by omega)
   obtain ⟨G,J,o3,-⟩:=aCa a (j:=m) (by omega) (.int .u8 (c.toNat:Int))
   have l:m=k - 1 - j:=by omega
   have Q:wr.cell? ⟨g,m,none⟩=some (.int .u8 0):=by
    rw [J,Cs (by simp;omega),List.getElem?_replicate,Am (by omega)]
   have I:(List.replicate (k - j) (Value.int .u8 0)++aS (bR (cU z) j)).set m (.int .u8 (c.toNat:Int))=List.replicate (k - (j+1)) (Value.int .u8 0)++aS (bR (cU z) (j+1)):=by
    rw [l,f];exact aIi _ _ _ C
   rw [I] at G;have n:=q.setCell (p:=⟨g,m,none⟩) (by rw [HG.o];exact Lr _) (.int .u8 (c.toNat:Int))
   have F:=Hh (Ai G n);clear x f J I a q G n l
   go_wp2
   go_roundw
   case rel=>exact ⟨j+1,by go_num,by omega,F.o.1,F.o.2⟩
   case measure=>simp [intOf] <;> omega
  ·have A:j=k:=by omega
   have xa:¬ (j:Int)<(k:Int):=by omega
   subst A;rw [Nat.sub_self,List.replicate_zero,Ds] at a;have T:=eA (P:=prog) wr 69 9 5 g j _ (bR (cU z) j) a s t h;clear a
   go_wp2
   go_ret
   exact ⟨rfl,q⟩
theorem CJ (l:Ub) (a b:Nat):(bC l).extract a b=bC ((l.drop a).take (b - a)):=by
 apply Cr
 apply Cg.1
 rw [ByteArray.data_extract,Array.toList_extract];simp [bC,List.extract]
theorem aIm (l:Ub) (n:Nat):(bC l).extract 0 n=bC (l.take n):=by rw [CJ];simp
theorem aIl (l:Ub) (n:Nat):(bC l).extract n (bC l).size=bC (l.drop n):=by
 rw [CJ,bY,Ak (by simp)]
theorem RV (X c:Int) (e:X % 256=0) (f:0≤c) (g:c<256):bits BinOp.or IntKind.i64 X c=wrap64 (X+c):=by
 show IntKind.i64.wrap ((BitVec.ofInt 64 X ||| BitVec.ofInt 64 c).toNat:Int)=_
 rw [BitVec.toNat_or,BitVec.toNat_ofInt,BitVec.toNat_ofInt,IntKind.wrap_i64];obtain ⟨a,d⟩:∃a:Nat,(X % ((2 ^ 64:Nat):Int)).toNat=2 ^ 8 * a:=⟨(X % ((2 ^ 64:Nat):Int)).toNat / 256,by omega⟩
 have b:(c % ((2 ^ 64:Nat):Int)).toNat=c.toNat:=by omega
 rw [d,b,←Nat.two_pow_add_eq_or_of_lt (by omega:c.toNat<2 ^ 8) a]
 unfold wrap64;omega
def sgE (neg:Bool) (j:Nat):Int:=if neg then 256 ^ j else 0
theorem aBi (neg:Bool) (j:Nat):sgE neg (j+1)=256 * sgE neg j:=by
 unfold sgE;cases neg
 ·rfl
 ·rw [Am rfl,Am rfl,Int.pow_succ];omega
theorem aBj (b T c:Int) (d:0≤c) (a:c<256):bits BinOp.or IntKind.i64 (wrap64 (wrap64 (b - T) * 256)) c=wrap64 ((b * 256+c) - 256 * T):=by
 rw [RV _ _ (by unfold wrap64;omega) d a]
 unfold wrap64;omega
def rQ (neg:Bool) (l:Ub):Int:=wrap64 ((gM l:Int) - sgE neg l.length)
theorem XS (neg:Bool) (l:Ub) (c:UInt8):rQ neg (l++[c])=bits BinOp.or IntKind.i64 (wrap64 (rQ neg l * 256)) (c.toNat:Int):=by
 unfold rQ;rw [Lg,FZ,show [c].length=1 from rfl,aBi,aBj _ _ _ (by omega) (by have:=c.toNat_lt;omega)]
 congr 1
theorem aCg (neg:Bool):rQ neg []=if neg then -1 else 0:=by cases neg <;> decide +kernel
theorem XR (neg:Bool) (l:Ub):dD (rQ neg l)=true:=by
 unfold rQ dD wrap64;rw [An,As,As];omega
def PrM (B:Nat) (w:World) (g:Nat) (r:Ub):Prop:=w.heap[g]?=some (.cells #[.string (bC r)] 193 (0,0))∧xW B w∧B≤g
theorem PrM.lt {B:Nat} {w:World} {g:Nat} {r:Ub} (h:PrM B w g r):g<w.heap.size:=Aa h.1
theorem PrM.kept {B:Nat} {w w':World} {g b:Nat} {r:Ub} (h:PrM B w g r) (a:w.grownBy w' (some b)) (i:g<b):PrM B w' g r:=by
 have j:=h.lt;obtain ⟨c,e,d⟩:=h;exact ⟨cP a (by omega) c,e.below ((Br B w).grown a (by omega) (fun k f=>by cases f;omega)),d⟩
theorem PrM.below {B:Nat} {w w':World} {g:Nat} {r:Ub} (h:PrM B w g r) (a:Below w.heap.size w w'):PrM B w' g r:=by
 have e:=h.lt;obtain ⟨b,d,c⟩:=h;exact ⟨(a.block g e).trans b,d.below (a.mono (by omega)),c⟩
theorem PrM.set {B:Nat} {w:World} {g:Nat} {r:Ub} (h:PrM B w g r) (a:Ub):PrM B (w.setCell ⟨g,0,none⟩ (.string (bC a))) g a∧w.grownBy (w.setCell ⟨g,0,none⟩ (.string (bC a))) (some g):=by
 obtain ⟨c,e,b⟩:=h;have k:=dX c (j:=0) (.string (bC a));have d:=aV w g 0 (.string (bC a));exact ⟨⟨by simpa using k,e.below ((Br B w).setCell (p:=⟨g,0,none⟩) b _),b⟩,d⟩
def JM (B g:Nat) (w:World) (v:Value) (a:Ub) (e:Ending) (w':World):Prop:=e=.returned v∧PrM B w' g a∧w.grownBy w' (some g)
theorem vC (n:Nat) {B g:Nat} {r:Ub} (w:World) (h:PrM B w g r) (j:r.length≤1000000) (q:n≤r.length):Calls prog 177 #[.pointer (some ⟨g,0,none⟩),Iz (n:Int)] w (JM B g w (.tuple #[.string (bC (r.take n)),.bool true]) (r.drop n)):=by
 have l:w.cell? ⟨g,0,none⟩=some (.string (bC r)):=aL h.1 rfl;have e:w.frozen? ⟨g,0,none⟩=false:=gZ h.1;have b:=bY r;have f:(n:Int)≤((bC r).size:Int):=by omega
 have c:¬ ((bC r).size:Int)<(n:Int):=by omega
 have k:(0:Int)≤(n:Int):=by omega
 have d:=aIm r n;have i:=aIl r n;have a:=Hh (h.set (r.drop n));clear b q h
 go_enter func177,ntmps177
 go_wp2
 go_ret2
 exact ⟨rfl,a.o.1,a.o.2⟩
theorem AP (n:Nat) {B g:Nat} {r:Ub} (w:World) (h:PrM B w g r) (d:r.length≤1000000) (q:¬n≤r.length):Calls prog 177 #[.pointer (some ⟨g,0,none⟩),Iz (n:Int)] w (JM B g w (.tuple #[.string ⟨#[]⟩,.bool false]) r):=by
 have e:w.cell? ⟨g,0,none⟩=some (.string (bC r)):=aL h.1 rfl;have a:=bY r;have c:((bC r).size:Int)<(n:Int):=by omega
 have b:=Hh h;clear a q h
 go_enter func177,ntmps177
 go_wp2
 go_ret2
 exact ⟨rfl,b.o,aK (Br _ _) (Lr _) _⟩
theorem aCm (n:Nat) (neg:Bool) {B g:Nat} {r:Ub} (w:World) (h:PrM B w g r) (W:r.length≤1000000) (q:n≤r.length) (Z:n≤8):Calls prog 199 #[.pointer (some ⟨g,0,none⟩),Iz (n:Int),.bool neg] w (JM B g w (.tuple #[Iz (rQ neg (r.take n)),.bool true]) (r.drop n)):=by
 have Q:=Hh (vC n w h W q);obtain ⟨l,C⟩:∃l,l=r.take n:=⟨_,rfl⟩;have f:l.length=n:=by rw [C,Bc];omega
 obtain ⟨s,A⟩:∃s,s=bC l:=⟨_,rfl⟩;rw [←C,←A] at Q;rw [←C];have t:s.size=n:=by rw [A,bY,f]
 have x:Hid (∀ (p:Nat) (h:p<s.size),l[p]?=some (s[p]'h)):=Hh fun p h=>by
  have e:l=s.data.toList:=by rw [A,gR]
  rw [e,Ac (by rw [Ah];exact h)];rfl
 have E:=Hh f;have I:(s.size:Int)=(n:Int):=by omega
 obtain ⟨F,J⟩:∃F:Ub→Int,F=rQ neg:=⟨_,rfl⟩;have P:Hid (F []=(if neg then -1 else 0)∧∀l c,bits BinOp.or IntKind.i64 (wrap64 (F l * 256)) ((c:UInt8).toNat:Int)=F (l++[c])):=Hh (by rw [J];exact ⟨aCg neg,fun l c=>(XS neg l c).symm⟩)
 rw [←J];have u:=Hh t;clear h C A f q J t I
 go_enter func199,ntmps199
 cases neg
 all_goals
  go_upto_region 6 with ((with_reducible refine (Q.o).mono ?_);rintro e V ⟨rfl,z,v⟩)
  have O:=Hh (Ai z v);clear z v
  go_loopw [10,21] (fun X G wr=>∃ (j:Nat) (N:Int),G=Iz (j:Int)∧j≤n∧X=Iz N∧N=F (l.take j)∧wr=V) (fun _ G _=>n - (intOf G).toNat)
  case atStart=>exact ⟨0,_,rfl,Av _,rfl,P.o.1.symm,rfl⟩
  case round=>
   obtain ⟨j,N,rfl,hj,rfl,y,i⟩:=hrel
   replace i:=i.symm
   subst i
   by_cases L:j<n
   ·have b:j<s.size:=by rw [u.o];exact L
    have R:(j:Int)<(s.size:Int):=by omega
    have Y:(0:Int)≤(j:Int):=by omega
    have M:=x.o j b;obtain ⟨k,d⟩:∃k,k=s[j]'b:=⟨_,rfl⟩;rw [←d] at M;have S:=d.symm;have U:IntKind.i64.wrap (k.toNat:Int)=(k.toNat:Int):=Cc _ (by have:=k.toNat_lt;omega)
    have D:bits BinOp.or IntKind.i64 (wrap64 (N * 256)) (k.toNat:Int)=F (l.take (j+1)):=by
     rw [y,P.o.2,Bf,M];rfl
    obtain ⟨K,a⟩:∃K:Int,K=F (l.take (j+1)):=⟨_,rfl⟩;rw [←a] at D;have H:=Hh a;clear y a M d
    go_wp2
    go_roundw
    case rel=>exact ⟨j+1,K,by go_num,by omega,rfl,H.o,by first | rfl | trivial⟩
    case measure=>simp [intOf] <;> omega
   ·have b:¬ (j:Int)<(s.size:Int):=by have:=u.o;omega
    have m:l.take j=l:=Ak (by have:=E.o;omega)
    rw [m] at y;have T:=Hh y;clear y m
    go_wp2
    go_ret2
    exact ⟨by rw [T.o];rfl,O.o.1,O.o.2⟩
theorem aHe (n:Nat) (neg:Bool) {B g:Nat} {r:Ub} (w:World) (h:PrM B w g r) (m:r.length≤1000000) (q:¬n≤r.length):Calls prog 199 #[.pointer (some ⟨g,0,none⟩),Iz (n:Int),.bool neg] w (JM B g w (.tuple #[Iz (if neg then -1 else 0),.bool false]) r):=by
 have j:=Hh (AP n w h m q);obtain ⟨Z,d⟩:∃Z:Int,Z=(if neg then -1 else 0):=⟨_,rfl⟩
 rw [←d];have l:=Hh d;clear h q d
 go_enter func199,ntmps199
 cases neg
 all_goals
  go_upto_region 6 with ((with_reducible refine (j.o).mono ?_);rintro e k ⟨rfl,b,c⟩)
  have f:=Hh (Ai b c);clear b c
  go_loopw [10,21] (fun p i wr=>i=Iz 0∧p=Iz Z∧wr=k) (fun _ i _=>0)
  case atStart=>exact ⟨rfl,by rw [l.o];rfl,rfl⟩
  case round=>
   obtain ⟨rfl,rfl,a⟩:=hrel
   replace a:=a.symm
   subst a
   go_wp2
   go_ret2
   exact ⟨rfl,f.o.1,f.o.2⟩
end Go.Proofs.YtncdpanfefnjlaaGreatDoor