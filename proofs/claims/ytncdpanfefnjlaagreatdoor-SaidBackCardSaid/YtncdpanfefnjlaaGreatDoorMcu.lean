import Derived.Test.YtncdpanfefnjlaaGreatDoorMde
set_option linter.unusedVariables false
set_option linter.unusedSimpArgs false
set_option maxRecDepth 100000
set_option maxHeartbeats 1600000
namespace Go.Proofs.YtncdpanfefnjlaaGreatDoor
open Go.Proofs.Tryz
structure ScR where
 kind:Int
 least:Int
 count:Int
 first:Int
 wide:Int
 widths:List Int
def aJg:List ScR:=[⟨0,0,1,192,0,[]⟩,⟨1,0,2,194,0,[]⟩,⟨2,0,128,0,204,[1,2,4,8]⟩,⟨2,-32,32,224,208,[1,2,4,8]⟩,⟨3,0,32,160,217,[1,2,4]⟩,⟨4,0,16,144,220,[2]⟩,⟨5,0,16,128,222,[2]⟩]
def scR (i:Nat):ScR:=aJg.getD i ⟨0,0,0,0,0,[]⟩
theorem aFj {P:ScR→Prop} (h0:P ⟨0,0,1,192,0,[]⟩) (h1:P ⟨1,0,2,194,0,[]⟩) (h2:P ⟨2,0,128,0,204,[1,2,4,8]⟩) (h3:P ⟨2,-32,32,224,208,[1,2,4,8]⟩) (h4:P ⟨3,0,32,160,217,[1,2,4]⟩) (h5:P ⟨4,0,16,144,220,[2]⟩) (h6:P ⟨5,0,16,128,222,[2]⟩):∀i,i<7→P (scR i)
 | 0,_=>h0
 | 1,_=>h1
 | 2,_=>h2
 | 3,_=>h3
 | 4,_=>h4
 | 5,_=>h5
 | 6,_=>h6
 | n+7,h=>absurd h (by omega)
def dS (z k:Int):Bool:=if k=1 then decide (-128≤z∧z<256) else if k=2 then decide (-32768≤z∧z<65536) else if k=4 then decide (-2147483648≤z∧z<4294967296) else true
def gF (b z:Int):List Int→Nat→Ub
 | [],_=>[]
 | k::t,j=>if dS z k then UInt8.ofNat (b.toNat+j)::dF (eU z) k.toNat else gF b z t (j+1)
def oB (r:ScR) (z:Int):Ub:=if r.least≤z∧z<r.least+r.count then [UInt8.ofNat (r.first+(z - r.least)).toNat] else gF r.wide z r.widths 0
def sIx (x:ND):Nat:=if x.kind=0 then 0 else if x.kind=1 then 1 else if x.kind=2 then (if x.num<0 then 3 else 2) else if x.kind=3 then 4 else if x.kind=4 then 5 else 6
theorem RZ (z:Int) (h1:-9223372036854775808≤z) (h2:z≤9223372036854775807):eU z % 256=(z % 256).toNat:=by unfold eU;omega
theorem UZ (z:Int) (h1:0≤z) (h2:z≤9223372036854775807):oB (scR 2) z=cZ (qR z) (eU z):=by
 show (if (0:Int)≤z∧z<0+128 then [UInt8.ofNat ((0:Int)+(z - 0)).toNat] else gF 204 z [1,2,4,8] 0)=_
 unfold qR cZ
 by_cases a:z<128
 ·rw [Am ⟨h1,by omega⟩,Am ⟨by omega,a⟩]
  dsimp only;rw [RZ z (by omega) h2,show (0+(z - 0)).toNat=(z % 256).toNat by omega]
  rfl
 ·rw [Af (by omega),Af (by omega),Am (by omega)]
  unfold gF
  by_cases b:z<256
  ·rw [Am b,show dS z 1=true by unfold dS;simp;omega];rfl
  rw [Af b,show dS z 1=false by unfold dS;simp;omega]
  unfold gF
  by_cases b:z<65536
  ·rw [Am b,show dS z 2=true by unfold dS;simp;omega];rfl
  rw [Af b,show dS z 2=false by unfold dS;simp;omega]
  unfold gF
  by_cases b:z<4294967296
  ·rw [Am b,show dS z 4=true by unfold dS;simp;omega];rfl
  rw [Af b,show dS z 4=false by unfold dS;simp;omega]
  rfl
theorem VB (z:Int) (h1:-9223372036854775808≤z) (h2:z<0):oB (scR 3) z=cZ (qR z) (eU z):=by
 show (if (-32:Int)≤z∧z < -32+32 then [UInt8.ofNat ((224:Int)+(z - -32)).toNat] else gF 208 z [1,2,4,8] 0)=_
 unfold qR cZ
 by_cases a:-32≤z
 ·rw [Am ⟨a,by omega⟩,Am ⟨by omega,by omega⟩]
  dsimp only;rw [RZ z (by omega) (by omega),show (224+(z - -32)).toNat=(z % 256).toNat by omega]
  rfl
 ·rw [Af (by omega),Af (by omega),Af (by omega)]
  unfold gF
  by_cases b:-128≤z
  ·rw [Am b,show dS z 1=true by unfold dS;simp;omega];rfl
  rw [Af b,show dS z 1=false by unfold dS;simp;omega]
  unfold gF
  by_cases b:-32768≤z
  ·rw [Am b,show dS z 2=true by unfold dS;simp;omega];rfl
  rw [Af b,show dS z 2=false by unfold dS;simp;omega]
  unfold gF
  by_cases b:-2147483648≤z
  ·rw [Am b,show dS z 4=true by unfold dS;simp;omega];rfl
  rw [Af b,show dS z 4=false by unfold dS;simp;omega]
  rfl
theorem rS (n:Nat) (h:n<18446744073709551616):eU (n:Int)=n:=by unfold eU;omega
theorem UY (n:Nat) (h:n≤65536):oB (scR 4) (n:Int)=cZ (kL n) n:=by
 show (if (0:Int)≤(n:Int)∧(n:Int)<0+32 then [UInt8.ofNat ((160:Int)+((n:Int) - 0)).toNat] else gF 217 (n:Int) [1,2,4] 0)=_
 unfold kL cZ
 by_cases a:n<32
 ·rw [Am ⟨by omega,by omega⟩,Am a,show (160+((n:Int) - 0)).toNat=160+n by omega];rfl
 ·rw [Af (by omega),Af a]
  unfold gF;rw [rS n (by omega)]
  by_cases b:n<256
  ·rw [Am b,show dS (n:Int) 1=true by unfold dS;simp;omega];rfl
  rw [Af b,show dS (n:Int) 1=false by unfold dS;simp;omega]
  unfold gF;rw [rS n (by omega)]
  by_cases b:n<65536
  ·rw [Am b,show dS (n:Int) 2=true by unfold dS;simp;omega];rfl
  rw [Af b,show dS (n:Int) 2=false by unfold dS;simp;omega]
  unfold gF;rw [rS n (by omega),show dS (n:Int) 4=true by unfold dS;simp;omega]
  rfl
theorem CP (n:Nat) (h:n≤256):oB (scR 5) (n:Int)=cZ (uB n) n∧oB (scR 6) (n:Int)=cZ (mB n) n:=by
 refine ⟨?_,?_⟩
 ·show (if (0:Int)≤(n:Int)∧(n:Int)<0+16 then [UInt8.ofNat ((144:Int)+((n:Int) - 0)).toNat] else gF 220 (n:Int) [2] 0)=_
  unfold uB cZ
  by_cases a:n<16
  ·rw [Am ⟨by omega,by omega⟩,Am a,show (144+((n:Int) - 0)).toNat=144+n by omega];rfl
  ·rw [Af (by omega),Af a]
   unfold gF;rw [rS n (by omega),show dS (n:Int) 2=true by unfold dS;simp;omega];rfl
 ·show (if (0:Int)≤(n:Int)∧(n:Int)<0+16 then [UInt8.ofNat ((128:Int)+((n:Int) - 0)).toNat] else gF 222 (n:Int) [2] 0)=_
  unfold mB cZ
  by_cases a:n<16
  ·rw [Am ⟨by omega,by omega⟩,Am a,show (128+((n:Int) - 0)).toNat=128+n by omega];rfl
  ·rw [Af (by omega),Af a]
   unfold gF;rw [rS n (by omega),show dS (n:Int) 2=true by unfold dS;simp;omega];rfl
theorem ZX {d:Nat} {x:ND} (h:aB (d+1) x=true) (hn:aO (d+1) x=true):sIx x<7∧(scR (sIx x)).kind=x.kind∧((scR (sIx x)).least<0↔gR x<0)∧oB (scR (sIx x)) (gR x)=cZ (pHd x) (kO x)∧(∀j,j<sIx x→¬ ((scR j).kind=x.kind∧((scR j).least<0↔gR x<0)))∧-9223372036854775808≤gR x∧gR x≤9223372036854775807:=by
 obtain ⟨hi,hl,htx,hns⟩:=aX h;obtain ⟨hw,hni⟩:=cL hn;have h1:=fJ htx;unfold dD at hw;rw [Ak,Av,Av] at hw;have hk:=jA h;obtain ⟨k,b,n,t,ns,its⟩:=x;unfold nd0 at hk;simp only [ND.mk.injEq,ND.kind,ND.bool,ND.num,ND.text,ND.names,ND.items] at *;rcases hk with ⟨rfl,rfl,rfl,rfl,rfl,rfl⟩ | ⟨rfl,-,rfl,rfl,rfl,rfl⟩ | ⟨rfl,rfl,-,rfl,rfl,rfl⟩ | ⟨rfl,rfl,rfl,-,rfl,rfl⟩ | ⟨rfl,rfl,rfl,rfl,rfl,-⟩ | ⟨⟨rfl,rfl,rfl,rfl,-,-⟩,hlx⟩
 ·exact ⟨by decide,rfl,by decide,rfl,fun j hj=>absurd hj (Nat.not_lt_zero _),by decide,by decide⟩
 ·have hj0:∀ (P:Prop) (j:Nat),j<1→¬ ((scR j).kind=1∧P):=fun P j hj=>by
   obtain rfl:j=0:=by omega
   exact fun e=>absurd e.1 (by decide)
  cases b <;> exact ⟨by decide,rfl,by decide,rfl,fun j hj=>hj0 _ j hj,by decide,by decide⟩
 ·have hp:gR (.mk 2 false n ⟨#[]⟩ [] [])=n:=rfl
  rw [hp]
  by_cases q:n<0
  ·rw [show sIx (.mk 2 false n ⟨#[]⟩ [] [])=3 by unfold sIx;simp [ND.kind,ND.num,q]]
   refine ⟨by decide,rfl,⟨fun _=>q,fun _=>by decide⟩,?_,fun j hj=>?_,hw.1,hw.2⟩
   ·rw [VB n hw.1 q];rfl
   ·obtain rfl | rfl | rfl:j=0∨j=1∨j=2:=by omega
    ·exact fun e=>absurd e.1 (by decide)
    ·exact fun e=>absurd e.1 (by decide)
    ·exact fun e=>absurd (e.2.2 q) (by decide)
  ·rw [show sIx (.mk 2 false n ⟨#[]⟩ [] [])=2 by unfold sIx;simp [ND.kind,ND.num,q]]
   refine ⟨by decide,rfl,⟨fun e=>absurd e (by decide),fun e=>absurd e q⟩,?_,fun j hj=>?_,hw.1,hw.2⟩
   ·rw [UZ n (by omega) hw.2];rfl
   ·obtain rfl | rfl:j=0∨j=1:=by omega
    ·exact fun e=>absurd e.1 (by decide)
    ·exact fun e=>absurd e.1 (by decide)
 ·have hp:gR (.mk 3 false 0 t [] [])=(t.size:Int):=rfl
  rw [hp,show sIx (.mk 3 false 0 t [] [])=4 from rfl]
  refine ⟨by decide,rfl,⟨fun e=>absurd e (by decide),fun e=>by omega⟩,?_,fun j hj=>?_,by omega,by omega⟩
  ·rw [UY t.size h1];rfl
  ·obtain rfl | rfl | rfl | rfl:j=0∨j=1∨j=2∨j=3:=by omega
   all_goals exact fun e=>absurd e.1 (by decide)
 ·have hp:gR (.mk 4 false 0 ⟨#[]⟩ [] its)=(its.length:Int):=rfl
  rw [hp,show sIx (.mk 4 false 0 ⟨#[]⟩ [] its)=5 from rfl]
  refine ⟨by decide,rfl,⟨fun e=>absurd e (by decide),fun e=>by omega⟩,?_,fun j hj=>?_,by omega,by omega⟩
  ·rw [(CP its.length hl).1];rfl
  ·obtain rfl | rfl | rfl | rfl | rfl:j=0∨j=1∨j=2∨j=3∨j=4:=by omega
   all_goals exact fun e=>absurd e.1 (by decide)
 ·have hp:gR (.mk 5 false 0 ⟨#[]⟩ ns its)=(its.length:Int):=rfl
  rw [hp,show sIx (.mk 5 false 0 ⟨#[]⟩ ns its)=6 from rfl]
  refine ⟨by decide,rfl,⟨fun e=>absurd e (by decide),fun e=>by omega⟩,?_,fun j hj=>?_,by omega,by omega⟩
  ·rw [(CP its.length hl).2];rfl
  ·obtain rfl | rfl | rfl | rfl | rfl | rfl:j=0∨j=1∨j=2∨j=3∨j=4∨j=5:=by omega
   all_goals exact fun e=>absurd e.1 (by decide)
end Go.Proofs.YtncdpanfefnjlaaGreatDoor
namespace Go.Proofs.YtncdpanfefnjlaaGreatDoor
open Go.Proofs.Tryz
open Go Go.ChangeShapes Go.WideShapes Go.ChangeAt Go.RowKit
def scC (i:Nat) (v:Value):Vl:=[Iz (scR i).kind,Iz (scR i).least,Iz (scR i).count,.int .u8 (scR i).first,.int .u8 (scR i).wide,v]
def pW (v:Nat→Value):Vl:=(List.range 7).flatMap fun i=>scC i (v i)
theorem OG (v:Nat→Value) (j:Nat) (h:j<7):(pW v).toArray.extract (j * 6) (j * 6+6)=(scC j (v j)).toArray:=by
 obtain rfl | rfl | rfl | rfl | rfl | rfl | rfl:j=0∨j=1∨j=2∨j=3∨j=4∨j=5∨j=6:=by omega
 all_goals rfl
def aEa (B:Nat) (w:World) (v:Nat→Value):Prop:=9<B∧B≤w.heap.size∧(∀j u,(pW v)[j]?=some u→w.cell? ⟨9,j,none⟩=some u)∧∀i,i<7→mE B w (v i) (scR i).widths
def wR (B:Nat) (w:World):Prop:=∃v,aEa B w v
abbrev Scl (w:World):Prop:=wR w.heap.size w
theorem aEa.below {B:Nat} {w w':World} {v:Nat→Value} (h:aEa B w v) (hb:Below B w w'):aEa B w' v:=by
 obtain ⟨h1,h2,h3,h4⟩:=h;exact ⟨h1,Ae h2 hb.size,fun j u hu=>(hb.cell (p:=⟨9,j,none⟩) h1).trans (h3 j u hu),fun i hi=>(h4 i hi).below hb⟩
theorem wR.below {B:Nat} {w w':World} (h:wR B w) (hb:Below B w w'):wR B w':=by
 obtain ⟨v,h⟩:=h;exact ⟨v,h.below hb⟩
theorem wR.to {B:Nat} {w w':World} (h:wR B w) (hb:Below B w w'):Scl w':=by
 obtain ⟨v,h⟩:=h;obtain ⟨h1,h2,h3,h4⟩:=h.below hb;exact ⟨v,Ll h1 h2,Lr _,h3,fun i hi=>(h4 i hi).same (fun _ _=>rfl) h2⟩
section
variable {P:Program}
theorem KK (w:World) (g:Nat) (ty:TypeId) (cs:Vl) (d:TypeDesc) (hc:∀j v,cs[j]?=some v→w.cell? ⟨g,j,none⟩=some v)
 (hu:P.underlying ty=some d) (hd:(match d with | .struct _ | .array _ _=>true | _=>false)=true) (hi:(P.info? ty).map (·.size)=some cs.length) :
 (loadVar ty ⟨g,0,none⟩).run P w=.ok (.agg cs.toArray) w:=by
 have hl:(loadCells ⟨g,0,none⟩ cs.length).run P w=.ok cs.toArray w:=
  run_loadCells_list (P:=P) w ⟨g,0,none⟩ cs (fun j v hv=>by
   rw [Bn,Bv];exact hc j v hv)
 cases hq:P.info? ty with
 | none=>simp [hq] at hi
 | some i=>
  have hs:i.size=cs.length:=by simpa [hq] using hi
  have hagg:(isAgg ty).run P w=.ok true w:=by
   unfold isAgg;rw [Sem.run_bind,run_underlying hu w];cases d <;> simp_all
  simp [loadVar,Sem.run_bind,hagg,sizeOf,typeInfo,hq,hs,hl]
theorem aAt {ops:Array Oper} {rest:List Oper} {o:Oper} {a:Act} {w:World} {Q:Exit→Act→World→Prop} (hgd:o.guard=none) (ty:TypeId) (x:Operand) (ho:o.op=.load ty x)
 (g:Nat) (hx:a.eval x=.pointer (some ⟨g,0,none⟩)) (cs:Vl) (hc:∀j v,cs[j]?=some v→w.cell? ⟨g,j,none⟩=some v) (d:TypeDesc) (hu:P.underlying ty=some d)
 (hd:(match d with | .struct _ | .array _ _=>true | _=>false)=true) (hi:(P.info? ty).map (·.size)=some cs.length)
 (K:wpList P ops Q rest (a.put o.dst (.agg cs.toArray)) w):wpList P ops Q (o::rest) a w:=by
 refine wpList_plain hgd fun _ hK=>?_
 unfold Oper.wp execOp;simp only [ho,hx,Instr.loadAt,Instr.sureAddr,Sem.run_bind,Sem.run_pure,Result.andThen_ok,KK w g ty cs d hc hu hd hi];exact hK _ _ K
theorem KM (t e:TypeId) (n s:Nat) (cs:Array Value) (j:Nat) (h:P.underlying t=some (.array n e)) (hj:j<n) (hag:∀w,(isAgg e).run P w=.ok true w) (hsz:∀w,(sizeOf e).run P w=.ok s w) (w:World) :
 (Instr.index t (.agg cs) (Iz (j:Int))).run P w=.ok (.agg (cs.extract (j * s) (j * s+s))) w:=by
 have h0:(0≤(j:Int)∧(j:Int)<(n:Int)):=⟨by omega,by omega⟩
 have hp:∀k,(part e cs k).run P w=.ok (.agg (cs.extract k (k+s))) w:=by
  intro k;simp only [part,Sem.run_bind,hsz,hag,Result.andThen_ok];simp [Sem.run_bind,hsz]
 simp [Instr.index,asIntOf,run_underlying h,h0,hsz,hp,Result.andThen];omega
end
theorem aCn (z:Int):dS z 8=true:=rfl
theorem JK (k l c f wd:Int) (ao:Option Addr) (len cap:Nat) (w:World):Calls prog 200 #[.agg #[Iz k,Iz l,Iz c,.int .u8 f,.int .u8 wd,.slice ao len cap]] w fun e w'=>e=.returned (.bool (decide (l<0)))∧Below w.heap.size w w':=by
 go_enter func200,ntmps200
 go_upto_region 1 with fail
 generalize ae:w.alloc _=w1;obtain ⟨b1,k1⟩:=Al ae;clear ae;have c1:=aA k1
 go_wp2
 go_ret
 exact ⟨rfl,b1⟩
theorem UT (z k:Int) (w:World) (hk:k=1∨k=2∨k=4∨k=8) (h1:-9223372036854775808≤z) (h2:z≤9223372036854775807):Calls prog 214 #[Iz z,Iz k] w fun e w'=>e=.returned (.bool (dS z k))∧w=w':=by
 by_cases hz:z<0
 ·rcases hk with rfl | rfl | rfl | rfl
  ·have hq:(z / 128 == -1)=dS z 1:=by unfold dS;rw [Bool.eq_iff_iff];simp;omega
   go_enter func214,ntmps214
   go_wp2
   go_ret
   exact ⟨rfl,rfl⟩
  ·have hq:(z / 32768 == -1)=dS z 2:=by unfold dS;rw [Bool.eq_iff_iff];simp;omega
   go_enter func214,ntmps214
   go_wp2
   go_ret
   exact ⟨rfl,rfl⟩
  ·have hq:(z / 2147483648 == -1)=dS z 4:=by unfold dS;rw [Bool.eq_iff_iff];simp;omega
   go_enter func214,ntmps214
   go_wp2
   go_ret
   exact ⟨rfl,rfl⟩
  ·have hq:(z / 9223372036854775808 == -1)=true:=by simp;omega
   rw [aCn]
   go_enter func214,ntmps214
   go_wp2
   go_ret
   exact ⟨rfl,rfl⟩
 ·rcases hk with rfl | rfl | rfl | rfl
  ·have hq:(z / 256 == 0)=dS z 1:=by unfold dS;rw [Bool.eq_iff_iff];simp;omega
   go_enter func214,ntmps214
   go_wp2
   go_ret
   exact ⟨rfl,rfl⟩
  ·have hq:(z / 65536 == 0)=dS z 2:=by unfold dS;rw [Bool.eq_iff_iff];simp;omega
   go_enter func214,ntmps214
   go_wp2
   go_ret
   exact ⟨rfl,rfl⟩
  ·have hq:(z / 4294967296 == 0)=dS z 4:=by unfold dS;rw [Bool.eq_iff_iff];simp;omega
   go_enter func214,ntmps214
   go_wp2
   go_ret
   exact ⟨rfl,rfl⟩
  ·have hq:(z / 18446744073709551616 == 0)=true:=by simp;omega
   rw [aCn]
   go_enter func214,ntmps214
   go_wp2
   go_ret
   exact ⟨rfl,rfl⟩
theorem aJa (z:Int) (i:Nat) (h:i≤7):z / 2 ^ (8 * i) % 256=((UInt8.ofNat (eU z / 256 ^ i)).toNat:Int):=by
 rw [Be];unfold eU;obtain rfl | rfl | rfl | rfl | rfl | rfl | rfl | rfl:i=0∨i=1∨i=2∨i=3∨i=4∨i=5∨i=6∨i=7:=by omega
 all_goals (simp only [Nat.reduceMul,Nat.reducePow,Int.reducePow];omega)
theorem aAi {w:World} {B n cap g j:Nat} {T:TypeId} {xs:Vl} (h:w.ownsRow B T 1 (.slice (some ⟨g,0,none⟩) n cap) n xs) (hj:j<n) (u:Value):(w.setCell ⟨g,j,none⟩ u).ownsRow B T 1 (.slice (some ⟨g,0,none⟩) n cap) n (xs.set j u)∧w.cell? ⟨g,j,none⟩=xs[j]?∧w.frozen? ⟨g,j,none⟩=false∧B≤g:=by
 obtain ⟨hl,h⟩:=h;rcases h with ⟨h,-⟩ | ⟨g',cap',cur,hv,hb,hg,hnc,hcm,hcs,hcu⟩
 ·cases h
 ·cases hv
  rw [Nat.mul_one] at hcu hcs hl;refine ⟨⟨by rw [List.length_set,Nat.mul_one];exact hl,.inr ⟨g,cap,cur.setIfInBounds j u,rfl,hb,dQ hg u,hnc,hcm,by rw [Array.size_setIfInBounds,Nat.mul_one];exact hcs,?_⟩⟩,?_,gM hg,hb⟩
  ·rw [Array.toList_setIfInBounds,Nat.mul_one,List.take_set,hcu]
  ·rw [←hcu,Df,Am hj,Array.getElem?_toList]
   simp [World.cell?,hg]
theorem aGt (N k j:Nat) (hj:j<k):(List.replicate (k - j) (Value.int .u8 0)++aS (dF N j)).set (k - 1 - j) (.int .u8 ((UInt8.ofNat (N / 256 ^ j)).toNat:Int))=List.replicate (k - (j+1)) (Value.int .u8 0)++aS (dF N (j+1)):=by
 obtain ⟨m,rfl⟩:∃m,k=j+1+m:=⟨k - (j+1),by omega⟩
 rw [show j+1+m - j=m+1 by omega,show j+1+m - 1 - j=m by omega,show j+1+m - (j+1)=m by omega,List.replicate_succ',Aj,Cz _ _ (by simp)]
 simp [aS,dF]
theorem WE (z:Int) (k:Nat) (w:World) (hk:k≤8):Calls prog 215 #[Iz z,Iz (k:Int)] w fun e w'=>e=.returned (.string (bC (dF (eU z) k)))∧Below w.heap.size w w':=by
 obtain ⟨i0,hi,hz0,hz1,hz2⟩:=info_parts qE;have hub:=underlying69;have hu8:=underlying5;have hust:=underlying9;have hk8:(k:Int)≤8:=by omega
 have hk0:(0:Int)≤(k:Int):=by omega
 have ZB:=Hh (aJa z)
 go_enter func215,ntmps215
 go_upto_region 3 with (at_make;refine wpList_make_full _ rfl _ _ 69 rfl _ 5 i0 (.int .u8 0) 1 underlying69 hi hz0 hz1 .i64 .i64 _ _ k rfl rfl rfl rfl (by rw [hz2];omega) (by unfold maxLen;omega) (Lr _) ?_;intro w1 hown hgrow)
 rw [show (Value.int .u8 0).cells=#[.int .u8 0] from rfl,toList_madeCells_one,Nat.mul_one] at hown
 have b1:=(Br w.heap.size w).grown hgrow (Lr _) (fun _ e=>by cases e)
 have hrow:w1.ownsRow w.heap.size 5 1 (.slice (some ⟨w.heap.size,0,none⟩) k k) k (List.replicate k (Value.int .u8 0)):=hown;have hgn:w.heap.size≤w.heap.size:=Lr _;obtain ⟨g,hg⟩:∃g,g=w.heap.size:=⟨_,rfl⟩;rw [←hg] at hrow ⊢;have HG:=Hh hg;have HB1:=Hh b1;have HR1:=Hh hrow;clear hown hgrow hrow b1 hg hgn
 go_loopw [10] (fun i wr=>∃ (j:Nat),i=Iz (j:Int)∧j≤k∧wr.ownsRow g 5 1 (.slice (some ⟨g,0,none⟩) k k) k (List.replicate (k - j) (Value.int .u8 0)++aS (dF (eU z) j))∧Below w.heap.size w wr) (fun i _=>k - (intOf i).toNat)
 case atStart=>exact ⟨0,by simp,Ax _,by simpa [dF,aS] using HR1.o,HB1.o⟩
 case round=>
  obtain ⟨j,rfl,hj,hown,hB⟩:=hrel;have HROW:=Hh (Ai hown hB)
  by_cases hlt:j<k
  ·have hlt':(j:Int)<(k:Int):=by omega
   obtain ⟨m,hm⟩:∃m:Nat,(m:Int)=(k:Int) - 1 - (j:Int):=⟨k - 1 - j,by omega⟩
   have hk1:IntKind.i64.wrap ((k:Int) - 1)=(k:Int) - 1:=Cd _ (by omega)
   have hk2:IntKind.i64.wrap ((k:Int) - 1 - (j:Int))=(m:Int):=by rw [hm];exact Cd _ (by omega)
   have hk3:(k:Int) - 1 - (j:Int)=(m:Int):=hm.symm;have hmk:(m:Int)<(k:Int):=by omega
   have hm0:(0:Int)≤(m:Int):=by omega
   have hj7:(j:Int)≤7:=by omega
   have hj0:(0:Int)≤(j:Int):=by omega
   obtain ⟨c,hcc⟩:∃c,c=UInt8.ofNat (eU z / 256 ^ j):=⟨_,rfl⟩;have hc:z / 2 ^ (8 * j) % 256=(c.toNat:Int):=by rw [hcc];exact ZB.o j (by omega)
   obtain ⟨o1,o2,o3,-⟩:=aAi hown (j:=m) (by omega) (.int .u8 (c.toNat:Int))
   have hmm:m=k - 1 - j:=by omega
   have ho2:wr.cell? ⟨g,m,none⟩=some (.int .u8 0):=by
    rw [o2,Cq (by simp;omega),List.getElem?_replicate,Am (by omega)]
   have e1:(List.replicate (k - j) (Value.int .u8 0)++aS (dF (eU z) j)).set m (.int .u8 (c.toNat:Int))=List.replicate (k - (j+1)) (Value.int .u8 0)++aS (dF (eU z) (j+1)):=by
    rw [hmm,hcc];exact aGt _ _ _ hlt
   rw [e1] at o1;have hb9:=hB.setCell (p:=⟨g,m,none⟩) (by rw [HG.o];exact Lr _) (.int .u8 (c.toNat:Int))
   have F:=Hh (Ai o1 hb9);clear hm hcc o2 e1 hown hB o1 hb9 hmm
   go_wp2
   go_roundw
   case rel=>exact ⟨j+1,by go_num,by omega,F.o.1,F.o.2⟩
   case measure=>simp [intOf] <;> omega
  ·have hj2:j=k:=by omega
   have hge:¬ (j:Int)<(k:Int):=by omega
   subst hj2;rw [Nat.sub_self,List.replicate_zero,Dm] at hown;have hcv:=eX (P:=prog) wr 69 9 5 g j _ (dF (eU z) j) hown hub hu8 hust;clear hown
   go_wp2
   go_ret
   exact ⟨rfl,hB⟩
theorem AK (l:Ub) (a b:Nat):(bC l).extract a b=bC ((l.drop a).take (b - a)):=by
 apply Cp
 apply Ce.1
 rw [ByteArray.data_extract,Array.toList_extract];simp [bC,List.extract]
theorem aGx (l:Ub) (n:Nat):(bC l).extract 0 n=bC (l.take n):=by rw [AK];simp
theorem aGw (l:Ub) (n:Nat):(bC l).extract n (bC l).size=bC (l.drop n):=by
 rw [AK,eH,Ao (by simp)]
theorem PZ (X c:Int) (hX:X % 256=0) (h0:0≤c) (hc:c<256):bits BinOp.or IntKind.i64 X c=wrap64 (X+c):=by
 show IntKind.i64.wrap ((BitVec.ofInt 64 X ||| BitVec.ofInt 64 c).toNat:Int)=_
 rw [BitVec.toNat_or,BitVec.toNat_ofInt,BitVec.toNat_ofInt,IntKind.wrap_i64];obtain ⟨a,ha⟩:∃a:Nat,(X % ((2 ^ 64:Nat):Int)).toNat=2 ^ 8 * a:=⟨(X % ((2 ^ 64:Nat):Int)).toNat / 256,by omega⟩
 have hb:(c % ((2 ^ 64:Nat):Int)).toNat=c.toNat:=by omega
 rw [ha,hb,←Nat.two_pow_add_eq_or_of_lt (by omega:c.toNat<2 ^ 8) a]
 unfold wrap64;omega
def sgE (neg:Bool) (j:Nat):Int:=if neg then 256 ^ j else 0
theorem ZR (neg:Bool) (j:Nat):sgE neg (j+1)=256 * sgE neg j:=by
 unfold sgE;cases neg
 ·rfl
 ·rw [Am rfl,Am rfl,Int.pow_succ];omega
theorem ZS (b T c:Int) (h0:0≤c) (hc:c<256):bits BinOp.or IntKind.i64 (wrap64 (wrap64 (b - T) * 256)) c=wrap64 ((b * 256+c) - 256 * T):=by
 rw [PZ _ _ (by unfold wrap64;omega) h0 hc]
 unfold wrap64;omega
def qQ (neg:Bool) (l:Ub):Int:=wrap64 ((fZ l:Int) - sgE neg l.length)
theorem VU (neg:Bool) (l:Ub) (c:UInt8):qQ neg (l++[c])=bits BinOp.or IntKind.i64 (wrap64 (qQ neg l * 256)) (c.toNat:Int):=by
 unfold qQ;rw [Lg,DZ,show [c].length=1 from rfl,ZR,ZS _ _ _ (by omega) (by have:=c.toNat_lt;omega)]
 congr 1
theorem aAo (neg:Bool):qQ neg []=if neg then -1 else 0:=by cases neg <;> decide +kernel
theorem VT (neg:Bool) (l:Ub):dD (qQ neg l)=true:=by
 unfold qQ dD wrap64;rw [Ak,Av,Av];omega
def PrM (B:Nat) (w:World) (g:Nat) (r:Ub):Prop:=w.heap[g]?=some (.cells #[.string (bC r)] 193 (0,0))∧wR B w∧B≤g
theorem PrM.lt {B:Nat} {w:World} {g:Nat} {r:Ub} (h:PrM B w g r):g<w.heap.size:=Aa h.1
theorem PrM.kept {B:Nat} {w w':World} {g b:Nat} {r:Ub} (h:PrM B w g r) (hg:w.grownBy w' (some b)) (hb:g<b):PrM B w' g r:=by
 have hl:=h.lt;obtain ⟨h1,h2,h3⟩:=h;exact ⟨cM hg (by omega) h1,h2.below ((Br B w).grown hg (by omega) (fun k hk=>by cases hk;omega)),h3⟩
theorem PrM.below {B:Nat} {w w':World} {g:Nat} {r:Ub} (h:PrM B w g r) (hb:Below w.heap.size w w'):PrM B w' g r:=by
 have hl:=h.lt;obtain ⟨h1,h2,h3⟩:=h;exact ⟨(hb.block g hl).trans h1,h2.below (hb.mono (by omega)),h3⟩
theorem PrM.set {B:Nat} {w:World} {g:Nat} {r:Ub} (h:PrM B w g r) (r':Ub):PrM B (w.setCell ⟨g,0,none⟩ (.string (bC r'))) g r'∧w.grownBy (w.setCell ⟨g,0,none⟩ (.string (bC r'))) (some g):=by
 obtain ⟨h1,h2,h3⟩:=h;have k:=dQ h1 (j:=0) (.string (bC r'));have hg:=aR w g 0 (.string (bC r'));exact ⟨⟨by simpa using k,h2.below ((Br B w).setCell (p:=⟨g,0,none⟩) h3 _),h3⟩,hg⟩
def GS (B g:Nat) (w:World) (v:Value) (r':Ub) (e:Ending) (w':World):Prop:=e=.returned v∧PrM B w' g r'∧w.grownBy w' (some g)
theorem tX (n:Nat) {B g:Nat} {r:Ub} (w:World) (h:PrM B w g r) (hr:r.length≤1000000) (q:n≤r.length):Calls prog 177 #[.pointer (some ⟨g,0,none⟩),Iz (n:Int)] w (GS B g w (.tuple #[.string (bC (r.take n)),.bool true]) (r.drop n)):=by
 have c0:w.cell? ⟨g,0,none⟩=some (.string (bC r)):=aL h.1 rfl;have f0:w.frozen? ⟨g,0,none⟩=false:=gM h.1;have hz:=eH r;have q1:(n:Int)≤((bC r).size:Int):=by omega
 have q2:¬ ((bC r).size:Int)<(n:Int):=by omega
 have q0:(0:Int)≤(n:Int):=by omega
 have k1:=aGx r n;have k2:=aGw r n;have ST:=Hh (h.set (r.drop n));clear hz q h
 go_enter func177,ntmps177
 go_wp2
 go_ret2
 exact ⟨rfl,ST.o.1,ST.o.2⟩
theorem zE (n:Nat) {B g:Nat} {r:Ub} (w:World) (h:PrM B w g r) (hr:r.length≤1000000) (q:¬n≤r.length):Calls prog 177 #[.pointer (some ⟨g,0,none⟩),Iz (n:Int)] w (GS B g w (.tuple #[.string ⟨#[]⟩,.bool false]) r):=by
 have c0:w.cell? ⟨g,0,none⟩=some (.string (bC r)):=aL h.1 rfl;have hz:=eH r;have q1:((bC r).size:Int)<(n:Int):=by omega
 have ST:=Hh h;clear hz q h
 go_enter func177,ntmps177
 go_wp2
 go_ret2
 exact ⟨rfl,ST.o,aK (Br _ _) (Lr _) _⟩
theorem aAu (n:Nat) (neg:Bool) {B g:Nat} {r:Ub} (w:World) (h:PrM B w g r) (hr:r.length≤1000000) (q:n≤r.length) (hn:n≤8):Calls prog 199 #[.pointer (some ⟨g,0,none⟩),Iz (n:Int),.bool neg] w (GS B g w (.tuple #[Iz (qQ neg (r.take n)),.bool true]) (r.drop n)):=by
 have TK:=Hh (tX n w h hr q);obtain ⟨l,hl⟩:∃l,l=r.take n:=⟨_,rfl⟩;have hll:l.length=n:=by rw [hl,Ba];omega
 obtain ⟨s,hs⟩:∃s,s=bC l:=⟨_,rfl⟩;rw [←hl,←hs] at TK;rw [←hl];have hss:s.size=n:=by rw [hs,eH,hll]
 have HGET:Hid (∀ (p:Nat) (h:p<s.size),l[p]?=some (s[p]'h)):=Hh fun p h=>by
  have e:l=s.data.toList:=by rw [hs,iE]
  rw [e,Ac (by rw [Ah];exact h)];rfl
 have HLL:=Hh hll;have hsi:(s.size:Int)=(n:Int):=by omega
 obtain ⟨F,hF⟩:∃F:Ub→Int,F=qQ neg:=⟨_,rfl⟩;have HF:Hid (F []=(if neg then -1 else 0)∧∀l c,bits BinOp.or IntKind.i64 (wrap64 (F l * 256)) ((c:UInt8).toNat:Int)=F (l++[c])):=Hh (by rw [hF];exact ⟨aAo neg,fun l c=>(VU neg l c).symm⟩)
 rw [←hF];have HSS:=Hh hss;clear h hl hs hll q hF hss hsi
 go_enter func199,ntmps199
 cases neg
 all_goals
  go_upto_region 6 with ((with_reducible refine (TK.o).mono ?_);rintro e w1 ⟨rfl,hp1,hg1⟩)
  have HP:=Hh (Ai hp1 hg1);clear hp1 hg1
  go_loopw [10,21] (fun vn vi wr=>∃ (j:Nat) (N:Int),vi=Iz (j:Int)∧j≤n∧vn=Iz N∧N=F (l.take j)∧wr=w1) (fun _ vi _=>n - (intOf vi).toNat)
  case atStart=>exact ⟨0,_,rfl,Ax _,rfl,HF.o.1.symm,rfl⟩
  case round=>
   obtain ⟨j,N,rfl,hj,rfl,hN,hww⟩:=hrel
   replace hww:=hww.symm
   subst hww
   by_cases hjk:j<n
   ·have hjs:j<s.size:=by rw [HSS.o];exact hjk
    have hjk':(j:Int)<(s.size:Int):=by omega
    have hj0:(0:Int)≤(j:Int):=by omega
    have gj:=HGET.o j hjs;obtain ⟨cj,hcj⟩:∃cj,cj=s[j]'hjs:=⟨_,rfl⟩;rw [←hcj] at gj;have hcj':=hcj.symm;have hw0:IntKind.i64.wrap (cj.toNat:Int)=(cj.toNat:Int):=Cd _ (by have:=cj.toNat_lt;omega)
    have hw2:bits BinOp.or IntKind.i64 (wrap64 (N * 256)) (cj.toNat:Int)=F (l.take (j+1)):=by
     rw [hN,HF.o.2,Bf,gj];rfl
    obtain ⟨N2,hN2⟩:∃N2:Int,N2=F (l.take (j+1)):=⟨_,rfl⟩;rw [←hN2] at hw2;have HN2:=Hh hN2;clear hN hN2 gj hcj
    go_wp2
    go_roundw
    case rel=>exact ⟨j+1,N2,by go_num,by omega,rfl,HN2.o,by first | rfl | trivial⟩
    case measure=>simp [intOf] <;> omega
   ·have hjs:¬ (j:Int)<(s.size:Int):=by have:=HSS.o;omega
    have hje:l.take j=l:=Ao (by have:=HLL.o;omega)
    rw [hje] at hN;have HN:=Hh hN;clear hN hje
    go_wp2
    go_ret2
    exact ⟨by rw [HN.o];rfl,HP.o.1,HP.o.2⟩
theorem aFp (n:Nat) (neg:Bool) {B g:Nat} {r:Ub} (w:World) (h:PrM B w g r) (hr:r.length≤1000000) (q:¬n≤r.length):Calls prog 199 #[.pointer (some ⟨g,0,none⟩),Iz (n:Int),.bool neg] w (GS B g w (.tuple #[Iz (if neg then -1 else 0),.bool false]) r):=by
 have TK:=Hh (zE n w h hr q);obtain ⟨Z,hZ⟩:∃Z:Int,Z=(if neg then -1 else 0):=⟨_,rfl⟩
 rw [←hZ];have HZ:=Hh hZ;clear h q hZ
 go_enter func199,ntmps199
 cases neg
 all_goals
  go_upto_region 6 with ((with_reducible refine (TK.o).mono ?_);rintro e w1 ⟨rfl,hp1,hg1⟩)
  have HP:=Hh (Ai hp1 hg1);clear hp1 hg1
  go_loopw [10,21] (fun vn vi wr=>vi=Iz 0∧vn=Iz Z∧wr=w1) (fun _ vi _=>0)
  case atStart=>exact ⟨rfl,by rw [HZ.o];rfl,rfl⟩
  case round=>
   obtain ⟨rfl,rfl,hww⟩:=hrel
   replace hww:=hww.symm
   subst hww
   go_wp2
   go_ret2
   exact ⟨rfl,HP.o.1,HP.o.2⟩
end Go.Proofs.YtncdpanfefnjlaaGreatDoor