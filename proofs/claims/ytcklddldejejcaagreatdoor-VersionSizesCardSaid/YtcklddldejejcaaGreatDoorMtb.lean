/- The program's table of scales as data, and what a row writes. No program. -/
import Derived.Test.YtcklddldejejcaaGreatDoorMrf
import Derived.Test.YtcklddldejejcaaGreatDoorMpw
set_option linter.unusedVariables false
set_option linter.unusedSimpArgs false
set_option maxRecDepth 100000
set_option maxHeartbeats 1600000
namespace Go.Proofs.YtcklddldejejcaaGreatDoor
structure ScR where
 kind:Int
 least:Int
 count:Int
 first:Int
 wide:Int
 widths:List Int
def scTab:List ScR:=[⟨0,0,1,192,0,[]⟩,⟨1,0,2,194,0,[]⟩,⟨2,0,128,0,204,[1,2,4,8]⟩,⟨2,-32,32,224,208,[1,2,4,8]⟩,⟨3,0,32,160,217,[1,2,4]⟩,⟨4,0,16,144,220,[2]⟩,⟨5,0,16,128,222,[2]⟩]
def scR (i:Nat):ScR:=scTab.getD i ⟨0,0,0,0,0,[]⟩
theorem scR_any {P:ScR→Prop} (h0:P ⟨0,0,1,192,0,[]⟩) (h1:P ⟨1,0,2,194,0,[]⟩) (h2:P ⟨2,0,128,0,204,[1,2,4,8]⟩) (h3:P ⟨2,-32,32,224,208,[1,2,4,8]⟩) (h4:P ⟨3,0,32,160,217,[1,2,4]⟩) (h5:P ⟨4,0,16,144,220,[2]⟩) (h6:P ⟨5,0,16,128,222,[2]⟩):∀i,i<7→P (scR i)
 | 0,_=>h0
 | 1,_=>h1
 | 2,_=>h2
 | 3,_=>h3
 | 4,_=>h4
 | 5,_=>h5
 | 6,_=>h6
 | n+7,h=>absurd h (by omega)
def fitZ (z k:Int):Bool:=if k=1 then decide (-128≤z∧z<256) else if k=2 then decide (-32768≤z∧z<65536) else if k=4 then decide (-2147483648≤z∧z<4294967296) else true
def sWide (b z:Int):List Int→Nat→List UInt8
 | [],_=>[]
 | k::t,j=>if fitZ z k then UInt8.ofNat (b.toNat+j)::bigL (u64N z) k.toNat else sWide b z t (j+1)
def sText (r:ScR) (z:Int):List UInt8:=if r.least≤z∧z<r.least+r.count then [UInt8.ofNat (r.first+(z - r.least)).toNat] else sWide r.wide z r.widths 0
def sIx (x:ND):Nat:=if x.kind=0 then 0 else if x.kind=1 then 1 else if x.kind=2 then (if x.num<0 then 3 else 2) else if x.kind=3 then 4 else if x.kind=4 then 5 else 6
theorem u64_mod (z:Int) (h1:-9223372036854775808≤z) (h2:z≤9223372036854775807):u64N z % 256=(z % 256).toNat:=by unfold u64N;omega
theorem sText_pos (z:Int) (h1:0≤z) (h2:z≤9223372036854775807):sText (scR 2) z=headP (numH z) (u64N z):=by
 show (if (0:Int)≤z∧z<0+128 then [UInt8.ofNat ((0:Int)+(z - 0)).toNat] else sWide 204 z [1,2,4,8] 0)=_
 unfold numH headP
 by_cases a:z<128
 ·rw [if_pos ⟨h1,by omega⟩,if_pos ⟨by omega,a⟩]
  dsimp only
  rw [u64_mod z (by omega) h2,show (0+(z - 0)).toNat=(z % 256).toNat by omega]
  rfl
 ·rw [if_neg (by omega),if_neg (by omega),if_pos (by omega)]
  unfold sWide
  by_cases b:z<256
  ·rw [if_pos b,show fitZ z 1=true by unfold fitZ;simp;omega];rfl
  rw [if_neg b,show fitZ z 1=false by unfold fitZ;simp;omega]
  unfold sWide
  by_cases b:z<65536
  ·rw [if_pos b,show fitZ z 2=true by unfold fitZ;simp;omega];rfl
  rw [if_neg b,show fitZ z 2=false by unfold fitZ;simp;omega]
  unfold sWide
  by_cases b:z<4294967296
  ·rw [if_pos b,show fitZ z 4=true by unfold fitZ;simp;omega];rfl
  rw [if_neg b,show fitZ z 4=false by unfold fitZ;simp;omega]
  rfl
theorem sText_neg (z:Int) (h1:-9223372036854775808≤z) (h2:z<0):sText (scR 3) z=headP (numH z) (u64N z):=by
 show (if (-32:Int)≤z∧z < -32+32 then [UInt8.ofNat ((224:Int)+(z - -32)).toNat] else sWide 208 z [1,2,4,8] 0)=_
 unfold numH headP
 by_cases a:-32≤z
 ·rw [if_pos ⟨a,by omega⟩,if_pos ⟨by omega,by omega⟩]
  dsimp only
  rw [u64_mod z (by omega) (by omega),show (224+(z - -32)).toNat=(z % 256).toNat by omega]
  rfl
 ·rw [if_neg (by omega),if_neg (by omega),if_neg (by omega)]
  unfold sWide
  by_cases b:-128≤z
  ·rw [if_pos b,show fitZ z 1=true by unfold fitZ;simp;omega];rfl
  rw [if_neg b,show fitZ z 1=false by unfold fitZ;simp;omega]
  unfold sWide
  by_cases b:-32768≤z
  ·rw [if_pos b,show fitZ z 2=true by unfold fitZ;simp;omega];rfl
  rw [if_neg b,show fitZ z 2=false by unfold fitZ;simp;omega]
  unfold sWide
  by_cases b:-2147483648≤z
  ·rw [if_pos b,show fitZ z 4=true by unfold fitZ;simp;omega];rfl
  rw [if_neg b,show fitZ z 4=false by unfold fitZ;simp;omega]
  rfl
theorem u64_nat (n:Nat) (h:n<18446744073709551616):u64N (n:Int)=n:=by unfold u64N;omega
theorem sText_txt (n:Nat) (h:n≤65536):sText (scR 4) (n:Int)=headP (txtH n) n:=by
 show (if (0:Int)≤(n:Int)∧(n:Int)<0+32 then [UInt8.ofNat ((160:Int)+((n:Int) - 0)).toNat] else sWide 217 (n:Int) [1,2,4] 0)=_
 unfold txtH headP
 by_cases a:n<32
 ·rw [if_pos ⟨by omega,by omega⟩,if_pos a,show (160+((n:Int) - 0)).toNat=160+n by omega];rfl
 ·rw [if_neg (by omega),if_neg a]
  unfold sWide
  rw [u64_nat n (by omega)]
  by_cases b:n<256
  ·rw [if_pos b,show fitZ (n:Int) 1=true by unfold fitZ;simp;omega];rfl
  rw [if_neg b,show fitZ (n:Int) 1=false by unfold fitZ;simp;omega]
  unfold sWide
  rw [u64_nat n (by omega)]
  by_cases b:n<65536
  ·rw [if_pos b,show fitZ (n:Int) 2=true by unfold fitZ;simp;omega];rfl
  rw [if_neg b,show fitZ (n:Int) 2=false by unfold fitZ;simp;omega]
  unfold sWide
  rw [u64_nat n (by omega),show fitZ (n:Int) 4=true by unfold fitZ;simp;omega]
  rfl
theorem sText_lst (n:Nat) (h:n≤256):sText (scR 5) (n:Int)=headP (lstH n) n∧sText (scR 6) (n:Int)=headP (mapH n) n:=by
 refine ⟨?_,?_⟩
 ·show (if (0:Int)≤(n:Int)∧(n:Int)<0+16 then [UInt8.ofNat ((144:Int)+((n:Int) - 0)).toNat] else sWide 220 (n:Int) [2] 0)=_
  unfold lstH headP
  by_cases a:n<16
  ·rw [if_pos ⟨by omega,by omega⟩,if_pos a,show (144+((n:Int) - 0)).toNat=144+n by omega];rfl
  ·rw [if_neg (by omega),if_neg a]
   unfold sWide
   rw [u64_nat n (by omega),show fitZ (n:Int) 2=true by unfold fitZ;simp;omega];rfl
 ·show (if (0:Int)≤(n:Int)∧(n:Int)<0+16 then [UInt8.ofNat ((128:Int)+((n:Int) - 0)).toNat] else sWide 222 (n:Int) [2] 0)=_
  unfold mapH headP
  by_cases a:n<16
  ·rw [if_pos ⟨by omega,by omega⟩,if_pos a,show (128+((n:Int) - 0)).toNat=128+n by omega];rfl
  ·rw [if_neg (by omega),if_neg a]
   unfold sWide
   rw [u64_nat n (by omega),show fitZ (n:Int) 2=true by unfold fitZ;simp;omega];rfl
theorem sIx_ok {d:Nat} {x:ND} (h:validN (d+1) x=true) (hn:numsB (d+1) x=true):sIx x<7∧(scR (sIx x)).kind=x.kind∧((scR (sIx x)).least<0↔pPay x<0)∧sText (scR (sIx x)) (pPay x)=headP (pHd x) (pVal x)∧(∀j,j<sIx x→¬ ((scR j).kind=x.kind∧((scR j).least<0↔pPay x<0)))∧-9223372036854775808≤pPay x∧pPay x≤9223372036854775807:=by
 obtain ⟨hi,hl,htx,hns⟩:=validN_parts h
 obtain ⟨hw,hni⟩:=numsB_parts hn
 have h1:=textOk_le htx
 unfold wideI at hw
 rw [Bool.and_eq_true,decide_eq_true_eq,decide_eq_true_eq] at hw
 have hk:=kinds h
 obtain ⟨k,b,n,t,ns,its⟩:=x
 unfold nd0 at hk
 simp only [ND.mk.injEq,ND.kind,ND.bool,ND.num,ND.text,ND.names,ND.items] at *
 rcases hk with ⟨rfl,rfl,rfl,rfl,rfl,rfl⟩ | ⟨rfl,-,rfl,rfl,rfl,rfl⟩ | ⟨rfl,rfl,-,rfl,rfl,rfl⟩ | ⟨rfl,rfl,rfl,-,rfl,rfl⟩ | ⟨rfl,rfl,rfl,rfl,rfl,-⟩ | ⟨⟨rfl,rfl,rfl,rfl,-,-⟩,hlx⟩
 ·exact ⟨by decide,rfl,by decide,rfl,fun j hj=>absurd hj (Nat.not_lt_zero _),by decide,by decide⟩
 ·have hj0:∀ (P:Prop) (j:Nat),j<1→¬ ((scR j).kind=1∧P):=fun P j hj=>by
   obtain rfl:j=0:=by omega
   exact fun e=>absurd e.1 (by decide)
  cases b <;> exact ⟨by decide,rfl,by decide,rfl,fun j hj=>hj0 _ j hj,by decide,by decide⟩
 ·have hp:pPay (.mk 2 false n ⟨#[]⟩ [] [])=n:=rfl
  rw [hp]
  by_cases q:n<0
  ·rw [show sIx (.mk 2 false n ⟨#[]⟩ [] [])=3 by unfold sIx;simp [ND.kind,ND.num,q]]
   refine ⟨by decide,rfl,⟨fun _=>q,fun _=>by decide⟩,?_,fun j hj=>?_,hw.1,hw.2⟩
   ·rw [sText_neg n hw.1 q];rfl
   ·obtain rfl | rfl | rfl:j=0∨j=1∨j=2:=by omega
    ·exact fun e=>absurd e.1 (by decide)
    ·exact fun e=>absurd e.1 (by decide)
    ·exact fun e=>absurd (e.2.2 q) (by decide)
  ·rw [show sIx (.mk 2 false n ⟨#[]⟩ [] [])=2 by unfold sIx;simp [ND.kind,ND.num,q]]
   refine ⟨by decide,rfl,⟨fun e=>absurd e (by decide),fun e=>absurd e q⟩,?_,fun j hj=>?_,hw.1,hw.2⟩
   ·rw [sText_pos n (by omega) hw.2];rfl
   ·obtain rfl | rfl:j=0∨j=1:=by omega
    ·exact fun e=>absurd e.1 (by decide)
    ·exact fun e=>absurd e.1 (by decide)
 ·have hp:pPay (.mk 3 false 0 t [] [])=(t.size:Int):=rfl
  rw [hp,show sIx (.mk 3 false 0 t [] [])=4 from rfl]
  refine ⟨by decide,rfl,⟨fun e=>absurd e (by decide),fun e=>by omega⟩,?_,fun j hj=>?_,by omega,by omega⟩
  ·rw [sText_txt t.size h1];rfl
  ·obtain rfl | rfl | rfl | rfl:j=0∨j=1∨j=2∨j=3:=by omega
   all_goals exact fun e=>absurd e.1 (by decide)
 ·have hp:pPay (.mk 4 false 0 ⟨#[]⟩ [] its)=(its.length:Int):=rfl
  rw [hp,show sIx (.mk 4 false 0 ⟨#[]⟩ [] its)=5 from rfl]
  refine ⟨by decide,rfl,⟨fun e=>absurd e (by decide),fun e=>by omega⟩,?_,fun j hj=>?_,by omega,by omega⟩
  ·rw [(sText_lst its.length hl).1];rfl
  ·obtain rfl | rfl | rfl | rfl | rfl:j=0∨j=1∨j=2∨j=3∨j=4:=by omega
   all_goals exact fun e=>absurd e.1 (by decide)
 ·have hp:pPay (.mk 5 false 0 ⟨#[]⟩ ns its)=(its.length:Int):=rfl
  rw [hp,show sIx (.mk 5 false 0 ⟨#[]⟩ ns its)=6 from rfl]
  refine ⟨by decide,rfl,⟨fun e=>absurd e (by decide),fun e=>by omega⟩,?_,fun j hj=>?_,by omega,by omega⟩
  ·rw [(sText_lst its.length hl).2];rfl
  ·obtain rfl | rfl | rfl | rfl | rfl | rfl:j=0∨j=1∨j=2∨j=3∨j=4∨j=5:=by omega
   all_goals exact fun e=>absurd e.1 (by decide)
end Go.Proofs.YtcklddldejejcaaGreatDoor
namespace Go.Proofs.YtcklddldejejcaaGreatDoor
open Go Go.ChangeShapes Go.WideShapes Go.ChangeAt Go.RowKit
def scC (i:Nat) (v:Value):List Value:=[.int .i64 (scR i).kind,.int .i64 (scR i).least,.int .i64 (scR i).count,.int .u8 (scR i).first,.int .u8 (scR i).wide,v]
def scAll (v:Nat→Value):List Value:=(List.range 7).flatMap fun i=>scC i (v i)
theorem scAll_part (v:Nat→Value) (j:Nat) (h:j<7):(scAll v).toArray.extract (j * 6) (j * 6+6)=(scC j (v j)).toArray:=by
 obtain rfl | rfl | rfl | rfl | rfl | rfl | rfl:j=0∨j=1∨j=2∨j=3∨j=4∨j=5∨j=6:=by omega
 all_goals rfl
def SclV (B:Nat) (w:World) (v:Nat→Value):Prop:=9<B∧B≤w.heap.size∧(∀j u,(scAll v)[j]?=some u→w.cell? ⟨9,j,none⟩=some u)∧∀i,i<7→IntsAt B w (v i) (scR i).widths
def SclB (B:Nat) (w:World):Prop:=∃v,SclV B w v
abbrev Scl (w:World):Prop:=SclB w.heap.size w
theorem SclV.below {B:Nat} {w w':World} {v:Nat→Value} (h:SclV B w v) (hb:Below B w w'):SclV B w' v:=by
 obtain ⟨h1,h2,h3,h4⟩:=h
 exact ⟨h1,Nat.le_trans h2 hb.size,fun j u hu=>(hb.cell (p:=⟨9,j,none⟩) h1).trans (h3 j u hu),fun i hi=>(h4 i hi).below hb⟩
theorem SclB.below {B:Nat} {w w':World} (h:SclB B w) (hb:Below B w w'):SclB B w':=by
 obtain ⟨v,h⟩:=h
 exact ⟨v,h.below hb⟩
theorem SclB.to {B:Nat} {w w':World} (h:SclB B w) (hb:Below B w w'):Scl w':=by
 obtain ⟨v,h⟩:=h
 obtain ⟨h1,h2,h3,h4⟩:=h.below hb
 exact ⟨v,Ll h1 h2,Lr _,h3,fun i hi=>(h4 i hi).same (fun _ _=>rfl) h2⟩
section
variable {P:Program}
theorem mload_cells (w:World) (g:Nat) (ty:TypeId) (cs:List Value) (d:TypeDesc) (hc:∀j v,cs[j]?=some v→w.cell? ⟨g,j,none⟩=some v)
 (hu:P.underlying ty=some d) (hd:(match d with | .struct _ | .array _ _=>true | _=>false)=true) (hi:(P.info? ty).map (·.size)=some cs.length) :
 (loadVar ty ⟨g,0,none⟩).run P w=.ok (.agg cs.toArray) w:=by
 have hl:(loadCells ⟨g,0,none⟩ cs.length).run P w=.ok cs.toArray w:=
  run_loadCells_list (P:=P) w ⟨g,0,none⟩ cs (fun j v hv=>by
   rw [Addr.add_lit,Nat.zero_add]
   exact hc j v hv)
 cases hq:P.info? ty with
 | none=>simp [hq] at hi
 | some i=>
  have hs:i.size=cs.length:=by simpa [hq] using hi
  have hagg:(isAgg ty).run P w=.ok true w:=by
   unfold isAgg
   rw [Sem.run_bind,run_underlying hu w]
   cases d <;> simp_all
  simp [loadVar,Sem.run_bind,hagg,sizeOf,typeInfo,hq,hs,hl]
theorem mp_ldc {ops:Array Oper} {rest:List Oper} {o:Oper} {a:Act} {w:World} {Q:Exit→Act→World→Prop} (hgd:o.guard=none) (ty:TypeId) (x:Operand) (ho:o.op=.load ty x)
 (g:Nat) (hx:a.eval x=.pointer (some ⟨g,0,none⟩)) (cs:List Value) (hc:∀j v,cs[j]?=some v→w.cell? ⟨g,j,none⟩=some v) (d:TypeDesc) (hu:P.underlying ty=some d)
 (hd:(match d with | .struct _ | .array _ _=>true | _=>false)=true) (hi:(P.info? ty).map (·.size)=some cs.length)
 (K:wpList P ops Q rest (a.put o.dst (.agg cs.toArray)) w):wpList P ops Q (o::rest) a w:=by
 refine wpList_plain hgd fun _ hK=>?_
 unfold Oper.wp execOp
 simp only [ho,hx,Instr.loadAt,Instr.sureAddr,Sem.run_bind,Sem.run_pure,Result.andThen_ok,mload_cells w g ty cs d hc hu hd hi]
 exact hK _ _ K
theorem mindex_part (t e:TypeId) (n s:Nat) (cs:Array Value) (j:Nat) (h:P.underlying t=some (.array n e)) (hj:j<n) (hag:∀w,(isAgg e).run P w=.ok true w) (hsz:∀w,(sizeOf e).run P w=.ok s w) (w:World) :
 (Instr.index t (.agg cs) (.int .i64 (j:Int))).run P w=.ok (.agg (cs.extract (j * s) (j * s+s))) w:=by
 have h0:(0≤(j:Int)∧(j:Int)<(n:Int)):=⟨by omega,by omega⟩
 have hp:∀k,(part e cs k).run P w=.ok (.agg (cs.extract k (k+s))) w:=by
  intro k
  simp only [part,Sem.run_bind,hsz,hag,Result.andThen_ok]
  simp [Sem.run_bind,hsz]
 simp [Instr.index,asIntOf,run_underlying h,h0,hsz,hp,Result.andThen]
 omega
end
theorem fitZ_8 (z:Int):fitZ z 8=true:=rfl
theorem sneg_any (k l c f wd:Int) (ao:Option Addr) (len cap:Nat) (w:World):Calls Tryz.prog 252 #[.agg #[.int .i64 k,.int .i64 l,.int .i64 c,.int .u8 f,.int .u8 wd,.slice ao len cap]] w fun e w'=>e=.returned (.bool (decide (l<0)))∧Below w.heap.size w w':=by
 go_enter Tryz.func252,Tryz.ntmps252
 go_upto_region 1 with fail
 generalize ae:w.alloc _=w1
 obtain ⟨b1,k1⟩:=Al ae
 clear ae
 have c1:=six_of k1
 go_wp2
 go_ret
 exact ⟨rfl,b1⟩
theorem sfits_any (z k:Int) (w:World) (hk:k=1∨k=2∨k=4∨k=8) (h1:-9223372036854775808≤z) (h2:z≤9223372036854775807):Calls Tryz.prog 264 #[.int .i64 z,.int .i64 k] w fun e w'=>e=.returned (.bool (fitZ z k))∧w=w':=by
 by_cases hz:z<0
 ·rcases hk with rfl | rfl | rfl | rfl
  ·have hq:(z / 128 == -1)=fitZ z 1:=by unfold fitZ;rw [Bool.eq_iff_iff];simp;omega
   go_enter Tryz.func264,Tryz.ntmps264
   go_wp2
   go_ret
   exact ⟨rfl,rfl⟩
  ·have hq:(z / 32768 == -1)=fitZ z 2:=by unfold fitZ;rw [Bool.eq_iff_iff];simp;omega
   go_enter Tryz.func264,Tryz.ntmps264
   go_wp2
   go_ret
   exact ⟨rfl,rfl⟩
  ·have hq:(z / 2147483648 == -1)=fitZ z 4:=by unfold fitZ;rw [Bool.eq_iff_iff];simp;omega
   go_enter Tryz.func264,Tryz.ntmps264
   go_wp2
   go_ret
   exact ⟨rfl,rfl⟩
  ·have hq:(z / 9223372036854775808 == -1)=true:=by simp;omega
   rw [fitZ_8]
   go_enter Tryz.func264,Tryz.ntmps264
   go_wp2
   go_ret
   exact ⟨rfl,rfl⟩
 ·rcases hk with rfl | rfl | rfl | rfl
  ·have hq:(z / 256 == 0)=fitZ z 1:=by unfold fitZ;rw [Bool.eq_iff_iff];simp;omega
   go_enter Tryz.func264,Tryz.ntmps264
   go_wp2
   go_ret
   exact ⟨rfl,rfl⟩
  ·have hq:(z / 65536 == 0)=fitZ z 2:=by unfold fitZ;rw [Bool.eq_iff_iff];simp;omega
   go_enter Tryz.func264,Tryz.ntmps264
   go_wp2
   go_ret
   exact ⟨rfl,rfl⟩
  ·have hq:(z / 4294967296 == 0)=fitZ z 4:=by unfold fitZ;rw [Bool.eq_iff_iff];simp;omega
   go_enter Tryz.func264,Tryz.ntmps264
   go_wp2
   go_ret
   exact ⟨rfl,rfl⟩
  ·have hq:(z / 18446744073709551616 == 0)=true:=by simp;omega
   rw [fitZ_8]
   go_enter Tryz.func264,Tryz.ntmps264
   go_wp2
   go_ret
   exact ⟨rfl,rfl⟩
theorem zbyte (z:Int) (i:Nat) (h:i≤7):z / 2 ^ (8 * i) % 256=((UInt8.ofNat (u64N z / 256 ^ i)).toNat:Int):=by
 rw [UInt8.toNat_ofNat']
 unfold u64N
 obtain rfl | rfl | rfl | rfl | rfl | rfl | rfl | rfl:i=0∨i=1∨i=2∨i=3∨i=4∨i=5∨i=6∨i=7:=by omega
 all_goals (simp only [Nat.reduceMul,Nat.reducePow,Int.reducePow];omega)
theorem owns_set {w:World} {B n cap g j:Nat} {T:TypeId} {xs:List Value} (h:w.ownsRow B T 1 (.slice (some ⟨g,0,none⟩) n cap) n xs) (hj:j<n) (u:Value):(w.setCell ⟨g,j,none⟩ u).ownsRow B T 1 (.slice (some ⟨g,0,none⟩) n cap) n (xs.set j u)∧w.cell? ⟨g,j,none⟩=xs[j]?∧w.frozen? ⟨g,j,none⟩=false∧B≤g:=by
 obtain ⟨hl,h⟩:=h
 rcases h with ⟨h,-⟩ | ⟨g',cap',cur,hv,hb,hg,hnc,hcm,hcs,hcu⟩
 ·cases h
 ·cases hv
  rw [Nat.mul_one] at hcu hcs hl
  refine ⟨⟨by rw [List.length_set,Nat.mul_one];exact hl,.inr ⟨g,cap,cur.setIfInBounds j u,rfl,hb,heap_set hg u,hnc,hcm,by rw [Array.size_setIfInBounds,Nat.mul_one];exact hcs,?_⟩⟩,?_,free_blk hg,hb⟩
  ·rw [Array.toList_setIfInBounds,Nat.mul_one,List.take_set,hcu]
  ·rw [←hcu,List.getElem?_take,if_pos hj,Array.getElem?_toList]
   simp [World.cell?,hg]
theorem big_set (N k j:Nat) (hj:j<k):(List.replicate (k - j) (Value.int .u8 0)++bytesV (bigL N j)).set (k - 1 - j) (.int .u8 ((UInt8.ofNat (N / 256 ^ j)).toNat:Int))=List.replicate (k - (j+1)) (Value.int .u8 0)++bytesV (bigL N (j+1)):=by
 obtain ⟨m,rfl⟩:∃m,k=j+1+m:=⟨k - (j+1),by omega⟩
 rw [show j+1+m - j=m+1 by omega,show j+1+m - 1 - j=m by omega,show j+1+m - (j+1)=m by omega,List.replicate_succ',List.append_assoc,List.set_append_right _ _ (by simp)]
 simp [bytesV,bigL]
theorem mpbig_any (z:Int) (k:Nat) (w:World) (hk:k≤8):Calls Tryz.prog 265 #[.int .i64 z,.int .i64 (k:Int)] w fun e w'=>e=.returned (.string (bC (bigL (u64N z) k)))∧Below w.heap.size w w':=by
 obtain ⟨i0,hi,hz0,hz1,hz2⟩:=info_parts Tryz.info5
 have hub:=Tryz.underlying73
 have hu8:=Tryz.underlying5
 have hust:=Tryz.underlying9
 have hk8:(k:Int)≤8:=by omega
 have hk0:(0:Int)≤(k:Int):=by omega
 have ZB:=Hh (zbyte z)
 go_enter Tryz.func265,Tryz.ntmps265
 go_upto_region 3 with (at_make;refine wpList_make_full _ rfl _ _ 73 rfl _ 5 i0 (.int .u8 0) 1 Tryz.underlying73 hi hz0 hz1 .i64 .i64 _ _ k rfl rfl rfl rfl (by rw [hz2];omega) (by unfold maxLen;omega) (Lr _) ?_;intro w1 hown hgrow)
 rw [show (Value.int .u8 0).cells=#[.int .u8 0] from rfl,toList_madeCells_one,Nat.mul_one] at hown
 have b1:=(Br w.heap.size w).grown hgrow (Lr _) (fun _ e=>by cases e)
 have hrow:w1.ownsRow w.heap.size 5 1 (.slice (some ⟨w.heap.size,0,none⟩) k k) k (List.replicate k (Value.int .u8 0)):=hown
 have hgn:w.heap.size≤w.heap.size:=Lr _
 obtain ⟨g,hg⟩:∃g,g=w.heap.size:=⟨_,rfl⟩
 rw [←hg] at hrow ⊢
 have HG:=Hh hg
 have HB1:=Hh b1
 have HR1:=Hh hrow
 clear hown hgrow hrow b1 hg hgn
 go_loopw [10] (fun i wr=>∃ (j:Nat),i=.int .i64 (j:Int)∧j≤k∧wr.ownsRow g 5 1 (.slice (some ⟨g,0,none⟩) k k) k (List.replicate (k - j) (Value.int .u8 0)++bytesV (bigL (u64N z) j))∧Below w.heap.size w wr) (fun i _=>k - (intOf i).toNat)
 case atStart=>exact ⟨0,by simp,Nat.zero_le _,by simpa [bigL,bytesV] using HR1.out,HB1.out⟩
 case round=>
  obtain ⟨j,rfl,hj,hown,hB⟩:=hrel
  have HROW:=Hh (Ai hown hB)
  by_cases hlt:j<k
  ·have hlt':(j:Int)<(k:Int):=by omega
   obtain ⟨m,hm⟩:∃m:Nat,(m:Int)=(k:Int) - 1 - (j:Int):=⟨k - 1 - j,by omega⟩
   have hk1:IntKind.i64.wrap ((k:Int) - 1)=(k:Int) - 1:=IntWalk.i64_in _ (by omega)
   have hk2:IntKind.i64.wrap ((k:Int) - 1 - (j:Int))=(m:Int):=by rw [hm];exact IntWalk.i64_in _ (by omega)
   have hk3:(k:Int) - 1 - (j:Int)=(m:Int):=hm.symm
   have hmk:(m:Int)<(k:Int):=by omega
   have hm0:(0:Int)≤(m:Int):=by omega
   have hj7:(j:Int)≤7:=by omega
   have hj0:(0:Int)≤(j:Int):=by omega
   obtain ⟨c,hcc⟩:∃c,c=UInt8.ofNat (u64N z / 256 ^ j):=⟨_,rfl⟩
   have hc:z / 2 ^ (8 * j) % 256=(c.toNat:Int):=by rw [hcc];exact ZB.out j (by omega)
   obtain ⟨o1,o2,o3,-⟩:=owns_set hown (j:=m) (by omega) (.int .u8 (c.toNat:Int))
   have hmm:m=k - 1 - j:=by omega
   have ho2:wr.cell? ⟨g,m,none⟩=some (.int .u8 0):=by
    rw [o2,List.getElem?_append_left (by simp;omega),List.getElem?_replicate,if_pos (by omega)]
   have e1:(List.replicate (k - j) (Value.int .u8 0)++bytesV (bigL (u64N z) j)).set m (.int .u8 (c.toNat:Int))=List.replicate (k - (j+1)) (Value.int .u8 0)++bytesV (bigL (u64N z) (j+1)):=by
    rw [hmm,hcc];exact big_set _ _ _ hlt
   rw [e1] at o1
   have hb9:=hB.setCell (p:=⟨g,m,none⟩) (by rw [HG.out];exact Lr _) (.int .u8 (c.toNat:Int))
   have F:=Hh (Ai o1 hb9)
   clear hm hcc o2 e1 hown hB o1 hb9 hmm
   go_wp2
   go_roundw
   case rel=>exact ⟨j+1,by go_num,by omega,F.out.1,F.out.2⟩
   case measure=>simp [intOf] <;> omega
  ·have hj2:j=k:=by omega
   have hge:¬ (j:Int)<(k:Int):=by omega
   subst hj2
   rw [Nat.sub_self,List.replicate_zero,List.nil_append] at hown
   have hcv:=conv_owns (P:=Tryz.prog) wr 73 9 5 g j _ (bigL (u64N z) j) hown hub hu8 hust
   clear hown
   go_wp2
   go_ret
   exact ⟨rfl,hB⟩
end Go.Proofs.YtcklddldejejcaaGreatDoor