/- utf8.ValidString in the numbers of this program: a theorem of the library, proved once over any program; here the kernel compares the bodies and types. -/
import Derived.Test.YtdppdonaojdceaaGreatDoorProg
import Derived.Test.YtdppdonaojdceaaGreatDoorRows
import Derived.Test.YtdppdonaojdceaaGreatDoorJlk
import Derived.Shelf.Unicode.ValidAny
import Derived.Lib.LaidU8T
import Derived.LaidMore
import Derived.Shelf.Strconv.Itoa3
import Derived.Lib.AppendIntMem
import Derived.Lib.AtoiAllCases
import Derived.Stop.LaidErr
import GoSem.PinnedTables
import Derived.Lay
import Derived.KernelRfl
set_option linter.unusedVariables false
set_option linter.unusedSimpArgs false
set_option maxHeartbeats 4000000
set_option maxRecDepth 1000000
namespace Go.Proofs.YtdppdonaojdceaaGreatDoor
open Go.Shelf Go.RowKit Go.Lib
def uren:Go.Shelf.Ren:=⟨fun | 196=>84 | 259=>113 | n=>n,fun | 0=>0 | 3=>3 | 4=>4 | 5=>5 | 9=>9 | 12=>12 | 46=>114 | 53=>74 | 119=>148 | 138=>150 | 139=>151 | n=>n,fun | 3=>0 | 4=>1 | n=>n⟩
theorem lays196:Go.Proofs.Lays.n196 Tryz.prog uren:={
 mixed:=by kernel_rfl
 f196:=Tryz.func84.trans (congrArg some (by kernel_rfl))
 f259:=Tryz.func113.trans (congrArg some (by kernel_rfl))
 t0:=Tryz.underlying0
 a0:=Tryz.isAgg0
 z0:=Tryz.sizeOf0
 v0:=Tryz.zeroValue0
 t3:=Tryz.underlying3
 a3:=Tryz.isAgg3
 z3:=Tryz.sizeOf3
 v3:=Tryz.zeroValue3
 t4:=Tryz.underlying4
 a4:=Tryz.isAgg4
 z4:=Tryz.sizeOf4
 v4:=Tryz.zeroValue4
 t5:=Tryz.underlying5
 a5:=Tryz.isAgg5
 z5:=Tryz.sizeOf5
 v5:=Tryz.zeroValue5
 t9:=Tryz.underlying9
 a9:=Tryz.isAgg9
 z9:=Tryz.sizeOf9
 v9:=Tryz.zeroValue9
 t12:=Tryz.underlying12
 a12:=Tryz.isAgg12
 z12:=Tryz.sizeOf12
 v12:=Tryz.zeroValue12
 t46:=Tryz.underlying114
 a46:=Tryz.isAgg114
 z46:=Tryz.sizeOf114
 v46:=Tryz.zeroValue114
 t53:=Tryz.underlying74
 a53:=Tryz.isAgg74
 z53:=Tryz.sizeOf74
 v53:=Tryz.zeroValue74
 t119:=Tryz.underlying148
 a119:=Tryz.isAgg148
 z119:=Tryz.sizeOf148
 t138:=Tryz.underlying150
 a138:=Tryz.isAgg150
 z138:=Tryz.sizeOf150
 v138:=Tryz.zeroValue150
 t139:=Tryz.underlying151
 a139:=Tryz.isAgg151
 z139:=Tryz.sizeOf151
 v139:=Tryz.zeroValue151
 g3:=by kernel_rfl
 g4:=by kernel_rfl
}
theorem uextra:U8Extra Tryz.prog uren:=⟨by kernel_rfl,by kernel_rfl,by kernel_rfl,by kernel_rfl,by kernel_rfl,by kernel_rfl,by kernel_rfl⟩
def Utab (w:World):Prop:=Lib.Utf8Tabs 0 1 w
theorem Utab.of {w : World} (h3 : VarReads Tryz.prog w "unicode/utf8.first" firstData) (h4 : VarReads Tryz.prog w "unicode/utf8.acceptRanges" acceptData) : Utab w := utf8Tabs_of_readsT (U8Types.of196 lays196) uextra h3 h4
theorem valid_any (s:ByteArray) (w:World) (hs:s.size≤maxLen) (hT:Utab w):Calls Tryz.prog 84 #[.string s] w fun e w'=>e=.returned (.bool (Lib.validD s.data.toList))∧Below w.heap.size w w':=
 Any.utf8_ValidString lays196 s w (Nat.le_trans hs (by decide)) hT
def iren:Go.Shelf.Ren:=⟨fun | 129=>143 | 171=>55 | 243=>93 | 246=>118 | 283=>132 | 284=>133 | 285=>134 | 286=>135 | 317=>142 | 318=>144 | 319=>145 | 320=>146 | 337=>158 | 338=>159 | n=>n,fun | 0=>0 | 2=>2 | 3=>3 | 4=>4 | 5=>5 | 9=>9 | 20=>20 | 37=>56 | 46=>114 | 51=>185 | 53=>74 | 171=>174 | 173=>177 | 212=>184 | 213=>186 | 232=>209 | 233=>210 | n=>n,fun | 17=>3 | 18=>6 | 19=>7 | n=>n⟩
theorem lays171:Go.Proofs.LaysM.n171 Tryz.prog iren:={
 mixed:=by kernel_rfl
 f129:=Tryz.func143.trans (congrArg some (by kernel_rfl))
 f171:=Tryz.func55.trans (congrArg some (by kernel_rfl))
 f243:=Tryz.func93.trans (congrArg some (by kernel_rfl))
 f246:=Tryz.func118.trans (congrArg some (by kernel_rfl))
 f283:=Tryz.func132.trans (congrArg some (by kernel_rfl))
 f284:=Tryz.func133.trans (congrArg some (by kernel_rfl))
 f285:=Tryz.func134.trans (congrArg some (by kernel_rfl))
 f286:=Tryz.func135.trans (congrArg some (by kernel_rfl))
 f317:=Tryz.func142.trans (congrArg some (by kernel_rfl))
 f318:=Tryz.func144.trans (congrArg some (by kernel_rfl))
 f319:=Tryz.func145.trans (congrArg some (by kernel_rfl))
 f320:=Tryz.func146.trans (congrArg some (by kernel_rfl))
 f337:=Tryz.func158.trans (congrArg some (by kernel_rfl))
 f338:=Tryz.func159.trans (congrArg some (by kernel_rfl))
 t0:=Tryz.underlying0
 a0:=Tryz.isAgg0
 z0:=Tryz.sizeOf0
 v0:=Tryz.zeroValue0
 t2:=Tryz.underlying2
 a2:=Tryz.isAgg2
 z2:=Tryz.sizeOf2
 v2:=Tryz.zeroValue2
 t3:=Tryz.underlying3
 a3:=Tryz.isAgg3
 z3:=Tryz.sizeOf3
 v3:=Tryz.zeroValue3
 t4:=Tryz.underlying4
 a4:=Tryz.isAgg4
 z4:=Tryz.sizeOf4
 v4:=Tryz.zeroValue4
 t5:=Tryz.underlying5
 a5:=Tryz.isAgg5
 z5:=Tryz.sizeOf5
 v5:=Tryz.zeroValue5
 t9:=Tryz.underlying9
 a9:=Tryz.isAgg9
 z9:=Tryz.sizeOf9
 v9:=Tryz.zeroValue9
 t20:=Tryz.underlying20
 a20:=Tryz.isAgg20
 z20:=Tryz.sizeOf20
 v20:=Tryz.zeroValue20
 t37:=Tryz.underlying56
 a37:=Tryz.isAgg56
 z37:=Tryz.sizeOf56
 v37:=Tryz.zeroValue56
 t46:=Tryz.underlying114
 a46:=Tryz.isAgg114
 z46:=Tryz.sizeOf114
 v46:=Tryz.zeroValue114
 t51:=Tryz.underlying185
 a51:=Tryz.isAgg185
 z51:=Tryz.sizeOf185
 v51:=Tryz.zeroValue185
 t53:=Tryz.underlying74
 a53:=Tryz.isAgg74
 z53:=Tryz.sizeOf74
 v53:=Tryz.zeroValue74
 t171:=Tryz.underlying174
 a171:=Tryz.isAgg174
 z171:=Tryz.sizeOf174
 v171:=Tryz.zeroValue174
 t173:=Tryz.underlying177
 a173:=Tryz.isAgg177
 z173:=Tryz.sizeOf177
 v173:=Tryz.zeroValue177
 t212:=Tryz.underlying184
 a212:=Tryz.isAgg184
 z212:=Tryz.sizeOf184
 v212:=Tryz.zeroValue184
 t213:=Tryz.underlying186
 a213:=Tryz.isAgg186
 z213:=Tryz.sizeOf186
 t232:=Tryz.underlying209
 a232:=Tryz.isAgg209
 z232:=Tryz.sizeOf209
 v232:=Tryz.zeroValue209
 t233:=Tryz.underlying210
 a233:=Tryz.isAgg210
 z233:=Tryz.sizeOf210
 v233:=Tryz.zeroValue210
 g17:=by kernel_rfl
 g18:=by kernel_rfl
 g19:=by kernel_rfl
 i0:=by kernel_rfl
 i2:=by kernel_rfl
 i3:=by kernel_rfl
 i4:=by kernel_rfl
 i5:=by kernel_rfl
 i9:=by kernel_rfl
 i20:=by kernel_rfl
 i37:=by kernel_rfl
 i46:=by kernel_rfl
 i51:=by kernel_rfl
 i53:=by kernel_rfl
 i171:=by kernel_rfl
 i173:=by kernel_rfl
 i212:=by kernel_rfl
 i232:=by kernel_rfl
 i233:=by kernel_rfl
 m17:=by kernel_rfl
 m18:=by kernel_rfl
 m19:=by kernel_rfl
}
def Itab (w : World) : Prop := Lib.TabIs Tryz.prog w "internal/strconv.uint64pow10" .u64 Lib.pow10Tab
theorem Itab.below {w w':World} (h:Itab w) (hb:Below w.heap.size w w'):Itab w':=Lib.tabBelow_of_tabIs h w' hb
theorem itoa_any (n:Int) (h0:-9223372036854775808≤n) (h1:n≤9223372036854775807) (w:World) (hT:Itab w):Calls Tryz.prog 55 #[.int .i64 n] w fun e w'=>e=.returned (.string ⟨(Lib.itoa n).toArray⟩)∧Below w.heap.size w w':=
 (Any.strconv_Itoa lays171 n h0 h1 w hT).mono fun e w' ⟨h,k,os,hw⟩=>⟨h,by rw [hw];exact Lib.below_grow _ w (Lr _) k os⟩
end Go.Proofs.YtdppdonaojdceaaGreatDoor
namespace Go.Proofs.YtdppdonaojdceaaGreatDoor
open Go Go.ChangeShapes Go.WideShapes Go.ChangeAt Go.RowKit
def dVal (n:Nat):Nat:=if 48≤n∧n≤57 then n - 48 else (bits .or .u8 (n:Int) 32).toNat - 87
theorem dVal_hex {c x:UInt8} (h:hexV c=some x):((48≤c.toNat∧c.toNat≤57)∨(¬ (48≤c.toNat∧c.toNat≤57)∧97≤bits .or .u8 (c.toNat:Int) 32∧bits .or .u8 (c.toNat:Int) 32≤122))∧dVal c.toNat=x.toNat∧x.toNat<16:=by
 have:∀n:Fin 256,∀x,hexV (UInt8.ofNat n.1)=some x→((48≤n.1∧n.1≤57)∨(¬ (48≤n.1∧n.1≤57)∧97≤bits .or .u8 (n.1:Int) 32∧bits .or .u8 (n.1:Int) 32≤122))∧dVal n.1=x.toNat∧x.toNat<16:=by
  intro n x h
  have:∀n:Fin 256,(hexV (UInt8.ofNat n.1)).isSome=true→((48≤n.1∧n.1≤57)∨(¬ (48≤n.1∧n.1≤57)∧97≤bits .or .u8 (n.1:Int) 32∧bits .or .u8 (n.1:Int) 32≤122))∧dVal n.1=((hexV (UInt8.ofNat n.1)).getD 0).toNat∧((hexV (UInt8.ofNat n.1)).getD 0).toNat<16:=by decide +kernel
  have:=this n (by rw [h];rfl)
  rw [h] at this
  exact this
 have hc:=this ⟨c.toNat,c.toNat_lt⟩ x
 rw [show UInt8.ofNat c.toNat=c from UInt8.ofNat_toNat] at hc
 exact hc h
def hex2:List UInt8→Option Nat
 | [a,b]=>match hexV a,hexV b with
  | some x,some y=>some (16 * x.toNat+y.toNat)
  | _,_=>none
 | _=>none
def hVal (l:List UInt8):Nat:=l.foldl (fun a c=>a * 16+dVal c.toNat) 0
theorem hVal_snoc (l:List UInt8) (c:UInt8):hVal (l++[c])=hVal l * 16+dVal c.toNat:=by unfold hVal;rw [List.foldl_append];rfl
theorem hex2_inv {l:List UInt8} {v:Nat} (h:hex2 l=some v):(∀c,c ∈ l→∃x,hexV c=some x)∧v=hVal l∧l.length=2:=by
 unfold hex2 at h
 split at h
 ·rename_i a b
  cases hx:hexV a with
  | none=>rw [hx] at h;cases h
  | some x=>
   cases hy:hexV b with
   | none=>rw [hx,hy] at h;cases h
   | some y=>
    rw [hx,hy] at h
    cases h
    refine ⟨fun c hc=>?_,?_,rfl⟩
    ·simp only [List.mem_cons,List.not_mem_nil,or_false] at hc
     rcases hc with rfl | rfl
     ·exact ⟨x,hx⟩
     ·exact ⟨y,hy⟩
    ·show _=(0 * 16+dVal a.toNat) * 16+dVal b.toNat
     rw [(dVal_hex hx).2.1,(dVal_hex hy).2.1];omega
 ·cases h
def EVars (w:World):Prop:=(∃t p,w.cell? ⟨4,0,none⟩=some (.iface t p))∧(∃t p,w.cell? ⟨5,0,none⟩=some (.iface t p))
theorem EVars.below {w w':World} (h:EVars w) (hb:Below w.heap.size w w'):EVars w':=by
 obtain ⟨⟨t,p,h1⟩,⟨t',p',h2⟩⟩:=h
 exact ⟨⟨t,p,(hb.cell (p:=⟨_,0,none⟩) (cell_lt h1)).trans h1⟩,⟨t',p',(hb.cell (p:=⟨_,0,none⟩) (cell_lt h2)).trans h2⟩⟩
def ErrV (v:Value):Prop:=v=.nilIface∨∃t p,v=.iface t p
def AtoiPost (s:ByteArray) (w:World) (e:Ending) (w':World):Prop:=∃ (v:Int) (ev:Value),e=.returned (.tuple #[.int .i64 v,ev])∧wideI v=true∧ErrV ev∧(∀u,Lib.atoiAll s.data.toList=.ok u→v=u∧ev=.nilIface)∧Below w.heap.size w w'
theorem wideI_mk {z:Int} (h1:-9223372036854775808≤z) (h2:z≤9223372036854775807):wideI z=true:=by unfold wideI;rw [decide_eq_true h1,decide_eq_true h2];rfl
theorem atoi_any (s:ByteArray) (w:World) (hs:s.size≤1000000) (hE:EVars w):Calls Tryz.prog 124 #[.string s] w (AtoiPost s w):=by
 obtain ⟨⟨t,p,h1⟩,⟨t',p',h2⟩⟩:=hE
 cases h:Lib.atoiAll s.data.toList with
 | ok v=>
  refine (Any.strconv_Atoi_ok jlays172 s (by omega) v h w).mono fun e w' q=>⟨v,.nilIface,q.1,wideI_mk (Lib.atoiAll_bounds h).1 (Lib.atoiAll_bounds h).2,.inl rfl,(fun u hu=>by rw [h] at hu;cases hu;exact ⟨rfl,rfl⟩),?_⟩
  rcases q.2 with rfl | ⟨t,rfl⟩
  ·exact Br _ _
  ·exact Lib.bytesWorld_below _ _ _
 | «syntax»=>
  refine (Any.strconv_Atoi_syntax jlays172 s (by omega) h _ w h1 (.inr ⟨t,p,rfl⟩)).mono fun e w' q=>?_
  obtain ⟨N,rfl,-,-,hb⟩:=q
  exact ⟨_,_,rfl,by decide,.inr ⟨_,_,rfl⟩,(fun u hu=>by rw [h] at hu;cases hu),hb⟩
 | range=>
  refine (Any.strconv_Atoi_range jlays172 s (by omega) h _ w h2 (.inr ⟨t',p',rfl⟩)).mono fun e w' q=>?_
  obtain ⟨N,rfl,-,-,hb⟩:=q
  exact ⟨_,_,rfl,wideI_mk (Lib.atoiSat_bounds _).1 (Lib.atoiSat_bounds _).2,.inr ⟨_,_,rfl⟩,(fun u hu=>by rw [h] at hu;cases hu),hb⟩
theorem lower_any (c:Int) (w:World):Calls Tryz.prog 164 #[.int .u8 c] w fun e w'=>e=.returned (.int .u8 (bits .or .u8 c 32))∧w=w':=by
 go_enter Tryz.func164,Tryz.ntmps164
 go_wp2
 go_ret
 exact ⟨rfl,rfl⟩
def HexPost (s:ByteArray) (w:World) (e:Ending) (w':World):Prop:=∃ (v:Nat) (ev:Value),e=.returned (.tuple #[.int .u64 (v:Int),ev])∧v<256∧(ev=.nilIface∨ev=.iface 195 (.int .i64 2))∧(∀u,hex2 s.data.toList=some u→v=u∧ev=.nilIface)∧Below w.heap.size w w'
theorem ipu16_any (s:ByteArray) (w:World) (hs:s.size≤2):Calls Tryz.prog 152 #[.string s,.int .i64 16,.int .i64 8] w (HexPost s w):=by
 by_cases hne:s.size=0
 ·have hnil:s.data.toList=[]:=List.length_eq_zero_iff.1 (by rw [←Lib.size_eq];exact hne)
  have hemp:s.toList.isEmpty=true:=by rw [Lib.toList_data,hnil];rfl
  go_enter Tryz.func152,Tryz.ntmps152
  go_wp2
  go_ret2
  exact ⟨0,_,rfl,by decide,.inr rfl,(fun u hu=>by rw [hnil] at hu;cases hu),Br _ _⟩
 ·have hemp:s.toList.isEmpty=false:=by
   rw [Lib.toList_data]
   cases h:s.data.toList with
   | nil=>have:=Lib.size_eq s;rw [h,List.length_nil] at this;omega
   | cons _ _=>rfl
  have hB:∀j,j<s.size→(Lib.bytesWorld w 5 s).cell? ⟨w.heap.size,j,none⟩=some (.int .u8 (s.data.toList.getD j 0).toNat):=fun j hj=>Lib.bytesWorld_cell w 5 s j hj
  have hcv:=Lib.run_convert_string_bytes (P:=Tryz.prog) w 9 56 5 s (u:=.string) Tryz.underlying9 Tryz.underlying56 Tryz.underlying5
  have hbl:Below w.heap.size w (Lib.bytesWorld w 5 s):=Lib.bytesWorld_below _ _ _
  obtain ⟨W1,hW1⟩:∃W1,W1=Lib.bytesWorld w 5 s:=⟨_,rfl⟩
  rw [←hW1] at hcv hB hbl
  clear hW1
  obtain ⟨bs,hL⟩:∃bs,bs=s.data.toList:=⟨_,rfl⟩
  have hLn:bs.length=s.size:=by rw [hL,Lib.size_eq]
  have HL:=Hh hL
  rw [←hL] at hB
  clear hL
  go_enter Tryz.func152,Tryz.ntmps152
  go_upto_region 36 with fail
  go_loopw [12,13,101] (fun vu vn vi wr=>∃ (k a:Nat) (z:Int),vu=.bool false∧vn=.int .u64 z∧vi=.int .i64 (k:Int)∧wr=W1∧k≤s.size∧Hid (z=(a:Int)∧a<16 ^ k∧a=hVal (bs.take k))) (fun _ _ vi _=>s.size - (intOf vi).toNat)
  case atStart=>exact ⟨0,0,0,rfl,rfl,rfl,rfl,by omega,Hh ⟨rfl,by decide,rfl⟩⟩
  case round=>
   obtain ⟨k,a,z,rfl,rfl,rfl,rfl,hk,hh0⟩:=hrel
   obtain ⟨hza,hh⟩:=hh0.out
   have hh:=Hh hh
   clear hh0
   by_cases hkn:k<s.size
   ·have hc:=hB k hkn
    have hg:bs[k]?=some (bs.getD k 0):=by rw [List.getD_eq_getElem?_getD,List.getElem?_eq_getElem (by omega)];rfl
    generalize bs.getD k 0=c at hc hg
    have HG:=Hh hg
    clear hg hB
    have hc256:c.toNat<256:=c.toNat_lt
    have ha16:a<16:=by
     have:=hh.out.1
     have:16 ^ k≤16 ^ 1:=Nat.pow_le_pow_right (by decide) (by omega)
     omega
    have hac:z<1152921504606846976:=by omega
    have hbad:¬ (((48≤c.toNat∧c.toNat≤57)∨(¬ (48≤c.toNat∧c.toNat≤57)∧97≤bits .or .u8 (c.toNat:Int) 32∧bits .or .u8 (c.toNat:Int) 32≤122))∧dVal c.toNat<16)→∀u,¬hex2 s.data.toList=some u:=by
     intro hno u hu
     rw [←HL.out] at hu
     obtain ⟨x,hx⟩:=(hex2_inv hu).1 c (List.mem_of_getElem? HG.out)
     obtain ⟨g1,g2,g3⟩:=dVal_hex hx
     exact hno ⟨g1,by omega⟩
    have HBAD:=Hh hbad
    have HH:=Hh hh.out
    have hlo:=bits_lo_u8 .or (c.toNat:Int) 32
    have hhi:=bits_hi_u8 .or (c.toNat:Int) 32
    have LOW:=Hh (fun wx=>lower_any (c.toNat:Int) wx)
    have hdv:¬ (48≤c.toNat∧c.toNat≤57)→dVal c.toNat=(bits .or .u8 (c.toNat:Int) 32).toNat - 87:=fun h=>by unfold dVal;rw [if_neg h]
    have hdw:(48≤c.toNat∧c.toNat≤57)→dVal c.toNat=c.toNat - 48:=fun h=>by unfold dVal;rw [if_pos h]
    have h95:c.toNat=95→bits .or .u8 (c.toNat:Int) 32=127:=fun h=>by rw [h];decide
    have NX:Hid (dVal c.toNat<16→a * 16+dVal c.toNat<16 ^ (k+1)∧a * 16+dVal c.toNat=hVal (bs.take (k+1))):=Hh fun h=>by
     refine ⟨by rw [Nat.pow_succ];have:=hh.out.1;omega,?_⟩
     rw [List.take_add_one,HG.out,Option.toList_some,hVal_snoc,←hh.out.2]
    clear hbad hh HG
    obtain ⟨D,hD⟩:∃D,D=dVal c.toNat:=⟨_,rfl⟩
    rw [←hD] at HBAD hdv hdw NX
    clear hD
    generalize bits .or .u8 (c.toNat:Int) 32=Z at HBAD hlo hhi LOW hdv h95
    generalize c.toNat=n at HBAD hlo hhi LOW hdv hdw h95 hc hc256
    have hn0:(0:Int)≤(n:Int):=by omega
    have hn1:(n:Int)<256:=by omega
    have ha0:(0:Int)≤z:=by omega
    have HZA:=Hh hza
    by_cases hdig:48≤n∧n≤57
    ·have hDn:=hdw hdig
     have q1:(48:Int)≤(n:Int):=by omega
     have q2:(n:Int)≤57:=by omega
     have q3:((n:Int) == 95)=false:=by simp;omega
     obtain ⟨dz,hdz⟩:∃dz:Int,dz=(D:Int):=⟨_,rfl⟩
     obtain ⟨nz,hnz⟩:∃nz:Int,nz=((a * 16+D:Nat):Int):=⟨_,rfl⟩
     have w0:(n:Int) - 48=dz:=by omega
     have w2:IntKind.u64.wrap (z * 16)=z * 16:=by rw [IntKind.wrap_u64];omega
     have w3:IntKind.u64.wrap (z * 16+dz)=nz:=by rw [IntKind.wrap_u64];omega
     have w4:z * 16+dz=nz:=by omega
     have q4:dz<16:=by omega
     have q5:(0:Int)≤dz:=by omega
     have q6:¬nz<z * 16:=by omega
     have q7:nz≤255:=by omega
     have q8:¬ (255:Int)<nz:=by omega
     have NX2:=Hh (NX.out (by omega))
     have HNZ:=Hh hnz
     clear NX hdv hdw h95 HBAD hDn hlo hhi LOW hdig hza ha16 hdz hnz HH
     go_wp2
     go_roundw
     case rel=>exact ⟨k+1,a * 16+D,nz,rfl,rfl,by go_num,trivial,by omega,Hh ⟨HNZ.out,NX2.out⟩⟩
     case measure=>simp [intOf];omega
    ·have hDn:=hdv hdig
     have hdg:¬ (48:Int)≤(n:Int)∨¬ (n:Int)≤57:=by omega
     by_cases hlet:97≤Z∧Z≤122
     ·have q3:((n:Int) == 95)=false:=by
       have:n ≠ 95:=fun e=>by have:=h95 e;omega
       simp;omega
      obtain ⟨l1,l2⟩:=hlet
      obtain ⟨dz,hdz⟩:∃dz:Int,dz=(D:Int):=⟨_,rfl⟩
      have w0:Z - 97+10=dz:=by omega
      have w1:IntKind.u8.wrap (Z - 97)=Z - 97:=by rw [IntKind.wrap_u8];omega
      have w2:IntKind.u8.wrap (Z - 97+10)=dz:=by rw [IntKind.wrap_u8];omega
      have w4:IntKind.u8.wrap dz=dz:=by rw [IntKind.wrap_u8];omega
      have q5:(0:Int)≤dz:=by omega
      have q6:dz≤35:=by omega
      by_cases hd16:D<16
      ·obtain ⟨nz,hnz⟩:∃nz:Int,nz=((a * 16+D:Nat):Int):=⟨_,rfl⟩
       have w5:IntKind.u64.wrap (z * 16)=z * 16:=by rw [IntKind.wrap_u64];omega
       have w6:IntKind.u64.wrap (z * 16+dz)=nz:=by rw [IntKind.wrap_u64];omega
       have w7:z * 16+dz=nz:=by omega
       have q4:dz<16:=by omega
       have q7:¬nz<z * 16:=by omega
       have q8:nz≤255:=by omega
       have NX2:=Hh (NX.out (by omega))
       have HNZ:=Hh hnz
       clear NX hdv hdw h95 HBAD hDn hza ha16 hdz hnz HH hd16 hdig
       rcases hdg with q1 | q1
       ·go_wp2_with (go_at_call 164;(with_reducible refine (LOW.out _).mono ?_);rintro e w1 ⟨rfl,rfl⟩)
        go_roundw
        case rel=>exact ⟨k+1,a * 16+D,nz,rfl,rfl,by go_num,trivial,by omega,Hh ⟨HNZ.out,NX2.out⟩⟩
        case measure=>simp [intOf];omega
       ·have q0:(48:Int)≤(n:Int):=by omega
        go_wp2_with (go_at_call 164;(with_reducible refine (LOW.out _).mono ?_);rintro e w1 ⟨rfl,rfl⟩)
        go_roundw
        case rel=>exact ⟨k+1,a * 16+D,nz,rfl,rfl,by go_num,trivial,by omega,Hh ⟨HNZ.out,NX2.out⟩⟩
        case measure=>simp [intOf];omega
      ·have q4:¬dz<16:=by omega
       have HB2:=Hh (HBAD.out (fun h=>hd16 h.2))
       clear NX hdv hdw h95 HBAD hDn hza ha16 hdz HH hd16 hdig
       rcases hdg with q1 | q1
       ·go_wp2_with (go_at_call 164;(with_reducible refine (LOW.out _).mono ?_);rintro e w1 ⟨rfl,rfl⟩)
        go_ret2
        exact ⟨0,_,rfl,by decide,.inr rfl,(fun u hu=>absurd hu (HB2.out u)),hbl⟩
       ·have q0:(48:Int)≤(n:Int):=by omega
        go_wp2_with (go_at_call 164;(with_reducible refine (LOW.out _).mono ?_);rintro e w1 ⟨rfl,rfl⟩)
        go_ret2
        exact ⟨0,_,rfl,by decide,.inr rfl,(fun u hu=>absurd hu (HB2.out u)),hbl⟩
     ·have HB2:=Hh (HBAD.out (fun h=>h.1.elim hdig (fun h=>hlet h.2)))
      clear NX hdv hdw h95 HBAD hDn hza ha16 HH hdig
      have hlt:¬97≤Z∨¬Z≤122:=by omega
      rcases hlt with l1 | l1
      ·rcases hdg with q1 | q1
       ·by_cases h95:n=95
        ·omega
        ·have q3:((n:Int) == 95)=false:=by simp;omega
         go_wp2_with (go_at_call 164;(with_reducible refine (LOW.out _).mono ?_);rintro e w1 ⟨rfl,rfl⟩)
         go_ret2
         exact ⟨0,_,rfl,by decide,.inr rfl,(fun u hu=>absurd hu (HB2.out u)),hbl⟩
       ·have q0:(48:Int)≤(n:Int):=by omega
        by_cases h95:n=95
        ·subst h95
         have L2:Hid (∀wx:World,Calls Tryz.prog 164 #[.int .u8 95] wx fun e w'=>e=.returned (.int .u8 Z)∧wx=w'):=LOW
         go_wp2_with (go_at_call 164;(with_reducible refine (L2.out _).mono ?_);rintro e w1 ⟨rfl,rfl⟩)
         go_ret2
         exact ⟨0,_,rfl,by decide,.inr rfl,(fun u hu=>absurd hu (HB2.out u)),hbl⟩
        ·have q3:((n:Int) == 95)=false:=by simp;omega
         go_wp2_with (go_at_call 164;(with_reducible refine (LOW.out _).mono ?_);rintro e w1 ⟨rfl,rfl⟩)
         go_ret2
         exact ⟨0,_,rfl,by decide,.inr rfl,(fun u hu=>absurd hu (HB2.out u)),hbl⟩
      ·rcases hdg with q1 | q1
       ·have q3:((n:Int) == 95)=false:=by simp;omega
        have l2:97≤Z:=by omega
        go_wp2_with (go_at_call 164;(with_reducible refine (LOW.out _).mono ?_);rintro e w1 ⟨rfl,rfl⟩)
        go_ret2
        exact ⟨0,_,rfl,by decide,.inr rfl,(fun u hu=>absurd hu (HB2.out u)),hbl⟩
       ·have q0:(48:Int)≤(n:Int):=by omega
        have l2:97≤Z:=by omega
        by_cases h95:n=95
        ·subst h95
         have L2:Hid (∀wx:World,Calls Tryz.prog 164 #[.int .u8 95] wx fun e w'=>e=.returned (.int .u8 Z)∧wx=w'):=LOW
         go_wp2_with (go_at_call 164;(with_reducible refine (L2.out _).mono ?_);rintro e w1 ⟨rfl,rfl⟩)
         go_ret2
         exact ⟨0,_,rfl,by decide,.inr rfl,(fun u hu=>absurd hu (HB2.out u)),hbl⟩
        ·have q3:((n:Int) == 95)=false:=by simp;omega
         go_wp2_with (go_at_call 164;(with_reducible refine (LOW.out _).mono ?_);rintro e w1 ⟨rfl,rfl⟩)
         go_ret2
         exact ⟨0,_,rfl,by decide,.inr rfl,(fun u hu=>absurd hu (HB2.out u)),hbl⟩
   ·have hkk:k=s.size:=by omega
    subst hkk
    have HF:Hid (a<256∧∀u,hex2 s.data.toList=some u→a=u):=by
     refine Hh ⟨?_,fun u hu=>?_⟩
     ·have:=hh.out.1
      have:16 ^ s.size≤16 ^ 2:=Nat.pow_le_pow_right (by decide) hs
      omega
     ·rw [←HL.out] at hu
      rw [hh.out.2,(hex2_inv hu).2.1,List.take_of_length_le (by omega)]
    subst hza
    clear hh
    go_wp2
    go_ret2
    exact ⟨a,_,rfl,HF.out.1,.inl rfl,fun u hu=>⟨HF.out.2 u hu,rfl⟩,hbl⟩
def PuPost (s:ByteArray) (w:World) (e:Ending) (w':World):Prop:=∃ (v:Nat) (ev:Value),e=.returned (.tuple #[.int .u64 (v:Int),ev])∧v<256∧ErrV ev∧(∀u,hex2 s.data.toList=some u→v=u∧ev=.nilIface)∧Below w.heap.size w w'
theorem pu16_any (s:ByteArray) (w:World) (hs:s.size≤2) (hE:EVars w):Calls Tryz.prog 139 #[.string s,.int .i64 16,.int .i64 8] w (PuPost s w):=by
 have I:=Hh (ipu16_any s w hs)
 have HE:=Hh hE
 clear hE
 go_enter Tryz.func139,Tryz.ntmps139
 go_upto_region 2 with ((with_reducible refine (I.out).mono ?_);rintro e w1 ⟨v,ev,rfl,hv,hev,hh,hb⟩)
 have HV:=Hh (Ai hv hh)
 clear hv hh I
 rcases hev with rfl | rfl
 ·go_wp2
  go_ret2
  exact ⟨v,_,rfl,HV.out.1,.inl rfl,(fun u hu=>⟨(HV.out.2 u hu).1,rfl⟩),hb⟩
 ·obtain ⟨⟨t,p,h1⟩,-⟩:=HE.out.below hb
  have T:Hid (Calls Tryz.prog 141 #[.string ⟨#[80,97,114,115,101,85,105,110,116]⟩,.string s,.int .i64 16,.int .i64 8,.iface 195 (.int .i64 2)] w1 fun e w'=>(∃t p,e=.returned (.iface t p))∧Below w1.heap.size w1 w'):=(Any.strconv_toError_syntax jlays245 ⟨#[80,97,114,115,101,85,105,110,116]⟩ s 16 8 _ w1 (by omega) h1 (.inr ⟨t,p,rfl⟩)).mono fun e w' ⟨N,h,_,_,hb⟩=>⟨⟨_,_,h⟩,hb⟩
  clear h1
  go_wp2_with (go_at_call 141;(with_reducible refine (T.out).mono ?_);rintro e w2 ⟨⟨t2,p2,rfl⟩,hb2⟩)
  go_ret2
  exact ⟨v,_,rfl,HV.out.1,.inr ⟨_,_,rfl⟩,(fun u hu=>by have:=(HV.out.2 u hu).2;cases this),hb.trans (hb2.mono hb.size)⟩
end Go.Proofs.YtdppdonaojdceaaGreatDoor
namespace Go.Proofs.YtdppdonaojdceaaGreatDoor
open Go Go.RowKit Go.Shelf Go.Lib
theorem own:ownKnob Tryz.prog.godebug=none:=by kernel_rfl
theorem laidOut:laidOutB Tryz.prog=true:=by kernel_rfl
theorem jlaid_accept:(Rows.laid_unicode_utf8_acceptRanges:DataW Unit)=acceptData:=by kernel_rfl
theorem jlaid_first:Rows.laid_unicode_utf8_first=firstData:=by kernel_rfl
theorem jlaid_pow:(Rows.laid_internal_strconv_uint64pow10:DataW Unit)=tabData .u64 Lib.pow10Tab:=by kernel_rfl
theorem jitab_of {w : World} {r : List (String × DataW Unit)} (h : laidMet Tryz.prog (("internal/strconv.uint64pow10", Rows.laid_internal_strconv_uint64pow10) :: r) w) : Itab w := by
 rw [jlaid_pow] at h
 exact tabIs_of_head (g:=3) (t:=184) (e:=74) (n:=20) (by kernel_rfl) (by kernel_rfl) Tryz.underlying184 Tryz.underlying74 (by kernel_rfl) (by kernel_rfl) h
theorem star_err : "*" ++ "errors.errorString" = "*errors.errorString" := by decide
theorem row_err : ∀ u, Tryz.prog.typeName? 3 u = some "*errors.errorString" → u = 212 := fun u h =>
 typeName_ptr_named (nm := "errors.errorString") (by rw [star_err]; kernel_rfl) (by kernel_rfl) (by decide) u (by rw [star_err]; exact h)
end Go.Proofs.YtdppdonaojdceaaGreatDoor