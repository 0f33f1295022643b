/- The program's cursor of the third serialisation: take, number. Then: The program's reader of heads of the third serialisation. -/
import Derived.Test.YtdppdonaojdceaaGreatDoorMho
import Derived.Test.YtdppdonaojdceaaGreatDoorMps
set_option linter.unusedVariables false
set_option linter.unusedSimpArgs false
set_option maxHeartbeats 6400000
set_option maxRecDepth 100000
namespace Go.Proofs.YtdppdonaojdceaaGreatDoor
open Go Go.ChangeShapes Go.WideShapes Go.ChangeAt Go.RowKit
theorem bM_extract (l:List UInt8) (a b:Nat):(bC l).extract a b=bC ((l.drop a).take (b - a)):=by
 apply ByteArray.ext
 apply Array.toList_inj.1
 rw [ByteArray.data_extract,Array.toList_extract]
 simp [bC,List.extract]
theorem bM_head (l:List UInt8) (n:Nat):(bC l).extract 0 n=bC (l.take n):=by rw [bM_extract];simp
theorem bM_tail (l:List UInt8) (n:Nat):(bC l).extract n (bC l).size=bC (l.drop n):=by
 rw [bM_extract,bC_size,List.take_of_length_le (by simp)]
theorem i64_or_low (X c:Int) (hX:X % 256=0) (h0:0≤c) (hc:c<256):bits BinOp.or IntKind.i64 X c=wrap64 (X+c):=by
 show IntKind.i64.wrap ((BitVec.ofInt 64 X ||| BitVec.ofInt 64 c).toNat:Int)=_
 rw [BitVec.toNat_or,BitVec.toNat_ofInt,BitVec.toNat_ofInt,IntKind.wrap_i64]
 obtain ⟨a,ha⟩:∃a:Nat,(X % ((2 ^ 64:Nat):Int)).toNat=2 ^ 8 * a:=⟨(X % ((2 ^ 64:Nat):Int)).toNat / 256,by omega⟩
 have hb:(c % ((2 ^ 64:Nat):Int)).toNat=c.toNat:=by omega
 rw [ha,hb,←Nat.two_pow_add_eq_or_of_lt (by omega:c.toNat<2 ^ 8) a]
 unfold wrap64
 omega
def sgE (neg:Bool) (j:Nat):Int:=if neg then 256 ^ j else 0
theorem sgE_succ (neg:Bool) (j:Nat):sgE neg (j+1)=256 * sgE neg j:=by
 unfold sgE
 cases neg
 ·rfl
 ·rw [if_pos rfl,if_pos rfl,Int.pow_succ];omega
theorem sgE_step (b T c:Int) (h0:0≤c) (hc:c<256):bits BinOp.or IntKind.i64 (wrap64 (wrap64 (b - T) * 256)) c=wrap64 ((b * 256+c) - 256 * T):=by
 rw [i64_or_low _ _ (by unfold wrap64;omega) h0 hc]
 unfold wrap64
 omega
def numZ (neg:Bool) (l:List UInt8):Int:=wrap64 ((bigV l:Int) - sgE neg l.length)
theorem numZ_snoc (neg:Bool) (l:List UInt8) (c:UInt8):numZ neg (l++[c])=bits BinOp.or IntKind.i64 (wrap64 (numZ neg l * 256)) (c.toNat:Int):=by
 unfold numZ
 rw [Lg,bigV_snoc,show [c].length=1 from rfl,sgE_succ,sgE_step _ _ _ (by omega) (by have:=c.toNat_lt;omega)]
 congr 1
theorem numZ_nil (neg:Bool):numZ neg []=if neg then -1 else 0:=by cases neg <;> decide +kernel
theorem numZ_wide (neg:Bool) (l:List UInt8):wideI (numZ neg l)=true:=by
 unfold numZ wideI wrap64
 rw [Bool.and_eq_true,decide_eq_true_eq,decide_eq_true_eq]
 omega
def PrM (B:Nat) (w:World) (g:Nat) (r:List UInt8):Prop:=w.heap[g]?=some (.cells #[.string (bC r)] 102 (0,0))∧SclB B w∧B≤g
theorem PrM.lt {B:Nat} {w:World} {g:Nat} {r:List UInt8} (h:PrM B w g r):g<w.heap.size:=lt_of_block h.1
theorem PrM.kept {B:Nat} {w w':World} {g b:Nat} {r:List UInt8} (h:PrM B w g r) (hg:w.grownBy w' (some b)) (hb:g<b):PrM B w' g r:=by
 have hl:=h.lt
 obtain ⟨h1,h2,h3⟩:=h
 exact ⟨keepG hg (by omega) h1,h2.below ((Br B w).grown hg (by omega) (fun k hk=>by cases hk;omega)),h3⟩
theorem PrM.below {B:Nat} {w w':World} {g:Nat} {r:List UInt8} (h:PrM B w g r) (hb:Below w.heap.size w w'):PrM B w' g r:=by
 have hl:=h.lt
 obtain ⟨h1,h2,h3⟩:=h
 exact ⟨(hb.block g hl).trans h1,h2.below (hb.mono (by omega)),h3⟩
theorem PrM.set {B:Nat} {w:World} {g:Nat} {r:List UInt8} (h:PrM B w g r) (r':List UInt8):PrM B (w.setCell ⟨g,0,none⟩ (.string (bC r'))) g r'∧w.grownBy (w.setCell ⟨g,0,none⟩ (.string (bC r'))) (some g):=by
 obtain ⟨h1,h2,h3⟩:=h
 have k:=heap_set h1 (j:=0) (.string (bC r'))
 have hg:=grown_set w g 0 (.string (bC r'))
 exact ⟨⟨by simpa using k,h2.below ((Br B w).setCell (p:=⟨g,0,none⟩) h3 _),h3⟩,hg⟩
def PMPost (B g:Nat) (w:World) (v:Value) (r':List UInt8) (e:Ending) (w':World):Prop:=e=.returned v∧PrM B w' g r'∧w.grownBy w' (some g)
theorem mtake_yes (n:Nat) {B g:Nat} {r:List UInt8} (w:World) (h:PrM B w g r) (hr:r.length≤1000000) (q:n≤r.length):Calls Tryz.prog 110 #[.pointer (some ⟨g,0,none⟩),.int .i64 (n:Int)] w (PMPost B g w (.tuple #[.string (bC (r.take n)),.bool true]) (r.drop n)):=by
 have c0:w.cell? ⟨g,0,none⟩=some (.string (bC r)):=cell_blk h.1 rfl
 have f0:w.frozen? ⟨g,0,none⟩=false:=free_blk h.1
 have hz:=bC_size r
 have q1:(n:Int)≤((bC r).size:Int):=by omega
 have q2:¬ ((bC r).size:Int)<(n:Int):=by omega
 have q0:(0:Int)≤(n:Int):=by omega
 have k1:=bM_head r n
 have k2:=bM_tail r n
 have ST:=Hh (h.set (r.drop n))
 clear hz q h
 go_enter Tryz.func110,Tryz.ntmps110
 go_wp2
 go_ret2
 exact ⟨rfl,ST.out.1,ST.out.2⟩
theorem mtake_no (n:Nat) {B g:Nat} {r:List UInt8} (w:World) (h:PrM B w g r) (hr:r.length≤1000000) (q:¬n≤r.length):Calls Tryz.prog 110 #[.pointer (some ⟨g,0,none⟩),.int .i64 (n:Int)] w (PMPost B g w (.tuple #[.string ⟨#[]⟩,.bool false]) r):=by
 have c0:w.cell? ⟨g,0,none⟩=some (.string (bC r)):=cell_blk h.1 rfl
 have hz:=bC_size r
 have q1:((bC r).size:Int)<(n:Int):=by omega
 have ST:=Hh h
 clear hz q h
 go_enter Tryz.func110,Tryz.ntmps110
 go_wp2
 go_ret2
 exact ⟨rfl,ST.out,grown_of_below (Br _ _) (Lr _) _⟩
theorem mnum_yes (n:Nat) (neg:Bool) {B g:Nat} {r:List UInt8} (w:World) (h:PrM B w g r) (hr:r.length≤1000000) (q:n≤r.length) (hn:n≤8):Calls Tryz.prog 129 #[.pointer (some ⟨g,0,none⟩),.int .i64 (n:Int),.bool neg] w (PMPost B g w (.tuple #[.int .i64 (numZ neg (r.take n)),.bool true]) (r.drop n)):=by
 have TK:=Hh (mtake_yes n w h hr q)
 obtain ⟨l,hl⟩:∃l,l=r.take n:=⟨_,rfl⟩
 have hll:l.length=n:=by rw [hl,List.length_take];omega
 obtain ⟨s,hs⟩:∃s,s=bC l:=⟨_,rfl⟩
 rw [←hl,←hs] at TK
 rw [←hl]
 have hss:s.size=n:=by rw [hs,bC_size,hll]
 have HGET:Hid (∀ (p:Nat) (h:p<s.size),l[p]?=some (s[p]'h)):=Hh fun p h=>by
  have e:l=s.data.toList:=by rw [hs,bC_data]
  rw [e,List.getElem?_eq_getElem (by rw [Array.length_toList];exact h)];rfl
 have HLL:=Hh hll
 have hsi:(s.size:Int)=(n:Int):=by omega
 obtain ⟨F,hF⟩:∃F:List UInt8→Int,F=numZ neg:=⟨_,rfl⟩
 have HF:Hid (F []=(if neg then -1 else 0)∧∀l c,bits BinOp.or IntKind.i64 (wrap64 (F l * 256)) ((c:UInt8).toNat:Int)=F (l++[c])):=Hh (by rw [hF];exact ⟨numZ_nil neg,fun l c=>(numZ_snoc neg l c).symm⟩)
 rw [←hF]
 have HSS:=Hh hss
 clear h hl hs hll q hF hss hsi
 go_enter Tryz.func129,Tryz.ntmps129
 cases neg
 all_goals
  go_upto_region 6 with ((with_reducible refine (TK.out).mono ?_);rintro e w1 ⟨rfl,hp1,hg1⟩)
  have HP:=Hh (Ai hp1 hg1)
  clear hp1 hg1
  go_loopw [10,21] (fun vn vi wr=>∃ (j:Nat) (N:Int),vi=.int .i64 (j:Int)∧j≤n∧vn=.int .i64 N∧N=F (l.take j)∧wr=w1) (fun _ vi _=>n - (intOf vi).toNat)
  case atStart=>exact ⟨0,_,rfl,Nat.zero_le _,rfl,HF.out.1.symm,rfl⟩
  case round=>
   obtain ⟨j,N,rfl,hj,rfl,hN,hww⟩:=hrel
   replace hww:=hww.symm
   subst hww
   by_cases hjk:j<n
   ·have hjs:j<s.size:=by rw [HSS.out];exact hjk
    have hjk':(j:Int)<(s.size:Int):=by omega
    have hj0:(0:Int)≤(j:Int):=by omega
    have gj:=HGET.out j hjs
    obtain ⟨cj,hcj⟩:∃cj,cj=s[j]'hjs:=⟨_,rfl⟩
    rw [←hcj] at gj
    have hcj':=hcj.symm
    have hw0:IntKind.i64.wrap (cj.toNat:Int)=(cj.toNat:Int):=IntWalk.i64_in _ (by have:=cj.toNat_lt;omega)
    have hw2:bits BinOp.or IntKind.i64 (wrap64 (N * 256)) (cj.toNat:Int)=F (l.take (j+1)):=by
     rw [hN,HF.out.2,List.take_add_one,gj];rfl
    obtain ⟨N2,hN2⟩:∃N2:Int,N2=F (l.take (j+1)):=⟨_,rfl⟩
    rw [←hN2] at hw2
    have HN2:=Hh hN2
    clear hN hN2 gj hcj
    go_wp2
    go_roundw
    case rel=>exact ⟨j+1,N2,by go_num,by omega,rfl,HN2.out,by first | rfl | trivial⟩
    case measure=>simp [intOf] <;> omega
   ·have hjs:¬ (j:Int)<(s.size:Int):=by have:=HSS.out;omega
    have hje:l.take j=l:=List.take_of_length_le (by have:=HLL.out;omega)
    rw [hje] at hN
    have HN:=Hh hN
    clear hN hje
    go_wp2
    go_ret2
    exact ⟨by rw [HN.out];rfl,HP.out.1,HP.out.2⟩
theorem mnum_no (n:Nat) (neg:Bool) {B g:Nat} {r:List UInt8} (w:World) (h:PrM B w g r) (hr:r.length≤1000000) (q:¬n≤r.length):Calls Tryz.prog 129 #[.pointer (some ⟨g,0,none⟩),.int .i64 (n:Int),.bool neg] w (PMPost B g w (.tuple #[.int .i64 (if neg then -1 else 0),.bool false]) r):=by
 have TK:=Hh (mtake_no n w h hr q)
 obtain ⟨Z,hZ⟩:∃Z:Int,Z=(if neg then -1 else 0):=⟨_,rfl⟩
 rw [←hZ]
 have HZ:=Hh hZ
 clear h q hZ
 go_enter Tryz.func129,Tryz.ntmps129
 cases neg
 all_goals
  go_upto_region 6 with ((with_reducible refine (TK.out).mono ?_);rintro e w1 ⟨rfl,hp1,hg1⟩)
  have HP:=Hh (Ai hp1 hg1)
  clear hp1 hg1
  go_loopw [10,21] (fun vn vi wr=>vi=.int .i64 0∧vn=.int .i64 Z∧wr=w1) (fun _ vi _=>0)
  case atStart=>exact ⟨rfl,by rw [HZ.out];rfl,rfl⟩
  case round=>
   obtain ⟨rfl,rfl,hww⟩:=hrel
   replace hww:=hww.symm
   subst hww
   go_wp2
   go_ret2
   exact ⟨rfl,HP.out.1,HP.out.2⟩
def m1B (r:ScR) (c:Nat):Bool:=decide (((c:Int) - r.first) % 256<r.count)
def m2B (r:ScR) (c:Nat):Bool:=decide (((c:Int) - r.wide) % 256<(r.widths.length:Int))
theorem hd_m1 (j:Nat) (hj:j<7) (c:Nat) (hc:c<256) (h:m1B (scR j) c=true):pCls c=(scR j).kind∧pWid c=0∧pDec c 0=(scR j).least+((c:Int) - (scR j).first) % 256∧(3≤(scR j).kind→0≤(scR j).least):=by
 have:∀j:Fin 7,∀c:Fin 256,m1B (scR j.1) c.1=true→pCls c.1=(scR j.1).kind∧pWid c.1=0∧pDec c.1 0=(scR j.1).least+((c.1:Int) - (scR j.1).first) % 256∧(3≤(scR j.1).kind→0≤(scR j.1).least):=by decide +kernel
 exact this ⟨j,hj⟩ ⟨c,hc⟩ h
theorem hd_m2 (j:Nat) (hj:j<7) (c:Nat) (hc:c<256) (h:m2B (scR j) c=true):pCls c=(scR j).kind∧(scR j).widths.getD (((c:Int) - (scR j).wide) % 256).toNat 0=(pWid c:Int)∧1≤pWid c∧pWid c≤8∧204≤c∧c<224∧((scR j).least<0↔(208≤c∧c≤211))∧(3≤(scR j).kind→pWid c≤4∧¬ (scR j).least<0):=by
 have:∀j:Fin 7,∀c:Fin 256,m2B (scR j.1) c.1=true→pCls c.1=(scR j.1).kind∧(scR j.1).widths.getD (((c.1:Int) - (scR j.1).wide) % 256).toNat 0=(pWid c.1:Int)∧1≤pWid c.1∧pWid c.1≤8∧204≤c.1∧c.1<224∧((scR j.1).least<0↔(208≤c.1∧c.1≤211))∧(3≤(scR j.1).kind→pWid c.1≤4∧¬ (scR j.1).least<0):=by decide +kernel
 exact this ⟨j,hj⟩ ⟨c,hc⟩ h
theorem hd_none (c:Nat) (hc:c<256) (h:∀j,j<7→m1B (scR j) c=false∧m2B (scR j) c=false):¬ (c<128∨224≤c∨c=192∨c=194∨c=195∨(204≤c∧c≤211)∨LnOk c):=by
 have:∀c:Fin 256,(∀j:Fin 7,m1B (scR j.1) c.1=false∧m2B (scR j.1) c.1=false)→¬ (c.1<128∨224≤c.1∨c.1=192∨c.1=194∨c.1=195∨(204≤c.1∧c.1≤211)∨((128≤c.1∧c.1<192)∨c.1=217∨c.1=218∨c.1=219∨c.1=220∨c.1=222)):=by decide +kernel
 exact this ⟨c,hc⟩ fun j=>h j.1 j.2
theorem pDec_wide (c v:Nat) (h1:204≤c) (h2:c<224):pDec c v=(v:Int) - sgE (decide (208≤c∧c≤211)) (pWid c):=by
 obtain rfl | rfl | rfl | rfl | rfl | rfl | rfl | rfl | h:c=204∨c=205∨c=206∨c=207∨c=208∨c=209∨c=210∨c=211∨212≤c:=by omega
 iterate 4 (show (v:Int)=(v:Int) - 0;omega)
 ·rfl
 ·rfl
 ·rfl
 ·rfl
 ·rw [decide_eq_false (by omega)]
  show _=(v:Int) - 0
  unfold pDec
  simp only [show ¬c<128 by omega,show ¬c<144 by omega,show ¬c<160 by omega,show ¬c<192 by omega,show ¬c=195 by omega,show ¬c<208 by omega,show ¬c=208 by omega,show ¬c=209 by omega,show ¬c=210 by omega,show ¬c=211 by omega,h2,↓reduceIte]
  omega
theorem mhd_at {c:UInt8} {r1:List UInt8} {d:Nat} {y:ND} {t:List UInt8} (hv:validN (d+1) y=true) (hn:numsB (d+1) y=true) (he:c::r1=headP (pHd y) (pVal y)++t):pCls c.toNat=y.kind∧r1=bigL (pVal y) (pWid c.toNat)++t∧pDec c.toNat (pVal y % 256 ^ pWid c.toNat)=pPay y:=by
 obtain ⟨a1,a2,a3,a4⟩:=head_ok hv hn
 unfold headP at he
 rw [List.cons_append] at he
 obtain ⟨h1,h2⟩:=List.cons.inj he
 have h3:c.toNat=(pHd y).1:=by rw [h1,UInt8.toNat_ofNat'];omega
 rw [h3,a3]
 exact ⟨a2,h2,a4⟩
theorem mhd_nil (k z:Int) (r:List UInt8):MHd [] false k z r:=fun d y t hv hn he=>by unfold headP at he;cases he
theorem mhd_m1 {c:UInt8} {r1:List UInt8} {j:Nat} (hj:j<7) (h:m1B (scR j) c.toNat=true):MHd (c::r1) true (scR j).kind ((scR j).least+((c.toNat:Int) - (scR j).first) % 256) r1:=fun d y t hv hn he=>by
 obtain ⟨h1,h2,h3,-⟩:=hd_m1 j hj c.toNat c.toNat_lt h
 obtain ⟨g1,g2,g3⟩:=mhd_at hv hn he
 rw [h2] at g2 g3
 rw [Nat.pow_zero,Nat.mod_one] at g3
 exact ⟨rfl,by rw [←h1,g1],by rw [←h3,g3],g2⟩
theorem mhd_m2 {c:UInt8} {r1:List UInt8} {j:Nat} (hj:j<7) (h:m2B (scR j) c.toNat=true):MHd (c::r1) true (scR j).kind (numZ (decide ((scR j).least<0)) (r1.take (pWid c.toNat))) (r1.drop (pWid c.toNat))∧(¬pWid c.toNat≤r1.length→∀k z r',MHd (c::r1) false k z r'):=by
 obtain ⟨h1,-,-,-,h4,h5,h6,-⟩:=hd_m2 j hj c.toNat c.toNat_lt h
 refine ⟨fun d y t hv hn he=>?_,fun hs k z r' d y t hv hn he=>?_⟩
 ·obtain ⟨g1,g2,g3⟩:=mhd_at hv hn he
  have hb:(bigL (pVal y) (pWid c.toNat)).length=pWid c.toNat:=bigL_length _ _
  obtain ⟨-,-,-,-,-,i1,i2⟩:=sIx_ok hv hn
  have e1:r1.take (pWid c.toNat)=bigL (pVal y) (pWid c.toNat):=by rw [g2,List.take_left' hb]
  refine ⟨rfl,by rw [←h1,g1],?_,by rw [g2,List.drop_left' hb]⟩
  rw [pDec_wide _ _ h4 h5] at g3
  unfold numZ
  rw [e1,hb,bigV_bigL,decide_eq_decide.2 h6,g3]
  unfold wrap64
  omega
 ·obtain ⟨g1,g2,g3⟩:=mhd_at hv hn he
  have hb:(bigL (pVal y) (pWid c.toNat)).length=pWid c.toNat:=bigL_length _ _
  rw [g2,Lg,hb] at hs
  omega
theorem mhd_none {c:UInt8} {r1:List UInt8} (h:∀j,j<7→m1B (scR j) c.toNat=false∧m2B (scR j) c.toNat=false) (k z:Int) (r:List UInt8):MHd (c::r1) false k z r:=fun d y t hv hn he=>by
 have h1:=hd_none c.toNat c.toNat_lt h
 have h2:(writeP (d+1) y)[0]?=some c:=by
  unfold headP at he
  rw [List.cons_append] at he
  rw [writeP_succ,(List.cons.inj he).1]
  rfl
 exact absurd ⟨hv,hn,by rw [List.drop_zero,List.append_nil]⟩ (mfirst (d:=d) h2 h1 y [])
def MHdPost (B g:Nat) (r:List UInt8) (w:World) (e:Ending) (w':World):Prop:=∃ (k z:Int) (ok:Bool) (r':List UInt8),e=.returned (.tuple #[.int .i64 k,.int .i64 z,.bool ok])∧PrM B w' g r'∧w.grownBy w' (some g)∧wideI z=true∧(ok=true→0≤k∧k≤5∧(3≤k→0≤z∧z<4294967296))∧r'.length≤r.length∧(ok=true→r'.length<r.length)∧MHd r ok k z r'
theorem kind_ok:∀j,j<7→0≤(scR j).kind∧(scR j).kind≤5:=by
 have:∀j:Fin 7,0≤(scR j.1).kind∧(scR j.1).kind≤5:=by decide
 exact fun j hj=>this ⟨j,hj⟩
theorem mhead_nil {B g:Nat} (w:World) (h:PrM B w g []):Calls Tryz.prog 109 #[.pointer (some ⟨g,0,none⟩)] w (MHdPost B g [] w):=by
 have TK:=Hh (mtake_no 1 w h (by simp) (by simp))
 rw [show ((1:Nat):Int)=1 from rfl] at TK
 clear h
 go_enter Tryz.func109,Tryz.ntmps109
 go_wp2_with (go_at_call 110;(with_reducible refine (TK.out).mono ?_);rintro e w1 ⟨rfl,hp1,hg1⟩)
 refine bodyPost_ret (v:=.tuple #[.int .i64 0,.int .i64 0,.bool false]) (by simp [results,Tryz.results109,go_sem]) rfl ?_
 exact ⟨0,0,false,[],rfl,hp1,hg1,by decide,(fun h=>by cases h),Lr _,(fun h=>by cases h),mhd_nil _ _ _⟩
theorem mhead_cons {B g:Nat} (c:UInt8) (r1:List UInt8) (w:World) (h:PrM B w g (c::r1)) (hr:r1.length≤900000):Calls Tryz.prog 109 #[.pointer (some ⟨g,0,none⟩)] w (MHdPost B g (c::r1) w):=by
 have hgw:=h.lt
 have TK:=Hh (mtake_yes 1 w h (by simp;omega) (by simp))
 rw [show ((1:Nat):Int)=1 from rfl,show (c::r1).take 1=[c] from rfl,show (c::r1).drop 1=r1 from rfl] at TK
 obtain ⟨S,hS⟩:∃S,S=bC [c]:=⟨_,rfl⟩
 rw [←hS] at TK
 have hs1:S.size=1:=by rw [hS];rfl
 have h0:0<S.size:=by omega
 have hc0:S[0]'h0=c:=by subst hS;rfl
 have hz1:(0:Int)<(S.size:Int):=by omega
 clear h hS
 go_enter Tryz.func109,Tryz.ntmps109
 go_upto_region 4 with ((with_reducible refine (TK.out).mono ?_);rintro e w1 ⟨rfl,hp1,hg1⟩)
 obtain ⟨v,hsv⟩:=id hp1.2.1
 have hi:=infoScl v
 have HX:=Hh (scl_index v)
 have HC:Hid (∀j u,(scAll v)[j]?=some u→w1.cell? ⟨2,j,none⟩=some u):=Hh hsv.2.2.1
 obtain ⟨A,hA⟩:∃A,A=scAll v:=⟨_,rfl⟩
 rw [←hA] at HX HC hi
 have HP:=Hh (Ai hp1 hg1)
 have SV:=Hh hsv
 have HW1:=Hh hp1.lt
 clear hA hp1 hg1 hsv TK
 go_upto_region 5 with (refine mp_ldc rfl 156 (.global 2) rfl 2 rfl A HC.out _ Tryz.underlying156 rfl hi ?_)
 go_loopw [22] (fun i wr=>∃j:Nat,j≤7∧i=.int .i64 (j:Int)∧(∀i,i<j→m1B (scR i) c.toNat=false∧m2B (scR i) c.toNat=false)∧Below w1.heap.size w1 wr) (fun i _=>7 - (intOf i).toNat)
 case atStart=>exact ⟨0,by omega,rfl,(fun i hi=>absurd hi (Nat.not_lt_zero _)),Br _ _⟩
 case round=>
  obtain ⟨j,hj,rfl,hno,hbr⟩:=hrel
  by_cases hlt:j<7
  ·have hj7:(j:Int)<7:=by omega
   have hix:=HX.out j hlt
   obtain ⟨ao,cap,hvj,hcap,hcells⟩:=SV.out.2.2.2 j hlt
   have hrow:=row_ok j hlt
   have hkd:=kind_ok j hlt
   have hD1:m1B (scR j) c.toNat=true→MHd (c::r1) true (scR j).kind ((scR j).least+((c.toNat:Int) - (scR j).first) % 256) r1∧(3≤(scR j).kind→0≤(scR j).least):=fun h=>⟨mhd_m1 hlt h,(hd_m1 j hlt c.toNat c.toNat_lt h).2.2.2⟩
   have hD2:m2B (scR j) c.toNat=true→((scR j).widths.getD (((c.toNat:Int) - (scR j).wide) % 256).toNat 0=(pWid c.toNat:Int)∧pWid c.toNat≤8∧(3≤(scR j).kind→pWid c.toNat≤4∧¬ (scR j).least<0))∧MHd (c::r1) true (scR j).kind (numZ (decide ((scR j).least<0)) (r1.take (pWid c.toNat))) (r1.drop (pWid c.toNat))∧(¬pWid c.toNat≤r1.length→∀k z r',MHd (c::r1) false k z r'):=fun h=>by
    obtain ⟨-,e1,-,e2,-,-,-,e3⟩:=hd_m2 j hlt c.toNat c.toNat_lt h
    exact ⟨⟨e1,e2,e3⟩,mhd_m2 hlt h⟩
   have hno':m1B (scR j) c.toNat=false→m2B (scR j) c.toNat=false→∀i,i<j+1→m1B (scR i) c.toNat=false∧m2B (scR i) c.toNat=false:=fun h1 h2 i hi=>by
    rcases Nat.lt_or_ge i j with h | h
    ·exact hno i h
    ·obtain rfl:i=j:=by omega
     exact ⟨h1,h2⟩
   unfold scC at hix
   rw [hvj] at hix
   obtain ⟨r,hr⟩:∃r,r=scR j:=⟨_,rfl⟩
   rw [←hr] at hix hrow hkd hD1 hD2 hno' hcap hcells
   have HNO:=Hh hno'
   clear hno hno' hvj hr
   obtain ⟨K,L,C,F,W,ws⟩:=r
   obtain ⟨hw,hwl,f0,f1,u0,u1,l0,l1,cc0,cc1⟩:=hrow
   dsimp only at hw hwl f0 f1 u0 u1 l0 l1 cc0 cc1 hix hkd hD1 hD2 hcap hcells
   have hcl:=c.toNat_lt
   obtain ⟨A1,hA1⟩:∃A1:Int,A1=((c.toNat:Int) - F) % 256:=⟨_,rfl⟩
   obtain ⟨A2,hA2⟩:∃A2:Int,A2=((c.toNat:Int) - W) % 256:=⟨_,rfl⟩
   have e1:m1B ⟨K,L,C,F,W,ws⟩ c.toNat=decide (A1<C):=by unfold m1B;rw [hA1]
   have e2:m2B ⟨K,L,C,F,W,ws⟩ c.toNat=decide (A2<(ws.length:Int)):=by unfold m2B;rw [hA2]
   rw [←hA1] at hD1
   rw [←hA2] at hD2
   rw [e1] at hD1 HNO
   rw [e2] at hD2 HNO
   have a10:0≤A1:=by omega
   have a11:A1≤255:=by omega
   have a20:0≤A2:=by omega
   have a21:A2≤255:=by omega
   have bA:=hbr.alloc (o:=.cells #[.int .i64 K,.int .i64 L,.int .i64 C,.int .u8 F,.int .u8 W,.slice ao ws.length cap] 155) hbr.size
   have kA:=Hn wr (.cells #[.int .i64 K,.int .i64 L,.int .i64 C,.int .u8 F,.int .u8 W,.slice ao ws.length cap] 155)
   have hw8:IntKind.u8.wrap ((c.toNat:Int) - F)=A1:=by rw [IntKind.wrap_u8,hA1]
   have hw9:IntKind.u8.wrap ((c.toNat:Int) - W)=A2:=by rw [IntKind.wrap_u8,hA2]
   have HD:=Hh (Ai hD1 hD2)
   have HWS:=Hh (Ai hw hcells)
   have hwl4:(ws.length:Int)≤4:=by omega
   clear hD1 hD2 e1 e2 hw hcells hA1 hA2 hcl hcap hwl
   go_upto_region 7 with fail
   generalize wr.alloc _=wa at bA kA ⊢
   have qa:=six_of kA
   have BA:=Hh bA
   have KA:=Hh kA
   have HBRR:=Hh hbr
   clear bA kA hbr
   go_quiet (fail)
   have ba:=bdrewN BA.out nq
   have ka:(wa.drewN nq).heap[wr.heap.size]?=some (.cells #[.int .i64 K,.int .i64 L,.int .i64 C,.int .u8 F,.int .u8 W,.slice ao ws.length cap] 155 (0,0)):=KA.out
   clear BA KA qa
   generalize wa.drewN nq=wb at ba ka ⊢
   have qb:=six_of ka
   by_cases h1:A1<C
   ·obtain ⟨hm1,hk3⟩:=HD.out.1 (decide_eq_true h1)
    have hla:IntKind.i64.wrap (L+A1)=L+A1:=IntWalk.i64_in _ (by omega)
    have F:=Hh (Ai hm1 hk3)
    have BB:=Hh ba
    clear hm1 hk3 ba ka
    go_upto_region 9 with fail
    go_quiet (fail)
    have bb:=bdrewN BB.out nq
    go_wp2
    refine bodyPost_ret (v:=.tuple #[.int .i64 K,.int .i64 (L+A1),.bool true]) (by simp [results,Tryz.results109,go_sem]) rfl ?_
    exact ⟨K,L+A1,true,r1,rfl,HP.out.1.below bb,gtrans HP.out.2 (grown_of_below bb (Lr _) _),by unfold wideI;rw [Bool.and_eq_true,decide_eq_true_eq,decide_eq_true_eq];omega,fun _=>⟨hkd.1,hkd.2,fun h=>by have:=F.out.2 h;omega⟩,by simp,fun _=>by simp,F.out.1⟩
   ·have hd1:=decide_eq_false h1
    rw [hd1] at HNO
    have HN1:=Hh (HNO.out rfl)
    have BB:=Hh ba
    have KB:=Hh ka
    clear HNO hd1 ba ka
    go_upto_region 10 with fail
    go_quiet (fail)
    have ba:=bdrewN BB.out nq
    have ka:(wb.drewN nq).heap[wr.heap.size]?=some (.cells #[.int .i64 K,.int .i64 L,.int .i64 C,.int .u8 F,.int .u8 W,.slice ao ws.length cap] 155 (0,0)):=KB.out
    clear BB KB qb
    generalize wb.drewN nq=wc at ba ka ⊢
    have qc:=six_of ka
    by_cases h2:A2<(ws.length:Int)
    ·obtain ⟨a,rfl⟩:∃a:Nat,A2=(a:Int):=⟨A2.toNat,by omega⟩
     obtain ⟨⟨hge,hk8,hk3⟩,hyes,hnot⟩:=HD.out.2 (decide_eq_true h2)
     rw [Int.toNat_natCast] at hge
     obtain ⟨b,off,rfl,hb,hcell⟩:=HWS.out.2 a (by omega)
     obtain ⟨kn,hkn⟩:∃kn,kn=pWid c.toNat:=⟨_,rfl⟩
     rw [←hkn] at hge hk8 hk3 hyes hnot
     rw [hge] at hcell
     obtain ⟨bk,hbk⟩:∃bk,bk=wr.heap.size:=⟨_,rfl⟩
     rw [←hbk] at ka qc ⊢
     have hpc:=HP.out.1.below ba
     have hBg:=hpc.2.2
     have hgc:g<wc.heap.size:=hpc.lt
     have hcc:wc.cell? ⟨b,off+a,none⟩=some (.int .i64 (kn:Int)):=(ba.cell (p:=⟨b,off+a,none⟩) (by show b<_;have:=HW1.out;omega)).trans hcell
     have NG:=Hh (fun wx=>sneg_any K L C F W (some ⟨b,off,none⟩) ws.length cap wx)
     have hbkl:=lt_of_block ka
     have hgk:g<bk:=by rw [hbk];exact (HP.out.1.below (show Below w1.heap.size w1 wr from HBRR.out)).lt
     have hbl:b<wc.heap.size:=by omega
     have HPC:=Hh hpc
     have HGC:=Hh (gtrans HP.out.2 (grown_of_below ba (Lr _) (some g)))
     have HK3:=Hh hk3
     have hki:(kn:Int)≤8:=by omega
     have KD0:=Hh ka
     clear hge hk3 hkn hpc hcell ba HD HWS ka HN1
     clear hbk
     go_upto_region 12 with fail
     have cd:(wc.drew.cell? ⟨bk,0,none⟩=some (.int .i64 K)∧wc.drew.cell? ⟨bk,1,none⟩=some (.int .i64 L)∧wc.drew.cell? ⟨bk,2,none⟩=some (.int .i64 C)∧wc.drew.cell? ⟨bk,3,none⟩=some (.int .u8 F)∧wc.drew.cell? ⟨bk,4,none⟩=some (.int .u8 W)∧wc.drew.cell? ⟨bk,5,none⟩=some (.slice (some ⟨b,off,none⟩) ws.length cap))∧wc.drew.cell? ⟨b,off+a,none⟩=some (.int .i64 (kn:Int)):=⟨qc,hcc⟩
     have hbd:Below wc.heap.size wc wc.drew:=(Br _ _).drew
     refine wp_region_plan (fun w'=>(w'.cell? ⟨bk,0,none⟩=some (.int .i64 K)∧w'.cell? ⟨bk,1,none⟩=some (.int .i64 L)∧w'.cell? ⟨bk,2,none⟩=some (.int .i64 C)∧w'.cell? ⟨bk,3,none⟩=some (.int .u8 F)∧w'.cell? ⟨bk,4,none⟩=some (.int .u8 W)∧w'.cell? ⟨bk,5,none⟩=some (.slice (some ⟨b,off,none⟩) ws.length cap))∧w'.cell? ⟨b,off+a,none⟩=some (.int .i64 (kn:Int))) [4,7,8] (.take 0 (.take 1 (.take 2 (.take 3 (.take 4 (.take 5 (.take 6 (.take 7 (.take 8 (.ask 9 true (.ask 10 false (.take 11 (.take 12 (.take 13 (.take 14 (.take 15 .stop))))) .stop) .stop)))))))))) (by kernel_rfl) (by kernel_rfl) (fun _ d _ _ _ h=>by cases d <;> exact h) ⟨qc,hcc⟩ ?_
     clear qc hcc
     have hzd:bk<wc.drew.heap.size∧b<wc.drew.heap.size:=⟨hbkl,hbl⟩
     have kd:wc.drew.heap[bk]?=some (.cells #[.int .i64 K,.int .i64 L,.int .i64 C,.int .u8 F,.int .u8 W,.slice (some ⟨b,off,none⟩) ws.length cap] 155 (0,0)):=KD0.out
     have hbg:bk ≠ g:=(Nat.ne_of_gt hgk)
     generalize wc.drew=wd at cd hbd hzd kd ⊢
     have HKD:=Hh kd
     clear kd
     refine take_any _ ?_ rfl rfl ?_ (fun K hK=>?_);rotate_left;(intro w0;go_simp;(try rfl));(go_simp;refine hK _ ?_;clear hK K)
     refine take_any _ ?_ rfl rfl ?_ (fun K hK=>?_);rotate_left;(intro w0;go_simp;(try rfl));(go_simp;refine hK _ ?_;clear hK K)
     refine take_any _ ?_ rfl rfl ?_ (fun K hK=>?_);rotate_left;(intro w0;go_simp;(try rfl));(go_simp;refine hK _ ?_;clear hK K)
     refine take_any _ ?_ rfl rfl ?_ (fun K hK=>?_);rotate_left;(intro w0;go_simp;(try rfl));(go_simp;refine hK _ ?_;clear hK K)
     refine take_held _ ?_ rfl rfl (by decide) ?_ (fun K hK=>?_);rotate_left;(intro w0 hw0;obtain ⟨⟨s0,s1,s2,s3,s4,s5⟩,s6⟩:=hw0;go_simp;(try rfl));(go_simp;refine hK _ ?_;clear hK K)
     refine take_any _ ?_ rfl rfl ?_ (fun K hK=>?_);rotate_left;(intro w0;go_simp;(try rfl));(go_simp;refine hK _ ?_;clear hK K)
     refine take_any _ ?_ rfl rfl ?_ (fun K hK=>?_);rotate_left;(intro w0;go_simp;(try rfl));(go_simp;refine hK _ ?_;clear hK K)
     refine take_held _ ?_ rfl rfl (by decide) ?_ (fun K hK=>?_);rotate_left;(intro w0 hw0;obtain ⟨⟨s0,s1,s2,s3,s4,s5⟩,s6⟩:=hw0;go_simp;(try rfl));(go_simp;refine hK _ ?_;clear hK K)
     refine take_held _ ?_ rfl rfl (by decide) ?_ (fun K hK=>?_);rotate_left;(intro w0 hw0;obtain ⟨⟨s0,s1,s2,s3,s4,s5⟩,s6⟩:=hw0;go_simp;(try rfl));(go_simp;refine hK _ ?_;clear hK K)
     have CD:=Hh (fun (wx:World) (hb:Below wd.heap.size wd wx)=>(show (wx.cell? ⟨bk,0,none⟩=some (.int .i64 K)∧wx.cell? ⟨bk,1,none⟩=some (.int .i64 L)∧wx.cell? ⟨bk,2,none⟩=some (.int .i64 C)∧wx.cell? ⟨bk,3,none⟩=some (.int .u8 F)∧wx.cell? ⟨bk,4,none⟩=some (.int .u8 W)∧wx.cell? ⟨bk,5,none⟩=some (.slice (some ⟨b,off,none⟩) ws.length cap))∧wx.cell? ⟨b,off+a,none⟩=some (.int .i64 (kn:Int)) from ⟨⟨(hb.cell (p:=⟨bk,0,none⟩) hzd.1).trans cd.1.1,(hb.cell (p:=⟨bk,1,none⟩) hzd.1).trans cd.1.2.1,(hb.cell (p:=⟨bk,2,none⟩) hzd.1).trans cd.1.2.2.1,(hb.cell (p:=⟨bk,3,none⟩) hzd.1).trans cd.1.2.2.2.1,(hb.cell (p:=⟨bk,4,none⟩) hzd.1).trans cd.1.2.2.2.2.1,(hb.cell (p:=⟨bk,5,none⟩) hzd.1).trans cd.1.2.2.2.2.2⟩,(hb.cell (p:=⟨b,off+a,none⟩) hzd.2).trans cd.2⟩))
     have HBD:=Hh hbd
     clear cd hzd hbd
     refine ask_step _ rfl trivial ?_;go_wp2_with (go_at_call 116;(with_reducible refine (NG.out _).mono ?_);rintro e w3 ⟨rfl,hb3⟩);refine Seg.mk ⟨CD.out _ hb3,?_⟩
     have hbd3:=HBD.out.trans (hb3.mono HBD.out.size)
     have hp3:=HPC.out.below hbd3
     have k3:=(hb3.block _ (lt_of_block HKD.out)).trans HKD.out
     have hg3:=gtrans HGC.out (grown_of_below hbd3 (Lr _) (some g))
     clear hb3 hbd3
     by_cases hq:kn≤r1.length
     ·have N2:=Hh (mnum_yes kn (decide (L<0)) w3 hp3 (by omega) hq (by omega))
      have HM:=Hh hyes
      have HZ:=Hh (numZ_wide (decide (L<0)) (r1.take kn))
      have hz3:3≤K→0≤numZ (decide (L<0)) (r1.take kn)∧numZ (decide (L<0)) (r1.take kn)<4294967296:=fun h3=>by
       obtain ⟨h4,h5⟩:=HK3.out h3
       rw [decide_eq_false (by omega)]
       have h6:=bigV_take r1 kn h4
       unfold numZ
       rw [show sgE false (r1.take kn).length=0 from rfl]
       unfold wrap64
       omega
      have HZ3:=Hh hz3
      obtain ⟨Z,hZ⟩:∃Z,Z=numZ (decide (L<0)) (r1.take kn):=⟨_,rfl⟩
      rw [←hZ] at N2 HM HZ HZ3
      clear hz3 hyes hnot hp3 hZ
      refine ask_late _ rfl trivial ?_;go_wp2_with (go_at_call 129;(with_reducible refine (N2.out).mono ?_);rintro e w4 ⟨rfl,hp4,hg4⟩);refine Seg.mk ?_
      have HP4:=Hh (Ai hp4 (gtrans hg3 hg4))
      have s4:=cell_blk (keepG hg4 hbg k3) (j:=0) rfl
      clear hp4 hg4 hg3 k3
      refine take_any _ ?_ rfl rfl ?_ (fun K hK=>?_);rotate_left;(intro w0;go_simp;(try rfl));(go_simp;refine hK _ ?_;clear hK K)
      refine take_any _ ?_ rfl rfl ?_ (fun K hK=>?_);rotate_left;(intro w0;go_simp;(try rfl));(go_simp;refine hK _ ?_;clear hK K)
      refine take_any _ ?_ rfl rfl ?_ (fun K hK=>?_);rotate_left;(intro w0;go_simp;(try rfl));(go_simp;refine hK _ ?_;clear hK K)
      refine take_any _ ?_ rfl rfl ?_ (fun K hK=>?_);rotate_left;(intro w0;go_simp;(try rfl));(go_simp;refine hK _ ?_;clear hK K)
      refine take_any _ ?_ rfl rfl ?_ (fun K hK=>?_);rotate_left;(intro w0;go_simp;(try rfl));(go_simp;refine hK _ ?_;clear hK K)
      unfold wpPlan
      go_wp2
      refine bodyPost_ret (v:=.tuple #[.int .i64 K,.int .i64 Z,.bool true]) (by simp [results,Tryz.results109,go_sem]) rfl ?_
      exact ⟨K,Z,true,r1.drop kn,rfl,HP4.out.1,HP4.out.2,HZ.out,fun _=>⟨hkd.1,hkd.2,HZ3.out⟩,by rw [List.length_drop,List.length_cons];omega,fun _=>by rw [List.length_drop,List.length_cons];omega,HM.out⟩
     ·have N2:=Hh (mnum_no kn (decide (L<0)) w3 hp3 (by omega) hq)
      obtain ⟨Z,hZ⟩:∃Z:Int,Z=(if decide (L<0) then -1 else 0):=⟨_,rfl⟩
      rw [←hZ] at N2
      have HM:=Hh (hnot hq)
      have HZ:Hid (wideI Z=true):=Hh (by rw [hZ];split <;> decide)
      clear hyes hnot hp3 hZ
      refine ask_late _ rfl trivial ?_;go_wp2_with (go_at_call 129;(with_reducible refine (N2.out).mono ?_);rintro e w4 ⟨rfl,hp4,hg4⟩);refine Seg.mk ?_
      have HP4:=Hh (Ai hp4 (gtrans hg3 hg4))
      have s4:=cell_blk (keepG hg4 hbg k3) (j:=0) rfl
      clear hp4 hg4 hg3 k3
      refine take_any _ ?_ rfl rfl ?_ (fun K hK=>?_);rotate_left;(intro w0;go_simp;(try rfl));(go_simp;refine hK _ ?_;clear hK K)
      refine take_any _ ?_ rfl rfl ?_ (fun K hK=>?_);rotate_left;(intro w0;go_simp;(try rfl));(go_simp;refine hK _ ?_;clear hK K)
      refine take_any _ ?_ rfl rfl ?_ (fun K hK=>?_);rotate_left;(intro w0;go_simp;(try rfl));(go_simp;refine hK _ ?_;clear hK K)
      refine take_any _ ?_ rfl rfl ?_ (fun K hK=>?_);rotate_left;(intro w0;go_simp;(try rfl));(go_simp;refine hK _ ?_;clear hK K)
      refine take_any _ ?_ rfl rfl ?_ (fun K hK=>?_);rotate_left;(intro w0;go_simp;(try rfl));(go_simp;refine hK _ ?_;clear hK K)
      unfold wpPlan
      go_wp2
      refine bodyPost_ret (v:=.tuple #[.int .i64 K,.int .i64 Z,.bool false]) (by simp [results,Tryz.results109,go_sem]) rfl ?_
      exact ⟨K,Z,false,r1,rfl,HP4.out.1,HP4.out.2,HZ.out,(fun h=>by cases h),by simp,(fun h=>by cases h),HM.out _ _ _⟩
    ·have hd2:=decide_eq_false h2
     rw [hd2] at HN1
     have BB:=Hh ba
     clear ba ka hd2
     go_wp2
     go_roundw
     case rel=>exact ⟨j+1,by omega,by go_num,HN1.out rfl,BB.out⟩
     case measure=>simp [intOf] <;> omega
  ·have hje:j=7:=by omega
   subst hje
   have HN:=Hh hno
   clear hno
   go_wp2
   refine bodyPost_ret (v:=.tuple #[.int .i64 0,.int .i64 0,.bool false]) (by simp [results,Tryz.results109,go_sem]) rfl ?_
   exact ⟨0,0,false,r1,rfl,HP.out.1.below hbr,gtrans HP.out.2 (grown_of_below hbr (Lr _) _),by decide,(fun h=>by cases h),by simp,(fun h=>by cases h),mhd_none HN.out _ _ _⟩
theorem mhead_any {B g:Nat} {r:List UInt8} (w:World) (h:PrM B w g r) (hr:r.length≤900000):Calls Tryz.prog 109 #[.pointer (some ⟨g,0,none⟩)] w (MHdPost B g r w):=by
 cases r with
 | nil=>exact mhead_nil w h
 | cons c r1=>exact mhead_cons c r1 w h (by simp at hr;omega)
end Go.Proofs.YtdppdonaojdceaaGreatDoor