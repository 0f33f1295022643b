/- The program's cursor: take, number, head; and a parser's name. Then: The program's parser: the name of an item. -/
import Derived.Test.YtdppdonaojdceaaGreatDoorCpm
import Derived.Test.YtdppdonaojdceaaGreatDoorCrv
set_option linter.unusedVariables false
set_option linter.unusedSimpArgs false
set_option maxHeartbeats 3200000
set_option maxRecDepth 100000
namespace Go.Proofs.YtdppdonaojdceaaGreatDoor
open Go Go.Maps Go.ChangeShapes Go.WideShapes Go.ChangeAt Go.RowKit
theorem bC_extract (l:List UInt8) (a b:Nat):(bC l).extract a b=bC ((l.drop a).take (b - a)):=by
 apply ByteArray.ext
 apply Array.toList_inj.1
 rw [ByteArray.data_extract,Array.toList_extract]
 simp [bC,List.extract]
theorem bC_head (l:List UInt8) (n:Nat):(bC l).extract 0 n=bC (l.take n):=by rw [bC_extract];simp
theorem bC_tail (l:List UInt8) (n:Nat):(bC l).extract n (bC l).size=bC (l.drop n):=by
 rw [bC_extract,bC_size,List.take_of_length_le (by simp)]
def PrC (w:World) (g m:Nat) (r:List UInt8):Prop:=w.heap[g]?=some (.cells #[.string (bC r),.map (some m)] 98 (0,0))∧Heads w m∧m<g
theorem PrC.lt {w:World} {g m:Nat} {r:List UInt8} (h:PrC w g m r):g<w.heap.size:=lt_of_block h.1
theorem PrC.below {w w':World} {g m:Nat} {r:List UInt8} (h:PrC w g m r) (hb:Below w.heap.size w w'):PrC w' g m r:=by
 obtain ⟨h1,h2,h3⟩:=h
 exact ⟨(hb.block g (lt_of_block h1)).trans h1,h2.same (hb.block _ h2.lt),h3⟩
theorem PrC.kept {w w':World} {g m b:Nat} {r:List UInt8} (h:PrC w g m r) (hg:w.grownBy w' (some b)) (hb:g<b):PrC w' g m r:=by
 obtain ⟨h1,h2,h3⟩:=h
 exact ⟨keepG hg (by omega) h1,h2.same (hg.block _ h2.lt (by intro e;have:=Option.some.inj e;omega)),h3⟩
theorem PrC.set {w:World} {g m:Nat} {r:List UInt8} (h:PrC w g m r) (r':List UInt8):PrC (w.setCell ⟨g,0,none⟩ (.string (bC r'))) g m r'∧w.grownBy (w.setCell ⟨g,0,none⟩ (.string (bC r'))) (some g):=by
 obtain ⟨h1,h2,h3⟩:=h
 have k:=heap_set h1 (j:=0) (.string (bC r'))
 have hg:=grown_set w g 0 (.string (bC r'))
 exact ⟨⟨by simpa using k,h2.same (heap_setCell_other w ⟨g,0,none⟩ _ _ (by show m ≠ g;omega)),h3⟩,hg⟩
def PCPost (g m:Nat) (w:World) (v:Value) (r':List UInt8) (e:Ending) (w':World):Prop:=e=.returned v∧PrC w' g m r'∧w.grownBy w' (some g)
theorem ctake_yes (n:Nat) {g m:Nat} {r:List UInt8} (w:World) (h:PrC w g m r) (hr:r.length≤1000000) (q:n≤r.length):Calls Tryz.prog 107 #[.pointer (some ⟨g,0,none⟩),.int .u64 (n:Int)] w (PCPost g m w (.tuple #[.string (bC (r.take n)),.bool true]) (r.drop n)):=by
 have c0:w.cell? ⟨g,0,none⟩=some (.string (bC r)):=cell_blk h.1 rfl
 have f0:w.frozen? ⟨g,0,none⟩=false:=free_blk h.1
 have hz:=bC_size r
 have hw:IntKind.u64.wrap ((bC r).size:Int)=((bC r).size:Int):=by rw [IntKind.wrap_u64];omega
 have q1:(n:Int)≤((bC r).size:Int):=by omega
 have q2:¬ ((bC r).size:Int)<(n:Int):=by omega
 have q0:(0:Int)≤(n:Int):=by omega
 have k1:=bC_head r n
 have k2:=bC_tail r n
 have ST:=Hh (h.set (r.drop n))
 clear hz q h
 go_enter Tryz.func107,Tryz.ntmps107
 go_wp2
 go_ret2
 exact ⟨rfl,ST.out.1,ST.out.2⟩
theorem ctake_no (n:Nat) {g m:Nat} {r:List UInt8} (w:World) (h:PrC w g m r) (hr:r.length≤1000000) (q:¬n≤r.length):Calls Tryz.prog 107 #[.pointer (some ⟨g,0,none⟩),.int .u64 (n:Int)] w (PCPost g m w (.tuple #[.string ⟨#[]⟩,.bool false]) r):=by
 have c0:w.cell? ⟨g,0,none⟩=some (.string (bC r)):=cell_blk h.1 rfl
 have hz:=bC_size r
 have hw:IntKind.u64.wrap ((bC r).size:Int)=((bC r).size:Int):=by rw [IntKind.wrap_u64];omega
 have q1:((bC r).size:Int)<(n:Int):=by omega
 have ST:=Hh h
 clear hz q h
 go_enter Tryz.func107,Tryz.ntmps107
 go_wp2
 go_ret2
 exact ⟨rfl,ST.out,grown_of_below (Br _ _) (Lr _) _⟩
theorem cnum_yes (n:Nat) {g m:Nat} {r:List UInt8} (w:World) (h:PrC w g m r) (hr:r.length≤1000000) (q:n≤r.length) (hn:n≤8):Calls Tryz.prog 127 #[.pointer (some ⟨g,0,none⟩),.int .u64 (n:Int)] w (PCPost g m w (.tuple #[.int .u64 (bigV (r.take n):Int),.bool true]) (r.drop n)):=by
 have TK:=Hh (ctake_yes n w h hr q)
 obtain ⟨l,hl⟩:∃l,l=r.take n:=⟨_,rfl⟩
 have hll:l.length=n:=by rw [hl,List.length_take];omega
 obtain ⟨s,hs⟩:∃s,s=bC l:=⟨_,rfl⟩
 rw [←hl,←hs] at TK
 rw [←hl]
 have hss:s.size=n:=by rw [hs,bC_size,hll]
 have HGET:Hid (∀ (p:Nat) (h:p<s.size),l[p]?=some (s[p]'h)):=Hh fun p h=>by
  have e:l=s.data.toList:=by rw [hs,bC_data]
  rw [e,List.getElem?_eq_getElem (by rw [Array.length_toList];exact h)];rfl
 have HLL:=Hh hll
 have hsi:(s.size:Int)=(n:Int):=by omega
 clear h hl hs hll q
 go_enter Tryz.func127,Tryz.ntmps127
 go_upto_region 4 with ((with_reducible refine (TK.out).mono ?_);rintro e w1 ⟨rfl,hp1,hg1⟩)
 have HP:=Hh (Ai hp1 hg1)
 have HSS:=Hh hss
 have HSI:=Hh hsi
 clear hp1 hg1 hss hsi
 go_loopw [8,18] (fun vn vi wr=>∃ (j:Nat) (N:Int),vi=.int .i64 (j:Int)∧j≤n∧vn=.int .u64 N∧N=(bigV (l.take j):Int)∧wr=w1) (fun _ vi _=>n - (intOf vi).toNat)
 case atStart=>exact ⟨0,0,rfl,Nat.zero_le _,rfl,by simp [bigV],rfl⟩
 case round=>
  obtain ⟨j,N,rfl,hj,rfl,hN,hww⟩:=hrel
  replace hww:=hww.symm
  subst hww
  by_cases hjk:j<n
  ·have hjs:j<s.size:=by rw [HSS.out];exact hjk
   have hjk':(j:Int)<(s.size:Int):=by omega
   have hj0:(0:Int)≤(j:Int):=by omega
   have gj:=HGET.out j hjs
   obtain ⟨cj,hcj⟩:∃cj,cj=s[j]'hjs:=⟨_,rfl⟩
   rw [←hcj] at gj
   have hcj':=hcj.symm
   have hb1:=bigV_lt (l.take j)
   have hlj:(l.take j).length=j:=by rw [List.length_take];have:=HLL.out;omega
   rw [hlj] at hb1
   have hb2:(256:Nat) ^ j≤256 ^ 7:=Nat.pow_le_pow_right (by decide) (by omega)
   have h7:(256:Nat) ^ 7=72057594037927936:=by decide
   have hw0:IntKind.u64.wrap (cj.toNat:Int)=(cj.toNat:Int):=by rw [IntKind.wrap_u64];have:=cj.toNat_lt;omega
   have hw1:IntKind.u64.wrap (N * 256)=N * 256:=by rw [IntKind.wrap_u64];omega
   have hw2:bits BinOp.or IntKind.u64 (N * 256) (cj.toNat:Int)=(bigV (l.take (j+1)):Int):=by
    rw [hN,or_low _ _ (by omega) cj.toNat_lt,List.take_add_one,gj]
    show _=((bigV (_++[cj]):Nat):Int)
    rw [bigV_snoc]
   obtain ⟨N2,hN2⟩:∃N2:Int,N2=(bigV (l.take (j+1)):Int):=⟨_,rfl⟩
   rw [←hN2] at hw2
   have HN2:=Hh hN2
   clear hb1 hlj hb2 h7 hN hN2 gj hcj
   go_wp2
   go_roundw
   case rel=>exact ⟨j+1,N2,by go_num,by omega,rfl,HN2.out,by first | rfl | trivial⟩
   case measure=>simp [intOf] <;> omega
  ·have hjs:¬ (j:Int)<(s.size:Int):=by have:=HSS.out;omega
   have hje:l.take j=l:=List.take_of_length_le (by have:=HLL.out;omega)
   rw [hje] at hN
   have HN:=Hh hN
   clear hN hje
   go_wp2
   go_ret2
   exact ⟨by rw [HN.out];rfl,HP.out.1,HP.out.2⟩
theorem cnum_no (n:Nat) {g m:Nat} {r:List UInt8} (w:World) (h:PrC w g m r) (hr:r.length≤1000000) (q:¬n≤r.length):Calls Tryz.prog 127 #[.pointer (some ⟨g,0,none⟩),.int .u64 (n:Int)] w (PCPost g m w (.tuple #[.int .u64 0,.bool false]) r):=by
 have TK:=Hh (ctake_no n w h hr q)
 clear h q
 go_enter Tryz.func127,Tryz.ntmps127
 go_upto_region 4 with ((with_reducible refine (TK.out).mono ?_);rintro e w1 ⟨rfl,hp1,hg1⟩)
 have HP:=Hh (Ai hp1 hg1)
 clear hp1 hg1
 go_loopw [8,18] (fun vn vi wr=>vi=.int .i64 0∧vn=.int .u64 0∧wr=w1) (fun _ vi _=>0)
 case atStart=>exact ⟨rfl,rfl,rfl⟩
 case round=>
  obtain ⟨rfl,rfl,hww⟩:=hrel
  replace hww:=hww.symm
  subst hww
  go_wp2
  go_ret2
  exact ⟨rfl,HP.out.1,HP.out.2⟩
def HdIs (r:List UInt8) (ok:Bool) (m n:Nat) (r':List UInt8):Prop:=∀M N t,M<8→N<18446744073709551616→r=headL M N++t→ok=true∧m=M∧n=N∧r'=t
theorem head_cons {c:UInt8} {r1:List UInt8} {M N:Nat} {t:List UInt8} (hM:M<8) (h:c::r1=headL M N++t):c.toNat / 32=M∧c.toNat % 32=headV N∧r1=bigL N (headK N)++t:=by
 have:=head_first (l:=c::r1) (p:=0) rfl hM (by simpa using h)
 simpa using this
def HdPost (g mb:Nat) (r:List UInt8) (w:World) (e:Ending) (w':World):Prop:=∃ (m n:Nat) (ok:Bool) (r':List UInt8),e=.returned (.tuple #[.agg #[.int .i64 (m:Int),.int .u64 (n:Int)],.bool ok])∧PrC w' g mb r'∧w.grownBy w' (some g)∧m<8∧n<18446744073709551616∧r'.length≤r.length∧(ok=true→r'.length<r.length)∧HdIs r ok m n r'
theorem hd_res {r r':List UInt8} {w wx:World} {g mb m n:Nat} {ok:Bool} (hp:PrC wx g mb r') (hg:w.grownBy wx (some g)) (hgw:g<w.heap.size) (hm:m<8) (hn:n<18446744073709551616) (hl:r'.length≤r.length) (hl2:ok=true→r'.length<r.length) (hI:HdIs r ok m n r') :
 HdPost g mb r w (.returned (.tuple #[.agg #[.int .i64 (m:Int),.int .u64 (n:Int)],.bool ok])) ((wx.setCell ⟨w.heap.size,0,none⟩ (.int .i64 (m:Int))).setCell ⟨w.heap.size,1,none⟩ (.int .u64 (n:Int))):=by
 have hgs:=gtrans (grown_set wx w.heap.size 0 (.int .i64 (m:Int))) (grown_set _ w.heap.size 1 (.int .u64 (n:Int)))
 exact ⟨m,n,ok,r',rfl,hp.kept hgs hgw,grown_new hg hgs (Lr _),hm,hn,hl,hl2,hI⟩
theorem chd_any {g mb:Nat} {r:List UInt8} (w:World) (h:PrC w g mb r) (hr:r.length≤1000000):Calls Tryz.prog 105 #[.pointer (some ⟨g,0,none⟩)] w (HdPost g mb r w):=by
 have hgw:=h.lt
 have bA':=(Br w.heap.size w).alloc (o:=.cells #[.int .i64 0,.int .u64 0] 129) (Lr _)
 have h0:=h.below bA'
 have hr0:=Hn w (.cells #[.int .i64 0,.int .u64 0] 129)
 have hg0:=galloc w (.cells #[.int .i64 0,.int .u64 0] 129) (some g)
 obtain ⟨w0,hw0⟩:∃W,W=w.alloc (.cells #[.int .i64 0,.int .u64 0] 129):=⟨_,rfl⟩
 rw [←hw0] at h0 hr0 hg0
 have HR:=Hh hr0
 have HG:=Hh hg0
 clear h bA' hr0 hg0
 cases r with
 | nil=>
  have N1:=Hh (cnum_no 1 w0 h0 hr (by decide))
  rw [show ((1:Nat):Int)=1 from rfl] at N1
  go_enter Tryz.func105,Tryz.ntmps105
  go_upto_region 1 with fail
  rw [←hw0]
  clear hw0
  go_upto_region 2 with ((with_reducible refine (N1.out).mono ?_);rintro e w1 ⟨rfl,hp1,hg1⟩)
  have k1:=keepG hg1 (by omega) HR.out
  have c1:=two_of k1
  have f1:=free_two k1
  have HP:=Hh (Ai hp1 (gtrans HG.out hg1))
  have K1:=Hh k1
  clear hp1 hg1 k1
  go_wp2
  refine bodyPost_ret (v:=.tuple #[.agg #[.int .i64 0,.int .u64 0],.bool false]) ?_ ?_ ?_
  rotate_left
  ·rfl
  ·exact hd_res (m:=0) (n:=0) HP.out.1 HP.out.2 hgw (by decide) (by decide) (Lr _) (fun h=>by cases h) (fun M N t hM hN hh=>by unfold headL at hh;simp at hh)
  ·have q:=two_put K1.out (.int .i64 0) (.int .u64 0)
   have q0:=q.1
   have q1:=q.2
   simp [results,Tryz.results105,go_sem,q0,q1]
 | cons c r1=>
  have hr1:r1.length≤1000000:=by rw [List.length_cons] at hr;omega
  have N1:=Hh (cnum_yes 1 w0 h0 hr (by rw [List.length_cons];omega) (by decide))
  rw [show ((1:Nat):Int)=1 from rfl,show bigV ((c::r1).take 1)=c.toNat from by simp [bigV],show (c::r1).drop 1=r1 from rfl] at N1
  obtain ⟨v,hv⟩:∃v,v=c.toNat % 32:=⟨_,rfl⟩
  obtain ⟨m,hm⟩:∃m,m=c.toNat / 32:=⟨_,rfl⟩
  have hmi:(c.toNat:Int) / 32=(m:Int):=by omega
  have hvi:(c.toNat:Int) % 32=(v:Int):=by omega
  have hvt:(c.toNat:Int).tmod 32=(v:Int):=by rw [Int.tmod_eq_emod_of_nonneg (by omega)];exact hvi
  have hm8:m<8:=by have:=c.toNat_lt;omega
  have hmw:IntKind.i64.wrap (m:Int)=(m:Int):=IntWalk.i64_in _ (by omega)
  have hv32:v<32:=by omega
  have HF:Hid (∀M N t,M<8→N<18446744073709551616→c::r1=headL M N++t→m=M∧v=headV N∧r1=bigL N (headK N)++t):=Hh fun M N t hM hN hh=>by
   obtain ⟨h1,h2,h3⟩:=head_cons hM hh
   exact ⟨hm.trans h1,hv.trans h2,h3⟩
  clear hv hm h0
  by_cases h24:v<24
  ·have h24':(v:Int)<24:=by omega
   have h27':¬ (27:Int)<(v:Int):=by omega
   have hfin:Hid (HdIs (c::r1) true m v r1):=Hh fun M N t hM hN hh=>by
    obtain ⟨h1,h2,h3⟩:=HF.out M N t hM hN hh
    rcases headV_cases hN with ⟨h4,h5,h6⟩ | ⟨h4,-,-,-⟩
    ·rw [h5] at h3
     exact ⟨rfl,h1,by omega,h3⟩
    ·omega
   go_enter Tryz.func105,Tryz.ntmps105
   go_upto_region 1 with fail
   rw [←hw0]
   clear hw0
   go_upto_region 2 with ((with_reducible refine (N1.out).mono ?_);rintro e w1 ⟨rfl,hp1,hg1⟩)
   have k1:=keepG hg1 (by omega) HR.out
   have c1:=two_of k1
   have f1:=free_two k1
   have HP:=Hh (Ai hp1 (gtrans HG.out hg1))
   have K1:=Hh k1
   clear hp1 hg1 k1
   go_wp2
   refine bodyPost_ret (v:=.tuple #[.agg #[.int .i64 (m:Int),.int .u64 (v:Int)],.bool true]) ?_ ?_ ?_
   rotate_left
   ·rfl
   ·exact hd_res HP.out.1 HP.out.2 hgw hm8 (by omega) (by rw [List.length_cons];omega) (fun _=>by rw [List.length_cons];omega) hfin.out
   ·have q:=two_put K1.out (.int .i64 (m:Int)) (.int .u64 (v:Int))
    have q0:=q.1
    have q1:=q.2
    simp [results,Tryz.results105,go_sem,q0,q1]
  ·have h24':¬ (v:Int)<24:=by omega
   by_cases h27:27<v
   ·have h27':(27:Int)<(v:Int):=by omega
    have hfin:Hid (HdIs (c::r1) false 0 0 r1):=Hh fun M N t hM hN hh=>by
     obtain ⟨-,h2,h3⟩:=HF.out M N t hM hN hh
     rcases headV_cases hN with ⟨h4,-,-⟩ | ⟨-,h5,-,-⟩ <;> omega
    go_enter Tryz.func105,Tryz.ntmps105
    go_upto_region 1 with fail
    rw [←hw0]
    clear hw0
    go_upto_region 2 with ((with_reducible refine (N1.out).mono ?_);rintro e w1 ⟨rfl,hp1,hg1⟩)
    have k1:=keepG hg1 (by omega) HR.out
    have c1:=two_of k1
    have f1:=free_two k1
    have HP:=Hh (Ai hp1 (gtrans HG.out hg1))
    have K1:=Hh k1
    clear hp1 hg1 k1
    go_wp2
    refine bodyPost_ret (v:=.tuple #[.agg #[.int .i64 0,.int .u64 0],.bool false]) ?_ ?_ ?_
    rotate_left
    ·rfl
    ·exact hd_res (m:=0) (n:=0) HP.out.1 HP.out.2 hgw (by decide) (by decide) (by rw [List.length_cons];omega) (fun h=>by cases h) hfin.out
    ·have q:=two_put K1.out (.int .i64 0) (.int .u64 0)
     have q0:=q.1
     have q1:=q.2
     simp [results,Tryz.results105,go_sem,q0,q1]
   ·have h27':¬ (27:Int)<(v:Int):=by omega
    have hv4:v=24∨v=25∨v=26∨v=27:=by omega
    rcases hv4 with hvv | hvv | hvv | hvv
    ·subst hvv
     by_cases hq:1≤r1.length
     ·skip
      have hl1:r1.length ≥ 1:=by omega
      have hfin:Hid (HdIs (c::r1) true m (bigV (r1.take 1)) (r1.drop 1)):=Hh fun M N t hM hN hh=>by
       obtain ⟨h1,h2,h3⟩:=HF.out M N t hM hN hh
       rcases headV_cases hN with ⟨h4,-,-⟩ | ⟨-,-,h5,h6⟩
       ·omega
       ·rw [←h2,show (2:Nat) ^ (24 - 24)=1 by decide] at h5
        rw [h5] at h3 h6
        have h7:(bigL N 1).length=1:=bigL_length _ _
        refine ⟨rfl,h1,?_,?_⟩
        ·rw [h3,List.take_left' h7,bigL_back h6]
        ·rw [h3,List.drop_left' h7]
      have hbv:bigV (r1.take 1)<18446744073709551616:=by
       have h1:=bigV_lt (r1.take 1)
       have h2:(r1.take 1).length≤8:=by rw [List.length_take];omega
       have h3:(256:Nat) ^ (r1.take 1).length≤256 ^ 8:=Nat.pow_le_pow_right (by decide) h2
       have h8:(256:Nat) ^ 8=18446744073709551616:=by decide
       omega
      have N2:=Hh (fun wx (hx:PrC wx g mb r1)=>cnum_yes 1 wx hx hr1 hq (by decide))
      rw [show ((1:Nat):Int)=1 from rfl] at N2
      obtain ⟨NN,hNN⟩:∃N,N=bigV (r1.take 1):=⟨_,rfl⟩
      rw [←hNN] at N2 hfin hbv
      obtain ⟨r2,hr2⟩:∃r2,r2=r1.drop 1:=⟨_,rfl⟩
      have hr2l:r2.length≤r1.length:=by rw [hr2,List.length_drop];omega
      rw [←hr2] at N2 hfin
      clear hNN hr2
      clear hq
      go_enter Tryz.func105,Tryz.ntmps105
      go_upto_region 1 with fail
      rw [←hw0]
      clear hw0
      go_upto_region 2 with ((with_reducible refine (N1.out).mono ?_);rintro e w1 ⟨rfl,hp1,hg1⟩)
      have k1:=keepG hg1 (by omega) HR.out
      have HP1:=Hh (Ai hp1 (gtrans HG.out hg1))
      have HZ1:=Hh hg1.size
      have K1:=Hh k1
      clear hp1 hg1 k1
      go_upto_region 8 with ((with_reducible refine (N2.out _ HP1.out.1).mono ?_);rintro e w2 ⟨rfl,hp2,hg2⟩)
      have k2:=keepG hg2 (by omega) K1.out
      have c2:=two_of k2
      have f2:=free_two k2
      have HP:=Hh (Ai hp2 (gtrans HP1.out.2 hg2))
      have K2:=Hh k2
      clear hp2 hg2 k2
      go_wp2
      refine bodyPost_ret (v:=.tuple #[.agg #[.int .i64 (m:Int),.int .u64 (NN:Int)],.bool true]) ?_ ?_ ?_
      rotate_left
      ·rfl
      ·exact hd_res (m:=m) (n:=NN) HP.out.1 HP.out.2 hgw hm8 hbv (by rw [List.length_cons];omega) (fun _=>by rw [List.length_cons];omega) hfin.out
      ·have q:=two_put K2.out (.int .i64 (m:Int)) (.int .u64 (NN:Int))
       have q0:=q.1
       have q1:=q.2
       simp [results,Tryz.results105,go_sem,q0,q1]
     ·skip
      have hfin:Hid (HdIs (c::r1) false m 0 r1):=Hh fun M N t hM hN hh=>by
       obtain ⟨h1,h2,h3⟩:=HF.out M N t hM hN hh
       exfalso
       rcases headV_cases hN with ⟨h4,-,-⟩ | ⟨-,-,h5,h6⟩
       ·omega
       ·rw [←h2,show (2:Nat) ^ (24 - 24)=1 by decide] at h5
        rw [h5] at h3
        have h7:(bigL N 1).length=1:=bigL_length _ _
        have:=congrArg List.length h3
        rw [Lg,h7] at this
        omega
      have N2:=Hh (fun wx (hx:PrC wx g mb r1)=>cnum_no 1 wx hx hr1 hq)
      rw [show ((1:Nat):Int)=1 from rfl] at N2
      clear hq
      go_enter Tryz.func105,Tryz.ntmps105
      go_upto_region 1 with fail
      rw [←hw0]
      clear hw0
      go_upto_region 2 with ((with_reducible refine (N1.out).mono ?_);rintro e w1 ⟨rfl,hp1,hg1⟩)
      have k1:=keepG hg1 (by omega) HR.out
      have HP1:=Hh (Ai hp1 (gtrans HG.out hg1))
      have HZ1:=Hh hg1.size
      have K1:=Hh k1
      clear hp1 hg1 k1
      go_upto_region 8 with ((with_reducible refine (N2.out _ HP1.out.1).mono ?_);rintro e w2 ⟨rfl,hp2,hg2⟩)
      have k2:=keepG hg2 (by omega) K1.out
      have c2:=two_of k2
      have f2:=free_two k2
      have HP:=Hh (Ai hp2 (gtrans HP1.out.2 hg2))
      have K2:=Hh k2
      clear hp2 hg2 k2
      go_wp2
      refine bodyPost_ret (v:=.tuple #[.agg #[.int .i64 (m:Int),.int .u64 0],.bool false]) ?_ ?_ ?_
      rotate_left
      ·rfl
      ·exact hd_res (m:=m) (n:=0) HP.out.1 HP.out.2 hgw hm8 (by decide) (by rw [List.length_cons];omega) (fun h=>by cases h) hfin.out
      ·have q:=two_put K2.out (.int .i64 (m:Int)) (.int .u64 0)
       have q0:=q.1
       have q1:=q.2
       simp [results,Tryz.results105,go_sem,q0,q1]
    ·subst hvv
     by_cases hq:2≤r1.length
     ·skip
      have hl1:r1.length ≥ 2:=by omega
      have hfin:Hid (HdIs (c::r1) true m (bigV (r1.take 2)) (r1.drop 2)):=Hh fun M N t hM hN hh=>by
       obtain ⟨h1,h2,h3⟩:=HF.out M N t hM hN hh
       rcases headV_cases hN with ⟨h4,-,-⟩ | ⟨-,-,h5,h6⟩
       ·omega
       ·rw [←h2,show (2:Nat) ^ (25 - 24)=2 by decide] at h5
        rw [h5] at h3 h6
        have h7:(bigL N 2).length=2:=bigL_length _ _
        refine ⟨rfl,h1,?_,?_⟩
        ·rw [h3,List.take_left' h7,bigL_back h6]
        ·rw [h3,List.drop_left' h7]
      have hbv:bigV (r1.take 2)<18446744073709551616:=by
       have h1:=bigV_lt (r1.take 2)
       have h2:(r1.take 2).length≤8:=by rw [List.length_take];omega
       have h3:(256:Nat) ^ (r1.take 2).length≤256 ^ 8:=Nat.pow_le_pow_right (by decide) h2
       have h8:(256:Nat) ^ 8=18446744073709551616:=by decide
       omega
      have N2:=Hh (fun wx (hx:PrC wx g mb r1)=>cnum_yes 2 wx hx hr1 hq (by decide))
      rw [show ((2:Nat):Int)=2 from rfl] at N2
      obtain ⟨NN,hNN⟩:∃N,N=bigV (r1.take 2):=⟨_,rfl⟩
      rw [←hNN] at N2 hfin hbv
      obtain ⟨r2,hr2⟩:∃r2,r2=r1.drop 2:=⟨_,rfl⟩
      have hr2l:r2.length≤r1.length:=by rw [hr2,List.length_drop];omega
      rw [←hr2] at N2 hfin
      clear hNN hr2
      clear hq
      go_enter Tryz.func105,Tryz.ntmps105
      go_upto_region 1 with fail
      rw [←hw0]
      clear hw0
      go_upto_region 2 with ((with_reducible refine (N1.out).mono ?_);rintro e w1 ⟨rfl,hp1,hg1⟩)
      have k1:=keepG hg1 (by omega) HR.out
      have HP1:=Hh (Ai hp1 (gtrans HG.out hg1))
      have HZ1:=Hh hg1.size
      have K1:=Hh k1
      clear hp1 hg1 k1
      go_upto_region 8 with ((with_reducible refine (N2.out _ HP1.out.1).mono ?_);rintro e w2 ⟨rfl,hp2,hg2⟩)
      have k2:=keepG hg2 (by omega) K1.out
      have c2:=two_of k2
      have f2:=free_two k2
      have HP:=Hh (Ai hp2 (gtrans HP1.out.2 hg2))
      have K2:=Hh k2
      clear hp2 hg2 k2
      go_wp2
      refine bodyPost_ret (v:=.tuple #[.agg #[.int .i64 (m:Int),.int .u64 (NN:Int)],.bool true]) ?_ ?_ ?_
      rotate_left
      ·rfl
      ·exact hd_res (m:=m) (n:=NN) HP.out.1 HP.out.2 hgw hm8 hbv (by rw [List.length_cons];omega) (fun _=>by rw [List.length_cons];omega) hfin.out
      ·have q:=two_put K2.out (.int .i64 (m:Int)) (.int .u64 (NN:Int))
       have q0:=q.1
       have q1:=q.2
       simp [results,Tryz.results105,go_sem,q0,q1]
     ·skip
      have hfin:Hid (HdIs (c::r1) false m 0 r1):=Hh fun M N t hM hN hh=>by
       obtain ⟨h1,h2,h3⟩:=HF.out M N t hM hN hh
       exfalso
       rcases headV_cases hN with ⟨h4,-,-⟩ | ⟨-,-,h5,h6⟩
       ·omega
       ·rw [←h2,show (2:Nat) ^ (25 - 24)=2 by decide] at h5
        rw [h5] at h3
        have h7:(bigL N 2).length=2:=bigL_length _ _
        have:=congrArg List.length h3
        rw [Lg,h7] at this
        omega
      have N2:=Hh (fun wx (hx:PrC wx g mb r1)=>cnum_no 2 wx hx hr1 hq)
      rw [show ((2:Nat):Int)=2 from rfl] at N2
      clear hq
      go_enter Tryz.func105,Tryz.ntmps105
      go_upto_region 1 with fail
      rw [←hw0]
      clear hw0
      go_upto_region 2 with ((with_reducible refine (N1.out).mono ?_);rintro e w1 ⟨rfl,hp1,hg1⟩)
      have k1:=keepG hg1 (by omega) HR.out
      have HP1:=Hh (Ai hp1 (gtrans HG.out hg1))
      have HZ1:=Hh hg1.size
      have K1:=Hh k1
      clear hp1 hg1 k1
      go_upto_region 8 with ((with_reducible refine (N2.out _ HP1.out.1).mono ?_);rintro e w2 ⟨rfl,hp2,hg2⟩)
      have k2:=keepG hg2 (by omega) K1.out
      have c2:=two_of k2
      have f2:=free_two k2
      have HP:=Hh (Ai hp2 (gtrans HP1.out.2 hg2))
      have K2:=Hh k2
      clear hp2 hg2 k2
      go_wp2
      refine bodyPost_ret (v:=.tuple #[.agg #[.int .i64 (m:Int),.int .u64 0],.bool false]) ?_ ?_ ?_
      rotate_left
      ·rfl
      ·exact hd_res (m:=m) (n:=0) HP.out.1 HP.out.2 hgw hm8 (by decide) (by rw [List.length_cons];omega) (fun h=>by cases h) hfin.out
      ·have q:=two_put K2.out (.int .i64 (m:Int)) (.int .u64 0)
       have q0:=q.1
       have q1:=q.2
       simp [results,Tryz.results105,go_sem,q0,q1]
    ·subst hvv
     by_cases hq:4≤r1.length
     ·skip
      have hl1:r1.length ≥ 4:=by omega
      have hfin:Hid (HdIs (c::r1) true m (bigV (r1.take 4)) (r1.drop 4)):=Hh fun M N t hM hN hh=>by
       obtain ⟨h1,h2,h3⟩:=HF.out M N t hM hN hh
       rcases headV_cases hN with ⟨h4,-,-⟩ | ⟨-,-,h5,h6⟩
       ·omega
       ·rw [←h2,show (2:Nat) ^ (26 - 24)=4 by decide] at h5
        rw [h5] at h3 h6
        have h7:(bigL N 4).length=4:=bigL_length _ _
        refine ⟨rfl,h1,?_,?_⟩
        ·rw [h3,List.take_left' h7,bigL_back h6]
        ·rw [h3,List.drop_left' h7]
      have hbv:bigV (r1.take 4)<18446744073709551616:=by
       have h1:=bigV_lt (r1.take 4)
       have h2:(r1.take 4).length≤8:=by rw [List.length_take];omega
       have h3:(256:Nat) ^ (r1.take 4).length≤256 ^ 8:=Nat.pow_le_pow_right (by decide) h2
       have h8:(256:Nat) ^ 8=18446744073709551616:=by decide
       omega
      have N2:=Hh (fun wx (hx:PrC wx g mb r1)=>cnum_yes 4 wx hx hr1 hq (by decide))
      rw [show ((4:Nat):Int)=4 from rfl] at N2
      obtain ⟨NN,hNN⟩:∃N,N=bigV (r1.take 4):=⟨_,rfl⟩
      rw [←hNN] at N2 hfin hbv
      obtain ⟨r2,hr2⟩:∃r2,r2=r1.drop 4:=⟨_,rfl⟩
      have hr2l:r2.length≤r1.length:=by rw [hr2,List.length_drop];omega
      rw [←hr2] at N2 hfin
      clear hNN hr2
      clear hq
      go_enter Tryz.func105,Tryz.ntmps105
      go_upto_region 1 with fail
      rw [←hw0]
      clear hw0
      go_upto_region 2 with ((with_reducible refine (N1.out).mono ?_);rintro e w1 ⟨rfl,hp1,hg1⟩)
      have k1:=keepG hg1 (by omega) HR.out
      have HP1:=Hh (Ai hp1 (gtrans HG.out hg1))
      have HZ1:=Hh hg1.size
      have K1:=Hh k1
      clear hp1 hg1 k1
      go_upto_region 8 with ((with_reducible refine (N2.out _ HP1.out.1).mono ?_);rintro e w2 ⟨rfl,hp2,hg2⟩)
      have k2:=keepG hg2 (by omega) K1.out
      have c2:=two_of k2
      have f2:=free_two k2
      have HP:=Hh (Ai hp2 (gtrans HP1.out.2 hg2))
      have K2:=Hh k2
      clear hp2 hg2 k2
      go_wp2
      refine bodyPost_ret (v:=.tuple #[.agg #[.int .i64 (m:Int),.int .u64 (NN:Int)],.bool true]) ?_ ?_ ?_
      rotate_left
      ·rfl
      ·exact hd_res (m:=m) (n:=NN) HP.out.1 HP.out.2 hgw hm8 hbv (by rw [List.length_cons];omega) (fun _=>by rw [List.length_cons];omega) hfin.out
      ·have q:=two_put K2.out (.int .i64 (m:Int)) (.int .u64 (NN:Int))
       have q0:=q.1
       have q1:=q.2
       simp [results,Tryz.results105,go_sem,q0,q1]
     ·skip
      have hfin:Hid (HdIs (c::r1) false m 0 r1):=Hh fun M N t hM hN hh=>by
       obtain ⟨h1,h2,h3⟩:=HF.out M N t hM hN hh
       exfalso
       rcases headV_cases hN with ⟨h4,-,-⟩ | ⟨-,-,h5,h6⟩
       ·omega
       ·rw [←h2,show (2:Nat) ^ (26 - 24)=4 by decide] at h5
        rw [h5] at h3
        have h7:(bigL N 4).length=4:=bigL_length _ _
        have:=congrArg List.length h3
        rw [Lg,h7] at this
        omega
      have N2:=Hh (fun wx (hx:PrC wx g mb r1)=>cnum_no 4 wx hx hr1 hq)
      rw [show ((4:Nat):Int)=4 from rfl] at N2
      clear hq
      go_enter Tryz.func105,Tryz.ntmps105
      go_upto_region 1 with fail
      rw [←hw0]
      clear hw0
      go_upto_region 2 with ((with_reducible refine (N1.out).mono ?_);rintro e w1 ⟨rfl,hp1,hg1⟩)
      have k1:=keepG hg1 (by omega) HR.out
      have HP1:=Hh (Ai hp1 (gtrans HG.out hg1))
      have HZ1:=Hh hg1.size
      have K1:=Hh k1
      clear hp1 hg1 k1
      go_upto_region 8 with ((with_reducible refine (N2.out _ HP1.out.1).mono ?_);rintro e w2 ⟨rfl,hp2,hg2⟩)
      have k2:=keepG hg2 (by omega) K1.out
      have c2:=two_of k2
      have f2:=free_two k2
      have HP:=Hh (Ai hp2 (gtrans HP1.out.2 hg2))
      have K2:=Hh k2
      clear hp2 hg2 k2
      go_wp2
      refine bodyPost_ret (v:=.tuple #[.agg #[.int .i64 (m:Int),.int .u64 0],.bool false]) ?_ ?_ ?_
      rotate_left
      ·rfl
      ·exact hd_res (m:=m) (n:=0) HP.out.1 HP.out.2 hgw hm8 (by decide) (by rw [List.length_cons];omega) (fun h=>by cases h) hfin.out
      ·have q:=two_put K2.out (.int .i64 (m:Int)) (.int .u64 0)
       have q0:=q.1
       have q1:=q.2
       simp [results,Tryz.results105,go_sem,q0,q1]
    ·subst hvv
     by_cases hq:8≤r1.length
     ·skip
      have hl1:r1.length ≥ 8:=by omega
      have hfin:Hid (HdIs (c::r1) true m (bigV (r1.take 8)) (r1.drop 8)):=Hh fun M N t hM hN hh=>by
       obtain ⟨h1,h2,h3⟩:=HF.out M N t hM hN hh
       rcases headV_cases hN with ⟨h4,-,-⟩ | ⟨-,-,h5,h6⟩
       ·omega
       ·rw [←h2,show (2:Nat) ^ (27 - 24)=8 by decide] at h5
        rw [h5] at h3 h6
        have h7:(bigL N 8).length=8:=bigL_length _ _
        refine ⟨rfl,h1,?_,?_⟩
        ·rw [h3,List.take_left' h7,bigL_back h6]
        ·rw [h3,List.drop_left' h7]
      have hbv:bigV (r1.take 8)<18446744073709551616:=by
       have h1:=bigV_lt (r1.take 8)
       have h2:(r1.take 8).length≤8:=by rw [List.length_take];omega
       have h3:(256:Nat) ^ (r1.take 8).length≤256 ^ 8:=Nat.pow_le_pow_right (by decide) h2
       have h8:(256:Nat) ^ 8=18446744073709551616:=by decide
       omega
      have N2:=Hh (fun wx (hx:PrC wx g mb r1)=>cnum_yes 8 wx hx hr1 hq (by decide))
      rw [show ((8:Nat):Int)=8 from rfl] at N2
      obtain ⟨NN,hNN⟩:∃N,N=bigV (r1.take 8):=⟨_,rfl⟩
      rw [←hNN] at N2 hfin hbv
      obtain ⟨r2,hr2⟩:∃r2,r2=r1.drop 8:=⟨_,rfl⟩
      have hr2l:r2.length≤r1.length:=by rw [hr2,List.length_drop];omega
      rw [←hr2] at N2 hfin
      clear hNN hr2
      clear hq
      go_enter Tryz.func105,Tryz.ntmps105
      go_upto_region 1 with fail
      rw [←hw0]
      clear hw0
      go_upto_region 2 with ((with_reducible refine (N1.out).mono ?_);rintro e w1 ⟨rfl,hp1,hg1⟩)
      have k1:=keepG hg1 (by omega) HR.out
      have HP1:=Hh (Ai hp1 (gtrans HG.out hg1))
      have HZ1:=Hh hg1.size
      have K1:=Hh k1
      clear hp1 hg1 k1
      go_upto_region 8 with ((with_reducible refine (N2.out _ HP1.out.1).mono ?_);rintro e w2 ⟨rfl,hp2,hg2⟩)
      have k2:=keepG hg2 (by omega) K1.out
      have c2:=two_of k2
      have f2:=free_two k2
      have HP:=Hh (Ai hp2 (gtrans HP1.out.2 hg2))
      have K2:=Hh k2
      clear hp2 hg2 k2
      go_wp2
      refine bodyPost_ret (v:=.tuple #[.agg #[.int .i64 (m:Int),.int .u64 (NN:Int)],.bool true]) ?_ ?_ ?_
      rotate_left
      ·rfl
      ·exact hd_res (m:=m) (n:=NN) HP.out.1 HP.out.2 hgw hm8 hbv (by rw [List.length_cons];omega) (fun _=>by rw [List.length_cons];omega) hfin.out
      ·have q:=two_put K2.out (.int .i64 (m:Int)) (.int .u64 (NN:Int))
       have q0:=q.1
       have q1:=q.2
       simp [results,Tryz.results105,go_sem,q0,q1]
     ·skip
      have hfin:Hid (HdIs (c::r1) false m 0 r1):=Hh fun M N t hM hN hh=>by
       obtain ⟨h1,h2,h3⟩:=HF.out M N t hM hN hh
       exfalso
       rcases headV_cases hN with ⟨h4,-,-⟩ | ⟨-,-,h5,h6⟩
       ·omega
       ·rw [←h2,show (2:Nat) ^ (27 - 24)=8 by decide] at h5
        rw [h5] at h3
        have h7:(bigL N 8).length=8:=bigL_length _ _
        have:=congrArg List.length h3
        rw [Lg,h7] at this
        omega
      have N2:=Hh (fun wx (hx:PrC wx g mb r1)=>cnum_no 8 wx hx hr1 hq)
      rw [show ((8:Nat):Int)=8 from rfl] at N2
      clear hq
      go_enter Tryz.func105,Tryz.ntmps105
      go_upto_region 1 with fail
      rw [←hw0]
      clear hw0
      go_upto_region 2 with ((with_reducible refine (N1.out).mono ?_);rintro e w1 ⟨rfl,hp1,hg1⟩)
      have k1:=keepG hg1 (by omega) HR.out
      have HP1:=Hh (Ai hp1 (gtrans HG.out hg1))
      have HZ1:=Hh hg1.size
      have K1:=Hh k1
      clear hp1 hg1 k1
      go_upto_region 8 with ((with_reducible refine (N2.out _ HP1.out.1).mono ?_);rintro e w2 ⟨rfl,hp2,hg2⟩)
      have k2:=keepG hg2 (by omega) K1.out
      have c2:=two_of k2
      have f2:=free_two k2
      have HP:=Hh (Ai hp2 (gtrans HP1.out.2 hg2))
      have K2:=Hh k2
      clear hp2 hg2 k2
      go_wp2
      refine bodyPost_ret (v:=.tuple #[.agg #[.int .i64 (m:Int),.int .u64 0],.bool false]) ?_ ?_ ?_
      rotate_left
      ·rfl
      ·exact hd_res (m:=m) (n:=0) HP.out.1 HP.out.2 hgw hm8 (by decide) (by rw [List.length_cons];omega) (fun h=>by cases h) hfin.out
      ·have q:=two_put K2.out (.int .i64 (m:Int)) (.int .u64 0)
       have q0:=q.1
       have q1:=q.2
       simp [results,Tryz.results105,go_sem,q0,q1]
def NmIs (r:List UInt8) (ok:Bool) (s:ByteArray) (r':List UInt8):Prop:=∀ (x:ByteArray) t,x.size<18446744073709551616→r=cText x++t→ok=true∧s=x∧r'=t
theorem cText_app (x:ByteArray) (t:List UInt8):cText x++t=headL 3 x.size++(x.data.toList++t):=by unfold cText;rw [List.append_assoc]
theorem text_taken {x:ByteArray} {q t:List UInt8} (h:q=x.data.toList++t):x.size≤q.length∧bC (q.take x.size)=x∧q.drop x.size=t:=by
 have hl:x.data.toList.length=x.size:=by rw [Array.length_toList];rfl
 refine ⟨by rw [h,Lg];omega,?_,?_⟩
 ·rw [h,List.take_left' hl];exact bC_of x
 ·rw [h,List.drop_left' hl]
def NmPost (g mb:Nat) (r:List UInt8) (w:World) (e:Ending) (w':World):Prop:=∃ (s:ByteArray) (ok:Bool) (r':List UInt8),e=.returned (.tuple #[.string s,.bool ok])∧PrC w' g mb r'∧w.grownBy w' (some g)∧s.size≤r.length∧r'.length≤r.length∧(ok=true→r'.length<r.length)∧NmIs r ok s r'
theorem cname_any {g mb:Nat} {r:List UInt8} (w:World) (h:PrC w g mb r) (hr:r.length≤1000000):Calls Tryz.prog 128 #[.pointer (some ⟨g,0,none⟩)] w (NmPost g mb r w):=by
 have hgw:=h.lt
 have HD:=Hh (chd_any w h hr)
 clear h
 go_enter Tryz.func128,Tryz.ntmps128
 go_upto_region 2 with ((with_reducible refine (HD.out).mono ?_);rintro e w1 ⟨m,n,ok,r1,rfl,hp1,hg1,hm,hn,hl1,hlt1,hI⟩)
 have bA:=(Br w1.heap.size w1).alloc (o:=.cells #[.int .i64 (m:Int),.int .u64 (n:Int)] 129) (Lr _)
 have hp2:=hp1.below bA
 have k2:=Hn w1 (.cells #[.int .i64 (m:Int),.int .u64 (n:Int)] 129)
 have hg2:=gtrans hg1 (galloc w1 (.cells #[.int .i64 (m:Int),.int .u64 (n:Int)] 129) (some g))
 have hgb:g<w1.heap.size:=hp1.lt
 generalize hw2:w1.alloc (.cells #[.int .i64 (m:Int),.int .u64 (n:Int)] 129)=w2 at hp2 k2 hg2 ⊢
 clear hw2 bA hp1 hg1 HD
 have HP:=Hh (Ai hp2 hg2)
 have K2:=Hh k2
 have HI:=Hh hI
 have HL:=Hh (Ai hl1 hlt1)
 obtain ⟨b,hb⟩:∃b,b=w1.heap.size:=⟨_,rfl⟩
 rw [←hb] at K2 k2 hgb ⊢
 have c2:=two_of k2
 clear hb hp2 hg2 k2 hI hl1 hlt1
 cases ok with
 | false=>
  go_wp2
  go_ret2
  exact ⟨_,_,_,rfl,HP.out.1,HP.out.2,Nat.zero_le _,HL.out.1,(fun h=>by cases h),fun x t hx hh=>by
   rw [cText_app] at hh
   have:=(HI.out 3 x.size _ (by decide) hx hh).1
   cases this⟩
 | true=>
  by_cases h3:m=3
  ·have h3':((m:Int) == 3)=true:=by subst h3;rfl
   have h3'':((m:Int) != 3)=false:=by subst h3;rfl
   by_cases hq:n≤r1.length
   ·have TK:=Hh (fun (wx:World) (hx:PrC wx g mb r1)=>ctake_yes n wx hx (by have:=HL.out.1;omega) hq)
    have hsz:(bC (r1.take n)).size≤r.length:=by rw [bC_size,List.length_take];have:=HL.out.1;omega
    have HN:Hid (NmIs r true (bC (r1.take n)) (r1.drop n)):=Hh fun x t hx hh=>by
     rw [cText_app] at hh
     obtain ⟨-,-,e1,e2⟩:=HI.out 3 x.size _ (by decide) hx hh
     obtain ⟨-,e3,e4⟩:=text_taken e2
     subst e1
     exact ⟨rfl,e3,e4⟩
    have hl2:(r1.drop n).length≤r1.length:=by rw [List.length_drop];omega
    have HS:=Hh hsz
    have HL2:=Hh hl2
    obtain ⟨sx,hsx⟩:∃sx,sx=bC (r1.take n):=⟨_,rfl⟩
    obtain ⟨rx,hrx⟩:∃rx,rx=r1.drop n:=⟨_,rfl⟩
    rw [←hsx,←hrx] at TK HN
    rw [←hsx] at HS
    rw [←hrx] at HL2
    clear hsz hl2 hsx hrx hq h3
    go_upto_region 4 with fail
    refine wp_region_plan (fun w'=>w'.cell? ⟨b,1,none⟩=some (.int .u64 (n:Int))) [4] (.take 0 (.take 1 (.take 2 (.take 3 (.take 4 (.ask 5 false (.take 6 (.take 7 (.take 8 (.ask 9 false .stop .stop)))) .stop)))))) (by kernel_rfl) (by kernel_rfl) (fun _ d _ _ _ h=>by cases d <;> exact h) c2.2 ?_
    have hpd:PrC w2.drew g mb r1:=HP.out.1.below (Br _ _).drew
    have HPD:=Hh hpd
    have HGD:Hid (w.grownBy w2.drew (some g)):=Hh (gtrans HP.out.2 (grown_of_below ((Br w2.heap.size w2).drew) (Lr _) _))
    clear hpd c2
    generalize w2.drew=wd at HPD HGD ⊢
    refine take_any _ ?_ rfl rfl ?_ (fun K hK=>?_);rotate_left;(intro w0;go_simp;(try rfl));(go_simp;refine hK _ ?_;clear hK K)
    refine take_any _ ?_ rfl rfl ?_ (fun K hK=>?_);rotate_left;(intro w0;go_simp;(try rfl));(go_simp;refine hK _ ?_;clear hK K)
    refine take_any _ ?_ rfl rfl ?_ (fun K hK=>?_);rotate_left;(intro w0;go_simp;(try rfl));(go_simp;refine hK _ ?_;clear hK K)
    refine take_any _ ?_ rfl rfl ?_ (fun K hK=>?_);rotate_left;(intro w0;go_simp;(try rfl));(go_simp;refine hK _ ?_;clear hK K)
    refine take_held _ ?_ rfl rfl (by decide) ?_ (fun K hK=>?_);rotate_left;(intro w0 hw0;go_simp;(try rfl));(go_simp;refine hK _ ?_;clear hK K)
    refine ask_late _ rfl trivial ?_;go_wp2_with (go_at_call 107;(with_reducible refine (TK.out _ HPD.out).mono ?_);rintro e w3 ⟨rfl,hp3,hg3⟩);refine Seg.mk ?_
    refine take_any _ ?_ rfl rfl ?_ (fun K hK=>?_);rotate_left;(intro w0;go_simp;(try rfl));(go_simp;refine hK _ ?_;clear hK K)
    refine take_any _ ?_ rfl rfl ?_ (fun K hK=>?_);rotate_left;(intro w0;go_simp;(try rfl));(go_simp;refine hK _ ?_;clear hK K)
    refine take_any _ ?_ rfl rfl ?_ (fun K hK=>?_);rotate_left;(intro w0;go_simp;(try rfl));(go_simp;refine hK _ ?_;clear hK K)
    refine ask_last _ rfl trivial ?_
    go_wp2
    go_ret2
    exact ⟨_,_,_,rfl,hp3,gtrans HGD.out hg3,HS.out,by have:=HL.out.1;have:=HL2.out;omega,(fun h=>by have:=HL.out.2 (by first | rfl | trivial);have:=HL2.out;omega),HN.out⟩
   ·have TK:=Hh (fun (wx:World) (hx:PrC wx g mb r1)=>ctake_no n wx hx (by have:=HL.out.1;omega) hq)
    have HN:Hid (NmIs r false ⟨#[]⟩ r1):=Hh fun x t hx hh=>by
     exfalso
     rw [cText_app] at hh
     obtain ⟨-,-,e1,e2⟩:=HI.out 3 x.size _ (by decide) hx hh
     obtain ⟨e0,-,-⟩:=text_taken e2
     omega
    clear hq h3
    go_upto_region 4 with fail
    refine wp_region_plan (fun w'=>w'.cell? ⟨b,1,none⟩=some (.int .u64 (n:Int))) [4] (.take 0 (.take 1 (.take 2 (.take 3 (.take 4 (.ask 5 false (.take 6 (.take 7 (.take 8 (.ask 9 false .stop .stop)))) .stop)))))) (by kernel_rfl) (by kernel_rfl) (fun _ d _ _ _ h=>by cases d <;> exact h) c2.2 ?_
    have hpd:PrC w2.drew g mb r1:=HP.out.1.below (Br _ _).drew
    have HPD:=Hh hpd
    have HGD:Hid (w.grownBy w2.drew (some g)):=Hh (gtrans HP.out.2 (grown_of_below ((Br w2.heap.size w2).drew) (Lr _) _))
    clear hpd c2
    generalize w2.drew=wd at HPD HGD ⊢
    refine take_any _ ?_ rfl rfl ?_ (fun K hK=>?_);rotate_left;(intro w0;go_simp;(try rfl));(go_simp;refine hK _ ?_;clear hK K)
    refine take_any _ ?_ rfl rfl ?_ (fun K hK=>?_);rotate_left;(intro w0;go_simp;(try rfl));(go_simp;refine hK _ ?_;clear hK K)
    refine take_any _ ?_ rfl rfl ?_ (fun K hK=>?_);rotate_left;(intro w0;go_simp;(try rfl));(go_simp;refine hK _ ?_;clear hK K)
    refine take_any _ ?_ rfl rfl ?_ (fun K hK=>?_);rotate_left;(intro w0;go_simp;(try rfl));(go_simp;refine hK _ ?_;clear hK K)
    refine take_held _ ?_ rfl rfl (by decide) ?_ (fun K hK=>?_);rotate_left;(intro w0 hw0;go_simp;(try rfl));(go_simp;refine hK _ ?_;clear hK K)
    refine ask_late _ rfl trivial ?_;go_wp2_with (go_at_call 107;(with_reducible refine (TK.out _ HPD.out).mono ?_);rintro e w3 ⟨rfl,hp3,hg3⟩);refine Seg.mk ?_
    refine take_any _ ?_ rfl rfl ?_ (fun K hK=>?_);rotate_left;(intro w0;go_simp;(try rfl));(go_simp;refine hK _ ?_;clear hK K)
    refine take_any _ ?_ rfl rfl ?_ (fun K hK=>?_);rotate_left;(intro w0;go_simp;(try rfl));(go_simp;refine hK _ ?_;clear hK K)
    refine take_any _ ?_ rfl rfl ?_ (fun K hK=>?_);rotate_left;(intro w0;go_simp;(try rfl));(go_simp;refine hK _ ?_;clear hK K)
    refine ask_last _ rfl trivial ?_
    go_wp2
    go_ret2
    exact ⟨_,_,_,rfl,hp3,gtrans HGD.out hg3,Nat.zero_le _,HL.out.1,(fun h=>by cases h),HN.out⟩
  ·have h3':((m:Int) == 3)=false:=by simp;omega
   have h3'':((m:Int) != 3)=true:=by simp;omega
   have H3:=Hh h3
   clear h3
   go_wp2
   go_ret2
   exact ⟨_,_,_,rfl,HP.out.1,HP.out.2,Nat.zero_le _,HL.out.1,(fun h=>by cases h),fun x t hx hh=>by
    rw [cText_app] at hh
    exact absurd (HI.out 3 x.size _ (by decide) hx hh).2.1 H3.out⟩
end Go.Proofs.YtdppdonaojdceaaGreatDoor