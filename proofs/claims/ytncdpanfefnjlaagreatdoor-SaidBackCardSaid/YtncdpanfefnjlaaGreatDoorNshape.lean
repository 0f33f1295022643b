import Derived.Test.YtncdpanfefnjlaaGreatDoorSched
set_option linter.unusedVariables false
set_option linter.unusedSimpArgs false
set_option maxHeartbeats 1600000
set_option maxRecDepth 100000
namespace Go.Proofs.YtncdpanfefnjlaaGreatDoor
open Go.Proofs.Tryz
open Go.ChangeShapes Go.WideShapes Go.ChangeAt Go.RowKit
theorem xY {w w':World} {g h B:Nat} {u v x:Value} (hb:Below B w w') (hg:g<B) (hh:h<B) (s:w.cell? ⟨g,1,none⟩=some u∧w.cell? ⟨h,0,none⟩=some v∧w.cell? ⟨h,1,none⟩=some x):w'.cell? ⟨g,1,none⟩=some u∧w'.cell? ⟨h,0,none⟩=some v∧w'.cell? ⟨h,1,none⟩=some x:=
 ⟨by rw [hb.cell (p:=⟨g,1,none⟩) hg];exact s.1,by rw [hb.cell (p:=⟨h,0,none⟩) hh];exact s.2.1,by rw [hb.cell (p:=⟨h,1,none⟩) hh];exact s.2.2⟩
theorem MX (n:Nat) (raw:Bt) (w:World) (h1:1≤n) (h8:n≤8) (hs:raw.size=kN n) (hL:Lay w):Calls prog 70 #[.agg #[Iz (n:Int),.string raw]] w fun e w'=>e=.returned (.tuple #[.string ⟨(xZ n raw.data.toList).toArray⟩,Iz 0])∧Below w.heap.size w w':=by
 have C:=Hh (fun (wx:World) (hx:Lay wx)=>qV (n:Int) wx hx)
 unfold FP at C;rw [show ((n:Int)).toNat=n from rfl,show wM (n:Int)=(kN n:Int) from rfl,An (show 1≤(n:Int)∧(n:Int)≤8 by omega)] at C
 obtain ⟨cs,hcs⟩:∃cs:Bt,cs=⟨(kG n).toArray⟩:=⟨_,rfl⟩;rw [←hcs] at C;obtain ⟨b,hb⟩:∃b,b=kN n:=⟨_,rfl⟩;rw [←hb] at C hs;have heq:(raw.size:Int)=(b:Int):=by omega
 obtain ⟨l,hl⟩:∃l,l=lW n:=⟨_,rfl⟩;have hl2:l≤2:=by rw [hl];exact SX n
 have hsz:raw.size≤626:=by rw [hs,hb];rcases gO (c:=n) (by omega) (by omega) with rfl | rfl | rfl | rfl | rfl | rfl | rfl | rfl <;> decide
 have Ld:=Hh (fun (wx:World)=>BL cs b l wx (by omega) (by rw [hl,hb];rfl))
 have hm3:(l+raw.size) % 3=0:=by rw [hs,hb,hl];exact KV n
 obtain ⟨V,hV⟩:∃V:Bt,V=⟨(xZ n raw.data.toList).toArray⟩:=⟨_,rfl⟩;rw [←hV];have hcs':=Hh hcs;have hb':=Hh hb;have hl':=Hh hl;have hV':=Hh hV;clear hcs hb hl hV;have hx:((({ data:=#[0,0] }:Bt).extract 0 l++raw).data.toList)=List.replicate l 0++raw.data.toList:=PP l hl2 raw;have hxs:(({ data:=#[0,0] }:Bt).extract 0 l++raw).size=l+raw.size:=by
  have:=Ad List.length hx;rw [Ah,Lg,Ds,Ah] at this;exact this
 obtain ⟨T,hT⟩:∃T:Bt,T=ZQ (lR (List.replicate l 0++raw.data.toList)):=⟨_,rfl⟩;have hTs:l≤T.size:=by
  rw [hT];have:=KW l raw (by omega) hm3
  exact this
 have E:=Hh (fun (wx:World)=>LV (({ data:=#[0,0] }:Bt).extract 0 l++raw) wx (by unfold maxLen;omega))
 have hE1:aGl ((({ data:=#[0,0] }:Bt).extract 0 l++raw).data.toList)=T:=by
  rw [hx,hT];unfold aGl;rw [Af (by rw [Lg,Ds,Ah];show ¬ (65536<l+raw.size∨(l+raw.size) % 3 ≠ 0);omega)]
 have hE2:aGm ((({ data:=#[0,0] }:Bt).extract 0 l++raw).data.toList)=0:=by
  rw [hx];unfold aGm;rw [Lg,Ds,Ah,Af (show ¬65536<l+raw.data.size from fun (h:65536<l+raw.size)=>by omega),Af (show ¬ (l+raw.data.size) % 3 ≠ 0 from fun (h:(l+raw.size) % 3 ≠ 0)=>h hm3)]
 rw [hE1,hE2] at E;have hTs2:T.size≤100000:=by
  rw [hT]
  show (lR (List.replicate l 0++raw.data.toList)).length≤_
  rw [iQ ((l+raw.size) / 3) _ (by rw [Lg,Ds,Ah];show l+raw.size=_;omega)]
  omega
 have hcs4:cs.size≤4:=by
  rw [hcs'.out]
  show (kG n).length≤4
  rcases gO (c:=n) (by omega) (by omega) with rfl | rfl | rfl | rfl | rfl | rfl | rfl | rfl <;> decide
 have hT':=Hh hT;clear hE1 hE2 hT hx hxs;have hl0:(0:Int)≤(l:Int):=by omega
 have hl1:(l:Int)≤2:=by omega
 have hcat2:¬9223372036854775807<cs.size+(T.size - l):=by omega
 have hcat:¬9223372036854775807<l+b:=by omega
 have hT0:(l:Int)≤(T.size:Int):=by omega
 have HL:=Hh (hL.below (B:=w.heap.size) hL.lt ((Br _ _).alloc (Lr _) (.cells #[Iz (n:Int),.string raw] 105)));have p0:=wT w (Iz (n:Int)) (.string raw) 105;clear hL
 go_enter func70,ntmps70
 go_wp2_with (go_at_call 65;(with_reducible refine (C.o _ HL.o).mono ?_);rintro e w1 ⟨rfl,hb1⟩;have p1:=lH hb1 (by simp) p0;have hg:w.heap.size<w1.heap.size:=(by have:=hb1.size;simp at this;omega))
 have s1:(w1.alloc (.cells #[.string cs,Iz (b:Int)] 99)).cell? ⟨w.heap.size,1,none⟩=some (.string raw)∧(w1.alloc (.cells #[.string cs,Iz (b:Int)] 99)).cell? ⟨w1.heap.size,0,none⟩=some (.string cs)∧(w1.alloc (.cells #[.string cs,Iz (b:Int)] 99)).cell? ⟨w1.heap.size,1,none⟩=some (Iz (b:Int)):=
  ⟨(lH ((Br w1.heap.size w1).alloc (Lr _) _) hg p1).2,wT w1 (.string cs) (Iz (b:Int)) 99⟩
 have b1:=(((Br w.heap.size w).alloc (Lr _) _).trans (hb1.mono (by simp))).alloc (o:=.cells #[.string cs,Iz (b:Int)] 99) (Bo hg)
 have g1:w1.heap.size<(w1.alloc (.cells #[.string cs,Iz (b:Int)] 99)).heap.size:=by simp
 clear p0 p1 HL hb1
 go_region_held3 (fun w'=>w'.cell? ⟨w.heap.size,1,none⟩=some (.string raw)∧w'.cell? ⟨w1.heap.size,0,none⟩=some (.string cs)∧w'.cell? ⟨w1.heap.size,1,none⟩=some (Iz (b:Int))) (first | exact s1 | exact s2 | exact s3)
  (first
   | (go_at_call 97;refine (Ld.o _).mono ?_;rintro e w2 ⟨rfl,hb2⟩;have s2:=xY hb2 (Cl hg g1) g1 s1;have g2:=Ll g1 hb2.size)
   | (go_at_call 106;refine (E.o _).mono ?_;rintro e w3 ⟨rfl,hb3⟩;have s3:=xY hb3 (Cl hg g2) g2 s2;have g3:=Ll g2 hb3.size))
 have b3:=(b1.drew.trans (hb2.mono (Bo (Cl hg g1)))).trans (hb3.mono (Bo (Cl hg g2)));have k3:=s3.2;clear s1 s2 s3 b1 hb2 hb3 g1 g2
 go_wp2
 go_region_held3 (fun w'=>w'.cell? ⟨w1.heap.size,0,none⟩=some (.string cs)∧w'.cell? ⟨w1.heap.size,1,none⟩=some (Iz (b:Int))) (first | exact k3 | exact k4)
  (first | (go_at_call 97;refine (Ld.o _).mono ?_;rintro e w4 ⟨rfl,hb4⟩;have k4:=lH hb4 g3 k3))
 go_wp2
 go_ret2
 refine ⟨?_,b3.drew.trans (hb4.mono (Bo (Cl hg g3)))⟩
 show Ending.returned (.tuple #[.string (cs++T.extract l T.size),Iz 0])=_
 rw [show cs++T.extract l T.size=V by rw [hV'.out,hcs'.out,hT'.out,hl'.out];exact aDh _ _ _]
theorem UB (c:Int) (raw:Bt) (w:World) (hr:raw.size≤maxLen - 2) (hL:Lay w):Calls prog 70 #[.agg #[Iz c,.string raw]] w fun e w'=>e=.returned (.tuple #[.string (qA c raw),Iz (yU c raw)])∧Below w.heap.size w w':=by
 unfold maxLen at hr;have hlt:=hL.lt;have HL:=Hh (hL.below (B:=w.heap.size) hL.lt ((Br _ _).alloc (Lr _) (.cells #[Iz c,.string raw] 105)));have p0:=wT w (Iz c) (.string raw) 105;have C:=Hh (fun (wx:World) (hx:Lay wx)=>qV c wx hx)
 by_cases h:1≤c∧c≤8
 ·by_cases hs:raw.size=kN c.toNat
  ·obtain ⟨n,rfl⟩:∃n:Nat,c=(n:Int):=⟨c.toNat,by omega⟩
   unfold qA yU;rw [Am ⟨h,hs⟩,Am h,Am hs];exact MX n raw w (by omega) (by omega) hs hL
  ·unfold qA yU
   rw [Af (fun h=>hs h.2),Am h,Af hs]
   unfold FP at C;rw [An h] at C;have hne:¬ (raw.size:Int)=wM c:=by unfold wM;omega
   obtain ⟨r,hr⟩:∃r,r=wM c:=⟨_,rfl⟩;rw [←hr] at hne C;clear hr h hs hL
   go_enter func70,ntmps70
   go_wp2_with (go_at_call 65;(with_reducible refine (C.o _ HL.o).mono ?_);rintro e w1 ⟨rfl,hb1⟩;have p1:=lH hb1 (by simp) p0;have hg:w.heap.size<w1.heap.size:=(by have:=hb1.size;simp at this;omega);have q1:=(lH ((Br w1.heap.size w1).alloc (Lr _) (.cells #[.string ⟨(kG c.toNat).toArray⟩,Iz r] 99)) hg p1).2)
   go_ret2
   exact ⟨rfl,(((Br w.heap.size w).alloc (Lr _) _).trans (hb1.mono (by simp))).alloc (Bo hg) _⟩
 ·unfold qA yU
  rw [Af (fun g=>h g.1),Af h]
  rw [KY c (by omega)] at C
  clear h hL hr
  go_enter func70,ntmps70
  go_wp2_with (go_at_call 65;(with_reducible refine (C.o _ HL.o).mono ?_);rintro e w1 ⟨rfl,hb1⟩)
  go_ret2
  exact ⟨rfl,(((Br w.heap.size w).alloc (Lr _) _).trans (hb1.mono (by simp))).alloc (by have:=hb1.size;simp at this;omega) _⟩
theorem OP (c:Int) (raw:Bt) (h:yU c raw ≠ 0):qA c raw=⟨#[]⟩:=by
 unfold yU at h;unfold qA
 by_cases h1:1≤c∧c≤8
 ·by_cases h2:raw.size=kN c.toNat
  ·rw [Am h1,Am h2] at h;exact absurd rfl h
  ·rw [Af (fun g=>h2 g.2)]
 ·rw [Af (fun g=>h1 g.1)]
theorem UC (c:Int) (raw:Bt) (w:World) (hr:raw.size≤maxLen - 2) (hL:Lay w):Calls prog 38 #[Iz c,.string raw] w fun e w'=>e=.returned (.string (qA c raw))∧Below w.heap.size w w':=by
 have C:=Hh (fun (wx:World) (hx:Lay wx)=>UB c raw wx hr hx)
 have HZ:=Hh (OP c raw);obtain ⟨x,hx⟩:∃x,x=yU c raw:=⟨_,rfl⟩;obtain ⟨s,hs⟩:∃s,s=qA c raw:=⟨_,rfl⟩;rw [←hx,←hs] at C;rw [←hx,←hs] at HZ;rw [←hs];have HL:=Hh hL;clear hx hs hL
 by_cases h:x=0
 ·subst h
  go_enter func38,ntmps38
  go_wp2_with (go_at_call 70;(with_reducible refine (C.o _ HL.o).mono ?_);rintro e w1 ⟨rfl,hb1⟩)
  go_ret
  exact ⟨rfl,hb1⟩
 ·have hx1:(x != 0)=true:=by simp [h]
  have hs:=Hh (HZ.o h)
  go_enter func38,ntmps38
  go_wp2_with (go_at_call 70;(with_reducible refine (C.o _ HL.o).mono ?_);rintro e w1 ⟨rfl,hb1⟩)
  go_ret
  exact ⟨by rw [hs.o];rfl,hb1⟩
def tE (B:Nat) (w:World) (a:Option Addr) (len cap:Nat) (zs:List Int):Prop:=
 len≤cap∧cap≤maxLen∧(∀i,i<cap→∃b off,a=some ⟨b,off,none⟩∧b<B∧w.cell? ⟨b,off+i,none⟩=some (Iz (zs.getD i 0)))∧∀i,-9223372036854775808≤zs.getD i 0∧zs.getD i 0≤9223372036854775807
theorem tE.of_row {w:World} {a:Option Addr} {len cap:Nat} {zs:List Int} (h:aHp .i64 w a len cap zs):tE w.heap.size w a len cap zs:=by
 obtain ⟨h1,h2,h3,h4,h5⟩:=h;refine ⟨h1,h2,h4,fun i=>?_⟩
 rcases Cc i zs.length with h | h
 ·have hm:zs.getD i 0 ∈ zs:=by rw [List.getD,Ac h];exact Do h
  exact bounds_i64 (h5 _ hm)
 ·rw [List.getD,By h];decide
theorem tE.same {B:Nat} {w w':World} {a:Option Addr} {len cap:Nat} {zs:List Int} (h:tE B w a len cap zs) (hb:∀j,j<B→w'.heap[j]?=w.heap[j]?):tE B w' a len cap zs:=by
 obtain ⟨h1,h2,h3,h4⟩:=h;refine ⟨h1,h2,fun i hi=>?_,h4⟩
 obtain ⟨b,off,e,hbB,hc⟩:=h3 i hi;refine ⟨b,off,e,hbB,?_⟩;rw [←hc];simp only [World.cell?,hb b hbB]
def aZ (B:Nat) (w:World) (g:Nat):Prop:=
 ∃a len cap k zs,B≤g∧w.heap[g]?=some (.cells #[.slice a len cap,Iz ((k:Nat):Int)] 50 (0,0))∧k≤len∧tE B w a len cap zs
theorem aZ.lt {B g:Nat} {w:World} (h:aZ B w g):g<w.heap.size:=by
 obtain ⟨_,_,_,_,_,_,h,_⟩:=h;exact Aa h
theorem aZ.same {B g:Nat} {w w':World} (h:aZ B w g) (hb:∀j,j≤g→w'.heap[j]?=w.heap[j]?):aZ B w' g:=by
 obtain ⟨a,len,cap,k,zs,hB,hh,hk,hn⟩:=h;exact ⟨a,len,cap,k,zs,hB,(hb g (Lr _)).trans hh,hk,hn.same fun j hj=>hb j (by omega)⟩
theorem aZ.below {B g C:Nat} {w w':World} (h:aZ B w g) (hg:g<C) (hb:Below C w w'):aZ B w' g:=h.same fun j hj=>hb.block j (by omega)
theorem aZ.go {B g:Nat} {w w':World} (h:aZ B w g) (hb:Below w.heap.size w w'):aZ B w' g:=h.below h.lt hb
theorem aK {w w':World} {C:Nat} (hb:Below C w w') (hC:w.heap.size≤C) (row:Option Nat):w.grownBy w' row:=
 ⟨hb.os,hb.tape,hb.output,hb.size,fun i hi _=>hb.block i (by omega)⟩
theorem cM {w w':World} {g h:Nat} {o:Obj} (hg:w.grownBy w' (some g)) (hne:h ≠ g) (hh:w.heap[h]?=some o):w'.heap[h]?=some o:=
 (hg.block h (Aa hh) (by intro e;cases e;exact hne rfl)).trans hh
theorem WM (a:Option Addr) (len cap:Nat) (w:World):Calls prog 5 #[.slice a len cap] w fun e w'=>e=.returned (.bool (decide ((len:Int)≤500)))∧w=w':=by
 go_enter func5,ntmps5
 go_wp2
 go_ret
 exact ⟨rfl,rfl⟩
theorem aAa (a:Option Addr) (len cap:Nat) (zs:List Int) (w:World) (h:tE w.heap.size w a len cap zs):Calls prog 8 #[.slice a len cap] w fun e w'=>e=.returned (.pointer (some ⟨w.heap.size,0,none⟩))∧Below w.heap.size w w'∧aZ w.heap.size w' w.heap.size:=by
 have HN:=Hh h;clear h
 go_enter func8,ntmps8
 go_wp2
 go_ret
 refine ⟨rfl,(Br _ _).alloc (Lr _) _,a,len,cap,0,zs,Lr _,Hn _ _,Ax _,HN.o.same fun j hj=>?_⟩
 exact Bh _ _ j hj
theorem QI (w:World) (g:Nat) (v:Value):w.grownBy (w.setCell ⟨g,1,none⟩ v) (some g):=
 ⟨rfl,rfl,rfl,by simp [World.setCell],fun i _ hne=>heap_setCell_other w ⟨g,1,none⟩ i v (fun e=>hne (by rw [e]))⟩
theorem oO {a w:World} {row:Option Nat} (h:a.grownBy w row) (n:Nat):a.grownBy (w.drewN n) row:=⟨h.os,h.tape,h.output,h.size,h.block⟩
theorem KE (B g:Nat) (n:Nat) (w:World) (h1:1≤n) (hn:n<2 ^ 62) (hd:aZ B w g):Calls prog 19 #[.pointer (some ⟨g,0,none⟩),Iz (n:Int)] w fun e w'=>(∃k:Nat,k<n∧e=.returned (Iz (k:Int)))∧w.grownBy w' (some g)∧aZ B w' g:=by
 obtain ⟨a,len,cap,k,zs,hB,hh,hk,hN⟩:=hd;have hc:=dY hh;have hf:=dL hh;have hN':=hN;obtain ⟨hlc,hcm,hcell,hbd⟩:=hN;unfold maxLen at hcm
 by_cases hlt:k<len
 ·obtain ⟨b,off,rfl,hbB,hcx⟩:=hcell k (by omega)
  obtain ⟨z,hz⟩:∃z,z=zs.getD k 0:=⟨_,rfl⟩;have hzb:=hbd k;rw [←hz] at hcx hzb;have M:=Hh (fun (wx:World)=>SO z n wx h1 hn hzb.1 hzb.2)
  obtain ⟨m,hm⟩:∃m:Nat,z % (n:Int)=(m:Int):=⟨(z % (n:Int)).toNat,by have:=Int.emod_nonneg z (b:=(n:Int)) (by omega);omega⟩
  have hmn:m<n:=by have:=Int.emod_lt_of_pos z (b:=(n:Int)) (by omega);omega
  rw [hm] at M;have HN:=Hh hN';have HH:=Hh hh;have hne:b ≠ g:=by omega
  clear hN' hcell hbd hz hm hh
  go_enter func19,ntmps19
  have hkl:(k:Int)<(len:Int):=by omega
  have hkl2:k<len:=hlt
  go_wp2
  go_quiet (fail)
  go_wp2
  have hB1:=JD (w:=w.drewN nq) HH.o (Iz ((k:Int)+1));have hs1:=dY hB1;have hcx1:((w.drewN nq).setCell ⟨g,1,none⟩ (Iz ((k:Int)+1))).cell? ⟨b,off+k,none⟩=some (Iz z):=by
   rw [←hcx];simp only [World.cell?,heap_setCell_other (w.drewN nq) ⟨g,1,none⟩ b _ hne]
   rfl
  have ek:(k:Int)+1 - 1=(k:Int):=by omega
  have e1:IntKind.i64.wrap ((k:Int)+1 - 1)=(k:Int):=by rw [ek];exact w64 _ (by omega)
  have gg:=aH (oO (World.grownBy.refl w (some g)) nq) (QI (w.drewN nq) g (Iz ((k:Int)+1)));have hk0:(0:Int)≤(k:Int):=by omega
  have hd0:=hs1.1;have hd1:=hs1.2;have HB1:=Hh hB1;have HD:=Hh (HN.o.same (w':=(w.drewN nq).setCell ⟨g,1,none⟩ (Iz ((k:Int)+1))) fun j hj=>heap_setCell_other (w.drewN nq) ⟨g,1,none⟩ j _ (show j ≠ g by omega))
  clear hc hcx hs1 hB1
  go_quiet (first | (go_at_call 9;(with_reducible refine (M.o _).mono ?_);exact fun e u h=>⟨h.1,_,h.2.symm⟩))
  go_wp2
  go_ret
  refine ⟨⟨m,hmn,rfl⟩,oO gg _,_,len,cap,k+1,zs,hB,HB1.o,by omega,HD.o⟩
 ·have HN:=Hh hN'
  have HH:=Hh hh;have hge:(len:Int)≤(k:Int):=by omega
  have hge2:len≤k:=by omega
  clear hN' hcell hbd hh
  go_enter func19,ntmps19
  go_wp2
  go_quiet (fail)
  go_wp2
  go_ret
  refine ⟨⟨0,by omega,rfl⟩,oO (World.grownBy.refl w _) _,a,len,cap,k,zs,hB,HH.o,by omega,HN.o⟩
theorem iG {w w':World} {C e size n g:Nat} {v:Value} {xs:Vl} (h:w.ownsRow C e size v n xs) (hg:w.grownBy w' (some g)) (hlt:g<C):w'.ownsRow C e size v n xs:=by
 obtain ⟨h1,h2 | ⟨g',cap,cur,hv,hC,hh,r⟩⟩:=h
 ·exact ⟨h1,.inl h2⟩
 ·exact ⟨h1,.inr ⟨g',cap,cur,hv,hC,cM hg (by omega) hh,r⟩⟩
theorem aAj {a b:World} {C e size n:Nat} {v:Value} {xs:Vl} (h:a.ownsRow C e size v n xs) (k:a.grownBy b v.ownBlock) (j:Nat) (hj:j<C) (hs:j<a.heap.size):b.heap[j]?=a.heap[j]?:=by
 refine k.block j hs fun e=>?_
 obtain ⟨_,⟨rfl,_⟩ | ⟨g',cap,cur,rfl,hC,_⟩⟩:=h
 ·simp [Value.ownBlock] at e
 ·simp [Value.ownBlock] at e;omega
theorem DN {W a b:World} {C e size n:Nat} {v:Value} {xs:Vl} {row:Option Nat} (h:W.grownBy a row) (hown:a.ownsRow C e size v n xs) (k:a.grownBy b v.ownBlock) (hC:W.heap.size≤C):W.grownBy b row:=
 ⟨k.os.trans h.os,k.tape.trans h.tape,k.output.trans h.output,Ae h.size k.size,fun j hj hne=>(aAj hown k j (by omega) (Ll hj h.size)).trans (h.block j hj hne)⟩
theorem iW (B g:Nat) (n:Nat) (z:Int) (hz:(n:Int)=z) (w:World) (h1:1≤n) (hn:n<2 ^ 62) (hd:aZ B w g):Calls prog 19 #[.pointer (some ⟨g,0,none⟩),Iz z] w fun e w'=>(∃k:Nat,k<n∧e=.returned (Iz (k:Int)))∧w.grownBy w' (some g)∧aZ B w' g:=hz ▸ KE B g n w h1 hn hd
def aFg:Value→Nat
 | .string s=>s.size
 | _=>0
theorem aZ.setNew {B g:Nat} {w:World} (h:aZ B w g) {k:Nat} (hk:g<k) (o:Nat) (v:Value):aZ B (w.setCell ⟨k,o,none⟩ v) g:=
 h.same fun j hj=>heap_setCell_other w ⟨k,o,none⟩ j v (show j ≠ k by omega)
end Go.Proofs.YtncdpanfefnjlaaGreatDoor
namespace Go.Proofs.YtncdpanfefnjlaaGreatDoor
open Go.Proofs.Tryz
open Go Go.RowKit
inductive ND where
 | mk (kind:Int) (bool:Bool) (num:Int) (text:Bt) (names:List Bt) (items:List ND)
namespace ND
def kind:ND→Int | .mk k _ _ _ _ _=>k
def bool:ND→Bool | .mk _ b _ _ _ _=>b
def num:ND→Int | .mk _ _ n _ _ _=>n
def text:ND→Bt | .mk _ _ _ t _ _=>t
def names:ND→List Bt | .mk _ _ _ _ ns _=>ns
def items:ND→List ND | .mk _ _ _ _ _ its=>its
end ND
@[reducible] def Na (X:ND) (a:Option Addr) (l c:Nat) (b:Option Addr) (m n:Nat):Array Value:=#[.int .i64 X.kind,.bool X.bool,.int .i64 X.num,.string X.text,.slice a l c,.slice b m n]
@[reducible] def Nc (X:ND) (a:Option Addr) (l c:Nat) (b:Option Addr) (m n:Nat):List Value:=[.int .i64 X.kind,.bool X.bool,.int .i64 X.num,.string X.text,.slice a l c,.slice b m n]
def bE (S:Nat→Prop) (w:World) (v:Value) (ns:List Bt):Prop:=
 ∃ao cap,v=.slice ao ns.length cap∧ns.length≤cap∧cap≤maxLen∧∀j s,ns[j]?=some s→∃b off,ao=some ⟨b,off,none⟩∧S b∧w.cell? ⟨b,off+j,none⟩=some (.string s)∧s.size≤maxLen - 2
def cB (R:Vl→ND→Prop) (S:Nat→Prop) (w:World) (v:Value) (its:List ND):Prop:=
 ∃ao cap,v=.slice ao its.length cap∧its.length≤cap∧cap≤maxLen∧∀j x,its[j]?=some x→∃b off cs,ao=some ⟨b,off,none⟩∧S b∧(∀f u,cs[f]?=some u→w.cell? ⟨b,off+j * 6+f,none⟩=some u)∧R cs x
def aC:Nat→(Nat→Prop)→World→Vl→ND→Prop
 | 0,_,_,_,_=>False
 | d+1,S,w,cs,x=>∃vn vi,cs=[Iz x.kind,.bool x.bool,Iz x.num,.string x.text,vn,vi]∧x.text.size≤maxLen - 2∧bE S w vn x.names∧cB (aC d S w) S w vi x.items
section
variable {S S':Nat→Prop} {w w':World}
theorem bE.same {v:Value} {ns:List Bt} (h:bE S w v ns) (hb:∀b,S b→w'.heap[b]?=w.heap[b]?):bE S w' v ns:=by
 obtain ⟨ao,cap,h1,h2,h3,h4⟩:=h;refine ⟨ao,cap,h1,h2,h3,fun j s hj=>?_⟩
 obtain ⟨b,off,e,hS,hc,hs⟩:=h4 j s hj;exact ⟨b,off,e,hS,by rw [iR (hb b hS)];exact hc,hs⟩
theorem bE.mono {v:Value} {ns:List Bt} (h:bE S w v ns) (hS:∀b,S b→S' b):bE S' w v ns:=by
 obtain ⟨ao,cap,h1,h2,h3,h4⟩:=h;refine ⟨ao,cap,h1,h2,h3,fun j s hj=>?_⟩
 obtain ⟨b,off,e,hb,hc,hs⟩:=h4 j s hj;exact ⟨b,off,e,hS b hb,hc,hs⟩
theorem cB.same {R R':Vl→ND→Prop} {v:Value} {its:List ND} (h:cB R S w v its) (hb:∀b,S b→w'.heap[b]?=w.heap[b]?) (hR:∀cs x,R cs x→R' cs x):cB R' S w' v its:=by
 obtain ⟨ao,cap,h1,h2,h3,h4⟩:=h;refine ⟨ao,cap,h1,h2,h3,fun j x hj=>?_⟩
 obtain ⟨b,off,cs,e,hS,hc,hr⟩:=h4 j x hj;exact ⟨b,off,cs,e,hS,fun f u hu=>by rw [iR (hb b hS)];exact hc f u hu,hR cs x hr⟩
theorem cB.mono {R R':Vl→ND→Prop} {v:Value} {its:List ND} (h:cB R S w v its) (hS:∀b,S b→S' b) (hR:∀cs x,R cs x→R' cs x):cB R' S' w v its:=by
 obtain ⟨ao,cap,h1,h2,h3,h4⟩:=h;refine ⟨ao,cap,h1,h2,h3,fun j x hj=>?_⟩
 obtain ⟨b,off,cs,e,hb,hc,hr⟩:=h4 j x hj;exact ⟨b,off,cs,e,hS b hb,hc,hR cs x hr⟩
theorem aC.same:∀ {d:Nat} {cs:Vl} {x:ND},aC d S w cs x→(∀b,S b→w'.heap[b]?=w.heap[b]?)→aC d S w' cs x
 | 0,_,_,h,_=>h
 | d+1,cs,x,h,hb=>by
  obtain ⟨vn,vi,h1,h2,h3,h4⟩:=h;exact ⟨vn,vi,h1,h2,h3.same hb,h4.same hb fun cs x h=>aC.same h hb⟩
theorem aC.mono:∀ {d:Nat} {cs:Vl} {x:ND},aC d S w cs x→(∀b,S b→S' b)→aC d S' w cs x
 | 0,_,_,h,_=>h
 | d+1,cs,x,h,hS=>by
  obtain ⟨vn,vi,h1,h2,h3,h4⟩:=h;exact ⟨vn,vi,h1,h2,h3.mono hS,h4.mono hS fun cs x h=>aC.mono h hS⟩
theorem aC.deeper:∀ {d d':Nat} {cs:Vl} {x:ND},d≤d'→aC d S w cs x→aC d' S w cs x
 | 0,_,_,_,_,h=>h.elim
 | d+1,0,_,_,hd,_=>by omega
 | d+1,d'+1,cs,x,hd,h=>by
  obtain ⟨vn,vi,h1,h2,h3,h4⟩:=h;exact ⟨vn,vi,h1,h2,h3,h4.mono (fun _ h=>h) fun cs x h=>aC.deeper (by omega) h⟩
theorem aC.form {d:Nat} {cs:Vl} {x:ND} (h:aC d S w cs x):∃vn vi,cs=[Iz x.kind,.bool x.bool,Iz x.num,.string x.text,vn,vi]:=by
 cases d with
 | zero=>exact h.elim
 | succ d=>obtain ⟨vn,vi,h1,_⟩:=h;exact ⟨vn,vi,h1⟩
theorem aC.len {d:Nat} {cs:Vl} {x:ND} (h:aC d S w cs x):cs.length=6:=by
 obtain ⟨vn,vi,rfl⟩:=h.form
 rfl
theorem bE.nil (S:Nat→Prop) (w:World):bE S w (Sn) []:=⟨none,0,rfl,Lr _,Ax _,fun j s h=>by simp at h⟩
theorem cB.nil (R:Vl→ND→Prop) (S:Nat→Prop) (w:World):cB R S w (Sn) []:=⟨none,0,rfl,Lr _,Ax _,fun j s h=>by simp at h⟩
end
def nd0:ND:=.mk 0 false 0 ⟨#[]⟩ [] []
theorem cC (S:Nat→Prop) (w:World) (k:Int) (b:Bool) (n:Int) (t:Bt) (ht:t.size≤maxLen - 2):aC 1 S w [Iz k,.bool b,Iz n,.string t,Sn,Sn] (.mk k b n t [] []):=
 ⟨_,_,rfl,ht,bE.nil S w,cB.nil _ S w⟩
def jH (TS:TypeId) (base:Nat) (w:World) (v:Value) (ns:List Bt):Prop:=
 w.ownsRow base TS 1 v ns.length (ns.map Value.string)∧∀s,s ∈ ns→s.size≤maxLen - 2
theorem jH.nil (TS:TypeId) (base:Nat) (w:World):jH TS base w (Sn) []:=⟨Dr w _ _ _,fun x hx=>by cases hx⟩
theorem jH.kept {TS:TypeId} {base:Nat} {w w':World} {v:Value} {ns:List Bt} {row:Option Nat} (h:jH TS base w v ns) (hg:w.grownBy w' row) (hr:v.ownBlock=none∨v.ownBlock ≠ row):jH TS base w' v ns:=⟨h.1.kept hg hr,h.2⟩
theorem jH.below {TS:TypeId} {base:Nat} {w w':World} {v:Value} {ns:List Bt} (h:jH TS base w v ns) (hb:Below w.heap.size w w'):jH TS base w' v ns:=
 h.kept (aK hb (Lr _) none) (by cases e:v.ownBlock with | none=>exact .inl rfl | some b=>exact .inr (by simp))
theorem jH.push {TS:TypeId} {base:Nat} {w w2:World} {v v':Value} {ns:List Bt} {s:Bt} (h:jH TS base w v ns) (hown:w2.ownsRow base TS 1 v' (ns.length+1) (ns.map Value.string++[.string s])) (hs:s.size≤maxLen - 2):jH TS base w2 v' (ns++[s]):=by
 refine ⟨by rw [Lg,Dx];exact hown,fun x hx=>?_⟩
 rcases Bb.1 hx with hx | hx
 ·exact h.2 x hx
 ·cases At.1 hx;exact hs
theorem jH.strs {TS:TypeId} {base:Nat} {w:World} {v:Value} {ns:List Bt} (h:jH TS base w v ns):bE (fun b=>base≤b∧b<w.heap.size) w v ns:=by
 obtain ⟨h1,h2⟩:=h;rcases h1.2 with ⟨rfl,h0⟩ | ⟨g,cap,cur,rfl,hb,hg,hnc,hcm,hcs,hcu⟩
 ·have hn:ns=[]:=Au.1 h0
  subst hn;exact bE.nil _ _
 ·refine ⟨_,cap,rfl,hnc,hcm,fun j s hj=>⟨g,0,rfl,⟨hb,Aa hg⟩,?_,h2 s (Aq hj)⟩⟩
  have:=h1.cells (g:=g) rfl j (.string s) (by rw [Bc,hj];rfl)
  rw [Bn] at this;exact this
abbrev NC:=Vl × ND
def cF (A:List NC):Vl:=A.flatMap fun x=>x.1
def aE (A:List NC):List ND:=A.map fun x=>x.2
theorem jV (a b:List NC):cF (a++b)=cF a++cF b:=by simp [cF]
theorem jL:∀ {A:List NC} {j:Nat} {cs:Vl} {x:ND},(∀y,y ∈ A→y.1.length=6)→A[j]?=some (cs,x)→∀f u,cs[f]?=some u→(cF A)[j * 6+f]?=some u
 | [],_,_,_,_,h,_,_,_=>by simp at h
 | y::t,0,cs,x,hl,h,f,u,hu=>by
  simp at h;subst h;have hf:f<cs.length:=by
   rcases Cc f cs.length with h' | h'
   ·exact h'
   ·rw [By h'] at hu;cases hu
  have e:cF ((cs,x)::t)=cs++cF t:=by simp [cF]
  rw [e,Nat.zero_mul,Bv,Cq hf];exact hu
 | y::t,j+1,cs,x,hl,h,f,u,hu=>by
  have ih:=jL (A:=t) (j:=j) (fun z hz=>hl z (by simp [hz])) (by simpa using h) f u hu
  have e:cF (y::t)=y.1++cF t:=by simp [cF]
  have hy:=hl y (by simp)
  rw [e,Dl (by omega),hy,show (j+1) * 6+f - 6=j * 6+f by omega]
  exact ih
theorem iB (A:List NC) (h:∀y,y ∈ A→y.1.length=6):(cF A).length=A.length * 6:=by
 induction A with
 | nil=>rfl
 | cons x t ih=>
  have e:cF (x::t)=x.1++cF t:=by simp [cF]
  rw [e,Lg,h x (by simp),ih fun y hy=>h y (by simp [hy]),Ag];omega
def gS (TN:TypeId) (d base:Nat) (X:Option Nat) (w:World) (v:Value) (A:List NC):Prop:=
 w.ownsRow base TN 6 v A.length (cF A)∧(∀b,X=some b→v.ownBlock ≠ some b)∧∀x,x ∈ A→aC d (fun b=>base≤b∧b<w.heap.size∧v.ownBlock ≠ some b∧X ≠ some b) w x.1 x.2
theorem gS.nil (TN:TypeId) (d base:Nat) (X:Option Nat) (w:World):gS TN d base X w (Sn) []:=⟨Dr w _ _ _,fun b _ e=>by simp [Value.ownBlock] at e,fun x hx=>by cases hx⟩
theorem gS.kept {TN:TypeId} {d base:Nat} {X X':Option Nat} {w w':World} {v:Value} {A:List NC} {row:Option Nat} (h:gS TN d base X w v A) (hg:w.grownBy w' row) (hr:∀r,row=some r→r<base∨X=some r) (hX:X'=X∨∀b,X'=some b→w.heap.size≤b):gS TN d base X' w' v A:=by
 obtain ⟨h1,h0,h2⟩:=h;refine ⟨h1.kept hg ?_,?_,fun x hx=>?_⟩
 ·cases e:v.ownBlock with
  | none=>exact .inl rfl
  | some b=>
   refine .inr fun e'=>?_
   have:=(h1.lt b e).1;rcases hr b e'.symm with hr | hr
   ·omega
   ·exact h0 b hr e
 ·intro b hb e
  rcases hX with rfl | hX
  ·exact h0 b hb e
  ·have:=hX b hb
   have:=(h1.lt b e).2;omega
 ·refine ((h2 x hx).same (w':=w') fun b hb=>hg.block b hb.2.1 fun e=>?_).mono fun b hb=>⟨hb.1,Ll hb.2.1 hg.size,hb.2.2.1,fun e=>?_⟩
  ·rcases hr b e.symm with hr | hr
   ·omega
   ·exact hb.2.2.2 hr
  ·rcases hX with rfl | hX
   ·exact hb.2.2.2 e
   ·have:=hX b e
    omega
theorem gS.below {TN:TypeId} {d base:Nat} {X:Option Nat} {w w':World} {v:Value} {A:List NC} (h:gS TN d base X w v A) (hb:Below w.heap.size w w'):gS TN d base X w' v A:=
 h.kept (row:=none) ⟨hb.os,hb.tape,hb.output,hb.size,fun i hi _=>hb.block i hi⟩ (fun r e=>by cases e) (.inl rfl)
theorem gS.push {TN:TypeId} {d base:Nat} {X:Option Nat} {w w2:World} {v v':Value} {A:List NC} {cs:Vl} {x:ND} (h:gS TN d base X w v A)
 (hown:w2.ownsRow base TN 6 v' (A.length+1) (cF A++cs)) (hg:w.grownBy w2 v.ownBlock) (hat:v'.ownBlock=v.ownBlock∨∀b,v'.ownBlock=some b→w.heap.size≤b) (hXw:∀b,X=some b→b<w.heap.size)
 (hp:aC d (fun b=>base≤b∧b<w.heap.size∧v.ownBlock ≠ some b∧X ≠ some b) w cs x):gS TN d base X w2 v' (A++[(cs,x)]):=by
 obtain ⟨h1,h0,h2⟩:=h;have key:∀ (cs:Vl) (x:ND),aC d (fun b=>base≤b∧b<w.heap.size∧v.ownBlock ≠ some b∧X ≠ some b) w cs x→aC d (fun b=>base≤b∧b<w2.heap.size∧v'.ownBlock ≠ some b∧X ≠ some b) w2 cs x:=by
  intro cs x q;refine (q.same (w':=w2) fun b hb=>hg.block b hb.2.1 fun e=>hb.2.2.1 e.symm).mono fun b hb=>⟨hb.1,Ll hb.2.1 hg.size,fun e'=>?_,hb.2.2.2⟩
  rcases hat with ha | ha
  ·rw [ha] at e';exact hb.2.2.1 e'
  ·have:=ha b e'
   omega
 refine ⟨?_,?_,fun y hy=>?_⟩
 ·rw [Lg,jV]
  simpa [cF] using hown
 ·intro b hb e
  rcases hat with ha | ha
  ·rw [ha] at e;exact h0 b hb e
  ·have:=ha b e
   have:=hXw b hb;omega
 ·rcases Bb.1 hy with hy | hy
  ·exact key _ _ (h2 y hy)
  ·cases At.1 hy
   exact key _ _ hp
theorem gS.nodes {TN:TypeId} {d base:Nat} {X:Option Nat} {w:World} {v:Value} {A:List NC} (h:gS TN d base X w v A):cB (aC d (fun b=>base≤b∧b<w.heap.size) w) (fun b=>base≤b∧b<w.heap.size) w v (aE A):=by
 obtain ⟨h1,h0,h2⟩:=h;have hl:(aE A).length=A.length:=by simp [aE]
 have h6:∀y,y ∈ A→y.1.length=6:=fun y hy=>(h2 y hy).len
 rcases h1.2 with ⟨rfl,hA0⟩ | ⟨g,cap,cur,rfl,hb,hg,hnc,hcm,hcs,hcu⟩
 ·have hn:A=[]:=Au.1 hA0
  subst hn;exact cB.nil _ _ _
 ·refine ⟨_,cap,by rw [hl],by omega,hcm,fun j x hj=>?_⟩
  have hj':j<A.length:=by
   rcases Cc j A.length with h' | h'
   ·exact h'
   ·rw [By (by omega)] at hj;cases hj
  have e:A[j]?=some (A[j].1,A[j].2):=by rw [Ac hj']
  have hx:x=A[j].2:=by
   rw [aE,Bc,e] at hj;exact (Ab hj).symm
  subst hx;refine ⟨g,0,A[j].1,rfl,⟨hb,Aa hg⟩,fun f u hu=>?_,(h2 _ (Do hj')).mono fun b hb=>⟨hb.1,hb.2.1⟩⟩
  have:=h1.cells (g:=g) rfl _ _ (jL h6 e f u hu);rw [Bn,←Nat.add_assoc] at this;exact this
theorem dQ {w:World} {g j:Nat} {cs:Array Value} {T:TypeId} (h:w.heap[g]?=some (.cells cs T (0,0))) (x:Value):(w.setCell ⟨g,j,none⟩ x).heap[g]?=some (.cells (cs.setIfInBounds j x) T (0,0)):=by
 have hlt:=Aa h;have h':w.heap[g]=.cells cs T (0,0):=by simpa [Ca hlt] using h
 show (w.heap.modify g _)[g]?=_
 rw [Ca (by simpa using hlt),Array.getElem_modify_self,h']
 rfl
section
variable {w:World} {g:Nat} {a b c d e f:Value} {T:TypeId}
theorem aA (h:w.heap[g]?=some (.cells #[a,b,c,d,e,f] T (0,0))):w.cell? ⟨g,0,none⟩=some a∧w.cell? ⟨g,1,none⟩=some b∧w.cell? ⟨g,2,none⟩=some c∧w.cell? ⟨g,3,none⟩=some d∧w.cell? ⟨g,4,none⟩=some e∧w.cell? ⟨g,5,none⟩=some f:=by
 simp [World.cell?,h]
theorem aD (h:w.heap[g]?=some (.cells #[a,b,c,d,e,f] T (0,0))):w.frozen? ⟨g,0,none⟩=false∧w.frozen? ⟨g,1,none⟩=false∧w.frozen? ⟨g,2,none⟩=false∧w.frozen? ⟨g,3,none⟩=false∧w.frozen? ⟨g,4,none⟩=false∧w.frozen? ⟨g,5,none⟩=false:=by
 simp [World.frozen?,h]
theorem JO (h:w.heap[g]?=some (.cells #[a,b,c,d,e,f] T (0,0))) (x:Value):(w.setCell ⟨g,0,none⟩ x).heap[g]?=some (.cells #[x,b,c,d,e,f] T (0,0)):=dQ h x
theorem JN (h:w.heap[g]?=some (.cells #[a,b,c,d,e,f] T (0,0))) (x:Value):(w.setCell ⟨g,1,none⟩ x).heap[g]?=some (.cells #[a,x,c,d,e,f] T (0,0)):=dQ h x
theorem JM (h:w.heap[g]?=some (.cells #[a,b,c,d,e,f] T (0,0))) (x:Value):(w.setCell ⟨g,2,none⟩ x).heap[g]?=some (.cells #[a,b,x,d,e,f] T (0,0)):=dQ h x
theorem JL (h:w.heap[g]?=some (.cells #[a,b,c,d,e,f] T (0,0))) (x:Value):(w.setCell ⟨g,3,none⟩ x).heap[g]?=some (.cells #[a,b,c,x,e,f] T (0,0)):=dQ h x
theorem lI (h:w.heap[g]?=some (.cells #[a,b,c,d,e,f] T (0,0))) (x:Value):(w.setCell ⟨g,4,none⟩ x).heap[g]?=some (.cells #[a,b,c,d,x,f] T (0,0)):=dQ h x
theorem kD (h:w.heap[g]?=some (.cells #[a,b,c,d,e,f] T (0,0))) (x:Value):(w.setCell ⟨g,5,none⟩ x).heap[g]?=some (.cells #[a,b,c,d,e,x] T (0,0)):=dQ h x
def dE (w:World) (g:Nat) (a b c d e f:Value):World:=(((((w.setCell ⟨g,0,none⟩ a).setCell ⟨g,1,none⟩ b).setCell ⟨g,2,none⟩ c).setCell ⟨g,3,none⟩ d).setCell ⟨g,4,none⟩ e).setCell ⟨g,5,none⟩ f
theorem dB (h:w.heap[g]?=some (.cells #[a,b,c,d,e,f] T (0,0))) (a' b' c' d' e' f':Value):(dE w g a' b' c' d' e' f').heap[g]?=some (.cells #[a',b',c',d',e',f'] T (0,0)):=
 kD (lI (JL (JM (JN (JO h a') b') c') d') e') f'
theorem aR (w:World) (g j:Nat) (v:Value):w.grownBy (w.setCell ⟨g,j,none⟩ v) (some g):=
 ⟨rfl,rfl,rfl,by simp,fun i hi hne=>heap_setCell_other w ⟨g,j,none⟩ i v (show i ≠ g from fun e=>hne (by rw [e]))⟩
theorem aM (w:World) (g:Nat) (a b c d e f:Value):w.grownBy (dE w g a b c d e f) (some g):=
 aH (aH (aH (aH (aH (aR w g 0 a) (aR _ g 1 b)) (aR _ g 2 c)) (aR _ g 3 d)) (aR _ g 4 e)) (aR _ g 5 f)
end
theorem aP {f:Func} {Q:Ending→World→Prop} {a:Act} {w:World} {g c s:Nat} {x0 x1 x2 x3 x4 x5 v y0 y1 y2 y3 y4 y5:Value} (h:w.heap[g]?=some (.cells #[y0,y1,y2,y3,y4,y5] 28 (0,0))) (hres:f.results=#[.cell c 28,.tmp s]) (hc:a.tmps.getD c undef=.pointer (some ⟨g,0,none⟩)) (hs:a.tmps.getD s undef=v) (hd:a.defers=[])
 (hQ:Q (.returned (.tuple #[.agg #[x0,x1,x2,x3,x4,x5],v])) (dE w g x0 x1 x2 x3 x4 x5)):bodyPost prog f Q .ret a (dE w g x0 x1 x2 x3 x4 x5):=by
 refine Ar (v:=.tuple #[.agg #[x0,x1,x2,x3,x4,x5],v]) ?_ hd hQ;obtain ⟨q0,q1,q2,q3,q4,q5⟩:=aA (dB h x0 x1 x2 x3 x4 x5);obtain ⟨tm,df⟩:=a;simp only [Array.getD_eq_getD_getElem?] at hc hs;simp [results,hres,go_sem,hc,hs,q0,q1,q2,q3,q4,q5]
end Go.Proofs.YtncdpanfefnjlaaGreatDoor