import Derived.Test.YtncdpanfefnjlaaGreatDoorRows
import Derived.Test.YtncdpanfefnjlaaGreatDoorSha
set_option linter.unusedVariables false
set_option linter.unusedSimpArgs false
set_option maxRecDepth 100000
namespace Go.Proofs.YtncdpanfefnjlaaGreatDoor
open Go.Proofs.Tryz
open Go.ChangeShapes Go.WideShapes Go.ChangeAt Go.RowKit
def ZQ (l:Ub):Bt:=⟨l.toArray⟩
theorem GC (s:Bt) (w:World) (h:65536<s.size) (hm:s.size≤maxLen) :
 Calls prog 106 #[.string s] w fun e w'=>e=.returned (.tuple #[.string ⟨#[]⟩,Iz 3])∧w=w':=by
 unfold maxLen at hm
 go_enter func106,ntmps106
 go_wp2
 go_ret2
 exact ⟨rfl,rfl⟩
theorem LU (s:Bt) (w:World) (h:s.size≤65536) (hz:s.size % 3 ≠ 0) :
 Calls prog 106 #[.string s] w fun e w'=>e=.returned (.tuple #[.string ⟨#[]⟩,Iz 8])∧w=w':=by
 have hz':((s.size:Int) % 3 != 0)=true:=by simp only [bne_iff_ne,ne_eq];omega
 clear hz
 go_enter func106,ntmps106
 go_wp2
 go_ret2
 exact ⟨rfl,rfl⟩
theorem MP (g T k cap:Nat) (n:Nat) (xs:Vl) (w:World) (hk:xs.length=k) (hrow:Row w g T cap xs) (hfit:k+4≤cap) (hcap:cap≤maxLen) (hn:n<2 ^ 62) :
 Calls prog 123 #[.slice (some ⟨g,0,none⟩) k cap,Iz n,Iz 4] w fun e w'=>e=.returned (.slice (some ⟨g,0,none⟩) (k+4) cap)∧Row w' g T cap (xs++aS (kJ n 4))∧w.grownBy w' (some g):=
 RI g T k cap n 4 xs w hk hrow (by decide) hfit hcap hn
theorem aKl (x y:Nat) (hx:x<256) (hy:y<256):bits BinOp.or IntKind.i64 ((x:Int) * 65536) ((y:Int) * 256)=((x * 65536+y * 256:Nat):Int):=by
 rw [bits_join .i64 62 (by decide) BO 16 _ _ (by omega) (by omega) (by omega) (by omega) (by omega) (by omega)]
 simp
theorem or8 (x y:Nat) (hx:x<16777216) (hx':x % 256=0) (hy:y<256):bits BinOp.or IntKind.i64 (x:Int) (y:Int)=((x+y:Nat):Int):=by
 rw [bits_join .i64 62 (by decide) BO 8 _ _ (by omega) (by omega) (by omega) (by omega) (by omega) (by omega)]
 simp
theorem QP (s:Bt) (b:Nat) (w:World) (hb:s.size=3 * b) (h:s.size≤65536) :
 Calls prog 106 #[.string s] w fun e w'=>e=.returned (.tuple #[.string (ZQ (lR s.data.toList)),Iz 0])∧Below w.heap.size w w':=by
 obtain ⟨i0,hi,hz0,hz1,hz2⟩:=info_parts qE;have hmod:((s.size:Int) % 3 != 0)=false:=by simp only [bne_eq_false_iff_eq];omega
 have hdiv:(s.size:Int) / 3=(b:Int):=by omega
 have hb':b≤21845:=by omega
 have HB:=Hh hb;clear hb
 go_enter func106,ntmps106
 go_wp2_with (at_make;refine wpList_make_own _ rfl _ _ 69 rfl w.heap.size 5 i0 (.int .u8 0) 1 underlying69 hi hz0 hz1 .i64 .i64 _ (b * 4) rfl rfl (by omega) (by rw [hz2];omega) (by unfold maxLen;omega) (Lr _) ?_;intro w1 hown hgrow)
 have hr0:=(Row.of_owns hown).1;have hb0:=(Br w.heap.size w).grown hgrow (Lr _) (fun _ e=>by cases e)
 clear hown hgrow
 go_loopw [5,23] (fun v i wr=>∃j:Nat,j≤b∧i=Iz j∧v=.slice (some ⟨w.heap.size,0,none⟩) (4 * j) (b * 4)∧Row wr w.heap.size 5 (b * 4) (aS (lR (s.data.toList.take (3 * j))))∧Below w.heap.size w wr) (fun _ i _=>b - (intOf i).toNat)
 case atStart=>exact ⟨0,Ax _,rfl,rfl,by simpa [aS,lR] using hr0,hb0⟩
 case round=>
  clear hr0 hb0;obtain ⟨j,hj,rfl,rfl,hr,hbel⟩:=hrel
  by_cases hlt:j<b
  ·have hs3:3 * (j+1)≤s.size:=by rw [HB.o];omega
   go_wp2_with fail
   obtain ⟨bk,hbk⟩:∃bk,bk=s.extract (j * 3) ((j+1) * 3):=⟨_,rfl⟩;have hsz:bk.size=3:=by rw [hbk,oP s _ _ (by omega) (by omega)];omega
   obtain ⟨x0,hx0⟩:∃x:Nat,x=(s.data.toList.getD (3 * j) 0).toNat:=⟨_,rfl⟩;obtain ⟨x1,hx1⟩:∃x:Nat,x=(s.data.toList.getD (3 * j+1) 0).toNat:=⟨_,rfl⟩;obtain ⟨x2,hx2⟩:∃x:Nat,x=(s.data.toList.getD (3 * j+2) 0).toNat:=⟨_,rfl⟩;have g0:∀h,(bk[0]'h).toNat=x0:=by rw [hbk];intro h;rw [xA,hx0];simp [Nat.mul_comm]
   have g1:∀h,(bk[1]'h).toNat=x1:=by rw [hbk];intro h;rw [xA,hx1];simp [Nat.mul_comm]
   have g2:∀h,(bk[2]'h).toNat=x2:=by rw [hbk];intro h;rw [xA,hx2];simp [Nat.mul_comm]
   have b0:x0<256:=by rw [hx0];exact UInt8.toNat_lt _
   have b1:x1<256:=by rw [hx1];exact UInt8.toNat_lt _
   have b2:x2<256:=by rw [hx2];exact UInt8.toNat_lt _
   have hN:ML s.data.toList j=x0 * 65536+x1 * 256+x2:=by unfold ML;rw [hx0,hx1,hx2]
   rw [←hbk];clear hbk hx0 hx1 hx2;obtain ⟨y,hy⟩:∃y,y=x0 * 65536+x1 * 256:=⟨_,rfl⟩;obtain ⟨N,hNN⟩:∃N,N=y+x2:=⟨_,rfl⟩;have o1:=aKl x0 x1 b0 b1;rw [←hy] at o1;have o2:=or8 y x2 (by omega) (by omega) b2
   rw [←hNN] at o2;have hNlt:N<16777216:=by omega
   have HN:Hid (ML s.data.toList j=N):=by show _=_;rw [hN,hNN,hy]
   clear hN hy hNN
   go_quiet (fail)
   have hlen:(aS (lR (s.data.toList.take (3 * j)))).length=4 * j:=by
    rw [jW,iQ j _ (by simp;have:s.data.size=s.size:=rfl;omega)]
   have HL:=Hh hlen;have hstep:=DR j s.data.toList (by simp;have:s.data.size=s.size:=rfl;omega)
   rw [HN.o] at hstep;have HS:=Hh hstep;clear hlen hstep
   go_wp2_with (go_at_call 123;refine (MP w.heap.size 5 (4 * j) (b * 4) N _ _ HL.o (hr.drewN _) (by omega) (by unfold maxLen;omega) (by omega)).mono ?_;rintro e w2 ⟨rfl,hr2,hg2⟩)
   have hbel2:=fU (uU hbel _) hg2 hbel.size (Lr _);rw [←cP,←HS.o] at hr2;clear hg2 hr hbel
   go_roundw
   case rel=>exact ⟨j+1,by omega,by go_num,by rw [show 4 * (j+1)=4 * j+4 by omega],hr2,hbel2⟩
   case measure=>simp [intOf];omega
  ·have:j=b:=by omega
   subst this;have hfull:s.data.toList.take (3 * j)=s.data.toList:=by
    rw [←HB.o];exact gQ s
   rw [hfull] at hr;have hl:(lR s.data.toList).length=4 * j:=iQ j _ (by simp;exact HB.o)
   have hcv:=AG (P:=prog) wr 69 9 5 w.heap.size 5 (4 * j) (j * 4) (lR s.data.toList) hl hr underlying69 underlying5 underlying9;clear hfull hl
   go_wp2
   go_ret2
   exact ⟨rfl,hbel⟩
def aGl (l:Ub):Bt:=if 65536<l.length∨l.length % 3 ≠ 0 then ⟨#[]⟩ else ZQ (lR l)
def aGm (l:Ub):Int:=if 65536<l.length then 3 else if l.length % 3 ≠ 0 then 8 else 0
theorem LV (s:Bt) (w:World) (hm:s.size≤maxLen) :
 Calls prog 106 #[.string s] w fun e w'=>e=.returned (.tuple #[.string (aGl s.data.toList),Iz (aGm s.data.toList)])∧Below w.heap.size w w':=by
 have hl:s.data.toList.length=s.size:=by rw [Ah];rfl
 unfold aGl aGm;rw [hl]
 by_cases h:65536<s.size
 ·rw [Am (.inl h),Am h]
  exact (GC s w h hm).mono fun e w' ⟨he,hw⟩=>⟨he,hw ▸ Br _ _⟩
 ·by_cases h3:s.size % 3 ≠ 0
  ·rw [Am (.inr h3),Af h,Am h3]
   exact (LU s w (by omega) h3).mono fun e w' ⟨he,hw⟩=>⟨he,hw ▸ Br _ _⟩
  ·rw [Af (by omega),Af h,Af h3]
   exact QP s (s.size / 3) w (by omega) (by omega)
theorem SO (n:Int) (m:Nat) (w:World) (h1:1≤m) (hm:m<2 ^ 62) (hlo:-9223372036854775808≤n) (hhi:n≤9223372036854775807) :
 Calls prog 9 #[Iz n,Iz m] w fun e w'=>e=.returned (Iz (n % (m:Int)))∧w=w':=by
 obtain ⟨r,hr⟩:∃r,r=n.tmod (m:Int):=⟨_,rfl⟩;have h0:¬ (m:Int)=0:=by omega
 have hr1:-(m:Int)<r:=by
  rw [hr];have a1:=Int.lt_tmod_of_pos n (b:=(m:Int)) (by omega)
  omega
 have hr2:r<(m:Int):=by rw [hr];exact Int.tmod_lt_of_pos n (by omega)
 have hfin:(r+(m:Int)) % (m:Int)=n % (m:Int):=by
  rw [hr,Int.add_emod_right,Int.tmod_eq_emod]
  split
  ·simp
  ·rw [Int.sub_emod]
   simp
 have hfin2:r % (m:Int)=n % (m:Int):=by rw [←hfin];simp
 have HF2:=Hh hfin2;have HF:=Hh hfin;have hr':n.tmod (m:Int)=r:=hr.symm;have hmz:((m:Int) == 0)=false:=by simp;omega
 clear hr hfin hfin2
 by_cases hn:0≤n
 ·have hr3:n % (m:Int)=r:=by rw [←hr',Int.tmod_eq_emod,Am (.inl hn)];simp
  go_enter func9,ntmps9
  go_wp2
  go_ret
  first | (rw [HF.o];exact ⟨rfl,rfl⟩) | (rw [HF2.o];exact ⟨rfl,rfl⟩)
 ·go_enter func9,ntmps9
  go_wp2
  go_ret
  first | (rw [HF.o];exact ⟨rfl,rfl⟩) | (rw [HF2.o];exact ⟨rfl,rfl⟩)
theorem aIk (s:Bt):s.data.toList.length=s.size:=by rw [Ah];rfl
end Go.Proofs.YtncdpanfefnjlaaGreatDoor
namespace Go.Proofs.YtncdpanfefnjlaaGreatDoor
open Go.Proofs.Tryz
open Go Go.RowKit
def mE (B:Nat) (w:World) (v:Value) (l:List Int):Prop:=
 ∃ao cap,v=.slice ao l.length cap∧l.length≤cap∧∀j,j<l.length→∃b off,ao=some ⟨b,off,none⟩∧b<B∧w.cell? ⟨b,off+j,none⟩=some (Iz (l.getD j 0))
section
variable {B C:Nat} {w w':World} {v:Value}
theorem iR {b o:Nat} (hb:w'.heap[b]?=w.heap[b]?):w'.cell? ⟨b,o,none⟩=w.cell? ⟨b,o,none⟩:=by simp only [World.cell?,hb]
theorem mE.same {l:List Int} (h:mE B w v l) (hb:∀j,j<B→w'.heap[j]?=w.heap[j]?) (hC:B≤C):mE C w' v l:=by
 obtain ⟨ao,cap,h1,h2,h3⟩:=h;refine ⟨ao,cap,h1,h2,fun j hj=>?_⟩
 obtain ⟨b,off,e,hB,hc⟩:=h3 j hj;exact ⟨b,off,e,by omega,by rw [iR (hb b hB)];exact hc⟩
theorem mE.below {l:List Int} (h:mE B w v l) (hb:Below B w w'):mE B w' v l:=h.same hb.block (Lr _)
end
def TO (k n:Int):Prop:=k<1∨4<k∨n<0∨4095<n
instance (k n:Int):Decidable (TO k n):=by unfold TO;infer_instance
end Go.Proofs.YtncdpanfefnjlaaGreatDoor
namespace Go.Proofs.YtncdpanfefnjlaaGreatDoor
open Go.Proofs.Tryz
open Go.ChangeShapes Go.WideShapes Go.ChangeAt Go.RowKit
def wM (c:Int):Int:=kN c.toNat
def CE (c:Int):Int:=vK c.toNat
theorem JU {n:Nat} (h:n=0∨8<n):kN n=0:=by
 unfold kN;split <;> first | omega | rfl
theorem US {n:Nat} (h:n=0∨8<n):vK n=0:=by
 unfold vK;split <;> first | omega | rfl
theorem sJ {c:Int} (h:c<1∨8<c):c.toNat=0∨8<c.toNat:=by omega
end Go.Proofs.YtncdpanfefnjlaaGreatDoor
namespace Go.Proofs.YtncdpanfefnjlaaGreatDoor
open Go.Proofs.Tryz
open Go
section
variable {P:Program} {ops:Array Oper} {md:Region.Mode} {Q:Exit→Act→World→Prop}
def gZ (P:Program) (ops:Array Oper) (K:Act→Prop):List Oper→Act→Prop
 | [],a=>K a
 | o::rest,a=>∃v,Yields P ops o v a∧gZ P ops K rest (a.put o.dst v)
theorem qN {K:Act→Prop} {a:Act} (h:K a):gZ P ops K [] a:=h
theorem oA {K:Act→Prop} {a:Act} {o:Oper} {rest:List Oper} (v:Value) (hw:Region.wanted o (yielded ops a.tmps)=true)
 (hv:∀w,(execOp a.eval o).run P w=.ok (.value v) w) (h:∀K':Act→Prop,(∀a,gZ P ops K rest a→K' a)→K' (a.put o.dst v)):gZ P ops K (o::rest) a:=
 ⟨v,.inl ⟨hw,hv⟩,h _ fun _ h=>h⟩
end
end Go.Proofs.YtncdpanfefnjlaaGreatDoor
namespace Go.Proofs.YtncdpanfefnjlaaGreatDoor
open Go.Proofs.Tryz
open Go.ChangeShapes Go.WideShapes Go.ChangeAt Go.RowKit
theorem lH {w w':World} {g B:Nat} {u v:Value} (hb:Below B w w') (hg:g<B) (h:w.cell? ⟨g,0,none⟩=some u∧w.cell? ⟨g,1,none⟩=some v):w'.cell? ⟨g,0,none⟩=some u∧w'.cell? ⟨g,1,none⟩=some v:=
 ⟨by rw [hb.cell (p:=⟨g,0,none⟩) hg];exact h.1,by rw [hb.cell (p:=⟨g,1,none⟩) hg];exact h.2⟩
theorem wT (w:World) (u v:Value) (T:TypeId):(w.alloc (.cells #[u,v] T)).cell? ⟨w.heap.size,0,none⟩=some u∧(w.alloc (.cells #[u,v] T)).cell? ⟨w.heap.size,1,none⟩=some v:=by
 constructor <;> simp [go_sem]
theorem PP (l:Nat) (h:l≤2) (raw:Bt):((({ data:=#[0,0] }:Bt).extract 0 l++raw).data.toList)=List.replicate l 0++raw.data.toList:=by
 obtain rfl | rfl | rfl:l=0∨l=1∨l=2:=by omega
 all_goals (rw [ByteArray.data_append,Array.toList_append];rfl)
theorem KW (l:Nat) (raw:Bt) (h:l≤4 * ((l+raw.size) / 3)) (hm:(l+raw.size) % 3=0):l≤(lR (List.replicate l 0++raw.data.toList)).length:=by
 rw [iQ ((l+raw.size) / 3) _ (by rw [Lg,Ds,Ah];show l+raw.size=_;omega)]
 exact h
theorem aDh (a b:Ub) (l:Nat):(⟨a.toArray⟩:Bt)++(ZQ b).extract l (ZQ b).size=⟨(a++b.drop l).toArray⟩:=by
 apply Cp
 apply Ce.1
 rw [ByteArray.data_append,Array.toList_append,lQ]
 show a++(b.take b.length).drop l=_
 rw [List.take_length]
theorem dY {w:World} {g:Nat} {u v:Value} {T:TypeId} (h:w.heap[g]?=some (.cells #[u,v] T (0,0))):w.cell? ⟨g,0,none⟩=some u∧w.cell? ⟨g,1,none⟩=some v:=by
 constructor <;> simp [World.cell?,h]
theorem JE {w:World} {g:Nat} {u v:Value} {T:TypeId} (h:w.heap[g]?=some (.cells #[u,v] T (0,0))) (x:Value):(w.setCell ⟨g,0,none⟩ x).heap[g]?=some (.cells #[x,v] T (0,0)):=by
 have hlt:=Aa h;have h':w.heap[g]=.cells #[u,v] T (0,0):=by simpa [Ca hlt] using h
 show (w.heap.modify g _)[g]?=_
 rw [Ca (by simpa using hlt),Array.getElem_modify_self,h']
 rfl
theorem JD {w:World} {g:Nat} {u v:Value} {T:TypeId} (h:w.heap[g]?=some (.cells #[u,v] T (0,0))) (x:Value):(w.setCell ⟨g,1,none⟩ x).heap[g]?=some (.cells #[u,x] T (0,0)):=by
 have hlt:=Aa h;have h':w.heap[g]=.cells #[u,v] T (0,0):=by simpa [Ca hlt] using h
 show (w.heap.modify g _)[g]?=_
 rw [Ca (by simpa using hlt),Array.getElem_modify_self,h']
 rfl
theorem eG {w:World} {g:Nat} {u v:Value} {T:TypeId} (h:w.heap[g]?=some (.cells #[u,v] T (0,0))) (x y:Value):(w.setCell ⟨g,0,none⟩ x).cell? ⟨g,0,none⟩=some x∧((w.setCell ⟨g,0,none⟩ x).setCell ⟨g,1,none⟩ y).cell? ⟨g,1,none⟩=some y:=
 ⟨(dY (JE h x)).1,(dY (JD (JE h x) y)).2⟩
theorem dL {w:World} {g:Nat} {u v:Value} {T:TypeId} (h:w.heap[g]?=some (.cells #[u,v] T (0,0))):w.frozen? ⟨g,0,none⟩=false∧w.frozen? ⟨g,1,none⟩=false:=by
 constructor <;> simp [World.frozen?,h]
theorem ZW {a b:Bt} (h:a=b):(a.toList == b.toList)=true:=by rw [h];exact beq_self_eq_true _
theorem VQ {a b:Bt} (h:a ≠ b):(a.toList == b.toList)=false:=by
 rw [Db];intro e;rw [ByteArray.toList_eq,ByteArray.toList_eq] at e;exact h (bytes_inj e)
def Lay (w:World):Prop:=∀i,i<9→w.cell? ⟨1,i * 2,none⟩=some (.string ⟨(kG i).toArray⟩)∧w.cell? ⟨1,i * 2+1,none⟩=some (Iz (kN i))
theorem Lay.lt {w:World} (h:Lay w):1<w.heap.size:=cD (h 0 (by omega)).1
theorem Lay.below {w w':World} (h:Lay w) {B:Nat} (hB:1<B) (hb:Below B w w'):Lay w':=fun i hi=>
 ⟨(hb.cell (p:=⟨1,i * 2,none⟩) hB).trans (h i hi).1,(hb.cell (p:=⟨1,i * 2+1,none⟩) hB).trans (h i hi).2⟩
theorem Lay.go {w w':World} (h:Lay w) (hb:Below w.heap.size w w'):Lay w':=h.below h.lt hb
def FP (c:Int):Value:=.tuple #[.agg #[.string ⟨(kG c.toNat).toArray⟩,Iz (wM c)],.bool (decide (1≤c∧c≤8))]
theorem DW {n:Nat} (h:n=0∨8<n):kG n=[]:=by
 unfold kG;split <;> first | omega | rfl
theorem WP (n:Nat) (w:World) (hn:n≤8) (hL:Lay w):Calls prog 65 #[Iz (n:Int)] w fun e w'=>e=.returned (FP n)∧Below w.heap.size w w':=by
 obtain ⟨c0,c1⟩:=hL n (by omega)
 obtain ⟨R,hR⟩:∃R,R=FP n:=⟨_,rfl⟩;rw [←hR];unfold FP at hR;rw [show ((n:Int)).toNat=n from rfl,show wM (n:Int)=(kN n:Int) from rfl] at hR
 obtain ⟨cs,hcs⟩:∃cs:Bt,cs=⟨(kG n).toArray⟩:=⟨_,rfl⟩;obtain ⟨b,hb⟩:∃b,b=kN n:=⟨_,rfl⟩;have hq:(cs.toList == (⟨#[]⟩:Bt).toList) = !decide (1≤(n:Int)∧(n:Int)≤8):=by
  by_cases h0:n=0
  ·subst h0;rw [show decide (1≤((0:Nat):Int)∧((0:Nat):Int)≤8)=false by decide];exact ZW (by rw [hcs];rfl)
  ·rw [show decide (1≤(n:Int)∧(n:Int)≤8)=true from An (by omega)]
   refine VQ ?_;rw [hcs];intro e;have:=Ad ByteArray.size e;have h1:(kG n).length=0:=this;rcases gO (c:=n) (by omega) (by omega) with rfl | rfl | rfl | rfl | rfl | rfl | rfl | rfl <;> cases h1
 rw [←hcs,←hb] at hR;rw [←hcs] at c0;rw [←hb] at c1;obtain ⟨x,hx⟩:∃x,x=decide (1≤(n:Int)∧(n:Int)≤8):=⟨_,rfl⟩;rw [←hx] at hR hq;have HR:=Hh hR;have hlt:=hL.lt;clear hR hcs hb hx hL
 go_enter func65,ntmps65
 have hq1:cs.toList.isEmpty = !x:=by
  rw [←hq];cases h:cs.toList with
  | nil=>simp
  | cons a l=>simp
 go_wp2
 go_region
 go_wp2
 refine Ar (v:=.tuple #[.agg #[.string cs,Iz b],.bool x]) ?_ ?_ ?_;rotate_left
 ·rfl
 ·exact ⟨by rw [HR.o],(((Br _ _).alloc (Lr _) _).alloc (by simp) _).drew⟩
 ·simp [results,results65,go_sem,hq1]
theorem KY (c:Int) (h:c<1∨8<c):FP c=.tuple #[.agg #[.string ⟨#[]⟩,Iz 0],.bool false]:=by
 unfold FP;rw [DW (sJ h),show wM c=0 by unfold wM;rw [JU (sJ h)];rfl,Ap (by omega)]
theorem qV (c:Int) (w:World) (hL:Lay w):Calls prog 65 #[Iz c] w fun e w'=>e=.returned (FP c)∧Below w.heap.size w w':=by
 by_cases h:0≤c∧c≤8
 ·obtain ⟨n,rfl⟩:∃n:Nat,c=(n:Int):=⟨c.toNat,by omega⟩
  exact WP n w (by omega) hL
 ·rw [KY c (by omega)]
  clear hL;rcases (show c<0∨9≤c by omega) with h' | h'
  ·clear h
   go_enter func65,ntmps65
   go_wp2
   refine Ar (v:=.tuple #[.agg #[.string ⟨#[]⟩,Iz 0],.bool false]) ?_ ?_ ?_;rotate_left
   ·rfl
   ·exact ⟨rfl,(Br _ _).alloc (Lr _) _⟩
   ·simp [results,results65,go_sem]
  ·have h1:¬c<0:=by omega
   clear h
   go_enter func65,ntmps65
   go_wp2
   refine Ar (v:=.tuple #[.agg #[.string ⟨#[]⟩,Iz 0],.bool false]) ?_ ?_ ?_;rotate_left
   ·rfl
   ·exact ⟨rfl,(Br _ _).alloc (Lr _) _⟩
   ·simp [results,results65,go_sem]
theorem BL (cs:Bt) (b l:Nat) (w:World) (hb:b≤1000) (hl:(3 - b % 3) % 3=l):Calls prog 97 #[.agg #[.string cs,Iz (b:Int)]] w fun e w'=>e=.returned (Iz (l:Int))∧Below w.heap.size w w':=by
 have hf:(3 - (b:Int) % 3) % 3=(l:Int):=by omega
 have HF:=Hh hf;clear hl hf
 go_enter func97,ntmps97
 go_wp2
 go_ret
 exact ⟨by rw [←HF.o];rfl,(Br _ _).alloc (Lr _) _⟩
theorem w64 (n:Int) (h:-9223372036854775808≤n∧n≤9223372036854775807):IntKind.i64.wrap n=n:=by rw [IntKind.wrap_i64];omega
theorem OB (k l b a:Nat) (hk:k≤4) (hl:l≤2) (hb:b≤1000) (h:(k:Int)+((l:Int)+(b:Int)) / 3 * 4 - (l:Int)=(a:Int)) :
 IntKind.i64.wrap (IntKind.i64.wrap ((k:Int)+IntKind.i64.wrap (IntKind.i64.wrap ((IntKind.i64.wrap ((l:Int)+(b:Int))).tdiv 3) * 4)) - (l:Int))=(a:Int):=by
 rw [w64 ((l:Int)+(b:Int)) (by omega),Int.tdiv_eq_ediv_of_nonneg (by omega),w64 (((l:Int)+(b:Int)) / 3) (by omega),w64 (((l:Int)+(b:Int)) / 3 * 4) (by omega),w64 ((k:Int)+((l:Int)+(b:Int)) / 3 * 4) (by omega),w64 _ (by omega)]
 exact h
theorem BK (cs:Bt) (b l a:Nat) (w:World) (hb:b≤1000) (hc:cs.size≤4) (hl:(3 - b % 3) % 3=l) (ha:cs.size+(l+b) / 3 * 4=a+l):Calls prog 66 #[.agg #[.string cs,Iz (b:Int)]] w fun e w'=>e=.returned (Iz (a:Int))∧Below w.heap.size w w':=by
 have Ld:=Hh (fun (wx:World)=>BL cs b l wx hb hl)
 have hl2:l≤2:=by omega
 have hf:(cs.size:Int)+((l:Int)+(b:Int)) / 3 * 4 - (l:Int)=(a:Int):=by omega
 have HF:=Hh (OB cs.size l b a hc hl2 hb hf);have k0:=wT w (.string cs) (Iz (b:Int)) 99;clear hl hf ha
 go_enter func66,ntmps66
 go_wp2
 have hg:w.heap.size<(w.alloc (.cells #[.string cs,Iz (b:Int)] 99)).heap.size:=by simp
 go_region_held3 (fun w'=>w'.cell? ⟨w.heap.size,0,none⟩=some (.string cs)∧w'.cell? ⟨w.heap.size,1,none⟩=some (Iz (b:Int))) (first | exact k0 | exact k1 | exact k2)
  (first
   | (go_at_call 97;refine (Ld.o _).mono ?_;rintro e w1 ⟨rfl,hb1⟩;have k1:=lH hb1 hg k0)
   | (go_at_call 97;refine (Ld.o _).mono ?_;rintro e w2 ⟨rfl,hb2⟩;have k2:=lH hb2 (Ll hg hb1.size) k1))
 rw [HF.o]
 go_wp2
 go_ret
 exact ⟨rfl,(((Br _ _).alloc (Lr _) _).drew.trans (hb1.mono (by simp))).trans (hb2.mono (by have:=hb1.size;simp at this;omega))⟩
theorem xG (n:Nat) (w:World) (hn:n≤8):Calls prog 66 #[.agg #[.string ⟨(kG n).toArray⟩,Iz (kN n:Int)]] w fun e w'=>e=.returned (Iz (vK n:Int))∧Below w.heap.size w w':=by
 rcases Nat.eq_zero_or_pos n with rfl | h
 ·exact BK _ (kN 0) 0 (vK 0) w (by decide) (by decide) (by decide) (by decide)
 ·refine BK _ (kN n) (lW n) (vK n) w ?_ ?_ rfl (CB n h hn)
  ·rcases gO h hn with rfl | rfl | rfl | rfl | rfl | rfl | rfl | rfl <;> decide
  ·show (kG n).length≤4
   rcases gO h hn with rfl | rfl | rfl | rfl | rfl | rfl | rfl | rfl <;> decide
theorem MV (c:Int) (w:World) (hL:Lay w):Calls prog 34 #[Iz c] w fun e w'=>e=.returned (Iz (CE c))∧Below w.heap.size w w':=by
 have C:=Hh (fun (wx:World) (hx:Lay wx)=>qV c wx hx)
 unfold FP at C;have Sz:Hid (∀wx:World,Calls prog 66 #[.agg #[.string ⟨(kG c.toNat).toArray⟩,Iz (wM c)]] wx fun e w'=>e=.returned (Iz (CE c))∧Below wx.heap.size wx w'):=by
  intro wx
  by_cases h:1≤c∧c≤8
  ·obtain ⟨n,rfl⟩:∃n:Nat,c=(n:Int):=⟨c.toNat,by omega⟩
   exact xG n wx (by omega)
  ·rw [DW (sJ (by omega)),show wM c=0 by unfold wM;rw [JU (sJ (by omega))];rfl,show CE c=0 by unfold CE;rw [US (sJ (by omega))];rfl]
   exact xG 0 wx (by omega)
 obtain ⟨cs,hcs⟩:∃cs:Bt,cs=⟨(kG c.toNat).toArray⟩:=⟨_,rfl⟩;obtain ⟨x,hx⟩:∃x,x=decide (1≤c∧c≤8):=⟨_,rfl⟩;obtain ⟨r,hr⟩:∃r,r=wM c:=⟨_,rfl⟩;obtain ⟨z,hz⟩:∃z,z=CE c:=⟨_,rfl⟩;rw [←hcs,←hx,←hr] at C;rw [←hcs,←hr,←hz] at Sz;rw [←hz];have HL:=Hh hL;clear hcs hx hL hr hz
 go_enter func34,ntmps34
 go_wp2_with (first | (go_at_call 65;(with_reducible refine (C.o _ HL.o).mono ?_);rintro e w1 ⟨rfl,hb1⟩) | (go_at_call 66;(with_reducible refine (Sz.o _).mono ?_);rintro e w2 ⟨rfl,hb2⟩))
 go_ret
 exact ⟨rfl,(hb1.alloc hb1.size _).trans (hb2.mono (by have:=hb1.size;simp;omega))⟩
def qA (c:Int) (raw:Bt):Bt:=if (1≤c∧c≤8)∧raw.size=kN c.toNat then ⟨(xZ c.toNat raw.data.toList).toArray⟩ else ⟨#[]⟩
def yU (c:Int) (raw:Bt):Int:=if 1≤c∧c≤8 then (if raw.size=kN c.toNat then 0 else 8) else 7
end Go.Proofs.YtncdpanfefnjlaaGreatDoor
namespace Go.Proofs.YtncdpanfefnjlaaGreatDoor
open Go.Proofs.Tryz
open Go
section
variable {P:Program} {ops:Array Oper} {md:Region.Mode} {Q:Exit→Act→World→Prop}
def yI (md:Region.Mode) (ops:Array Oper):List Nat→Array Bool→Bool
 | t::ts,listed=>decide (Region.ready md ops listed=[t]) && yI md ops ts (listed.setIfInBounds t true)
 | [],listed=>(Region.ready md ops listed).isEmpty
def dT (ops:Array Oper) (ks:List Nat):List Oper:=ks.filterMap fun k=>ops[k]?
theorem yH:∀ (ts:List Nat) (listed:Array Bool) (a:Act) (w:World),yI md ops ts listed=true→wpList P ops Q (dT ops ts) a w→wpAny P md ops Q ts.length listed a w
 | [],listed,a,w,hB,h=>⟨by simpa [yI] using hB,by simpa [dT,wpList] using h⟩
 | t::ts,listed,a,w,hB,h=>by
  simp only [yI,Ak,Av] at hB;obtain ⟨hr,hB'⟩:=hB;have hmem:t ∈ Region.ready md ops listed:=by rw [hr];simp
  obtain ⟨_,o,ho,_⟩:=mem_ready.1 hmem;refine ⟨fun h1=>(by rw [hr] at h1;cases h1),fun i hi=>?_⟩
  rw [hr] at hi;obtain rfl:i=t:=by simpa using hi
  have hw:wpOp P ops Q i (wpList P ops Q (dT ops ts)) a w:=by
   unfold wpOp;simp only [ho];have:dT ops (i::ts)=o::dT ops ts:=by simp [dT,ho]
   rw [this] at h;exact h
  exact wpOp_mono (fun a' w' h'=>yH ts _ a' w' hB' h') hw
end
end Go.Proofs.YtncdpanfefnjlaaGreatDoor