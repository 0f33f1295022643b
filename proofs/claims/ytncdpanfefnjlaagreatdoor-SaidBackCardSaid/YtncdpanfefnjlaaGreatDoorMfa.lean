import Derived.Test.YtncdpanfefnjlaaGreatDoorJmap
set_option linter.unusedVariables false
set_option linter.unusedSimpArgs false
set_option maxHeartbeats 3200000
set_option maxRecDepth 100000
namespace Go.Proofs.YtncdpanfefnjlaaGreatDoor
open Go.Proofs.Tryz
open Go.ChangeShapes Go.WideShapes Go.ChangeAt Go.RowKit
theorem lF (B g b cap:Nat) (n:Nat) (ns:List Bt) (w:World) (h1:1≤n) (hn:n<2 ^ 62) (hl:ns.length=n) (hc:∀j s,ns[j]?=some s→w.cell? ⟨b,j,none⟩=some (.string s)) (hb:b ≠ g) (hd:aZ B w g) :
 Calls prog 41 #[.pointer (some ⟨g,0,none⟩),.slice (some ⟨b,0,none⟩) n cap] w fun e w'=>(∃s,s ∈ ns∧e=.returned (.string s))∧w.grownBy w' (some g)∧aZ B w' g:=by
 have N:=Hh (fun (wx:World) (hx:aZ B wx g)=>KE B g n wx h1 hn hx)
 go_enter func41,ntmps41
 have CC:=Hh hc;clear hc
 go_wp2_with (go_at_call 19;(with_reducible refine (N.o _ hd).mono ?_);rintro e w1 ⟨⟨k,hk,rfl⟩,hg1,hd1⟩;go_loud ((have hk1:k<ns.length:=by omega);(have hk2:(k:Int)<(n:Int):=by omega);(have hk3:(0:Int)≤(k:Int):=by omega);(have hm:ns[k] ∈ ns:=Do hk1);(have hcell:w1.cell? ⟨b,k,none⟩=some (.string ns[k]):=hg1.cell (CC.o k _ (Ac hk1)) (by intro e;have:=Ab e;dsimp only at this;omega));generalize ns[k]=s at hcell hm))
 go_ret
 exact ⟨⟨s,hm,rfl⟩,hg1,hd1⟩
theorem cR {w:World} {b:Nat} {T:TypeId} {cs:Array Value} (vs:Vl) (h:w.heap[b]?=some (.cells cs T (0,0))) (e:cs=vs.toArray):∀j v,vs[j]?=some v→w.cell? ⟨b,j,none⟩=some v:=by
 intro j v hj;subst e;simp [World.cell?,h,hj]
theorem lS {w:World} {b:Nat} {T:TypeId} {cs:Array Value} (ns:List Bt) (h:w.heap[b]?=some (.cells cs T (0,0))) (e:cs=(ns.map Value.string).toArray):∀j s,ns[j]?=some s→w.cell? ⟨b,j,none⟩=some (.string s):=
 fun j s hj=>cR _ h e j _ (by rw [Bc,hj];rfl)
def aDz (e:Ending):Prop:=∃s:Bt,aV s=true∧s.size≤300∧e=.returned (.string s)
def uE:List Bt:=[⟨#[]⟩,⟨#[97]⟩,⟨#[66,111,110,110]⟩,⟨#[97,32,34,113,117,111,116,101,100,34,32,92,32,116,101,120,116]⟩,⟨#[108,105,110,101,10,97,110,100,9,116,97,98,1,31,127]⟩,⟨#[195,164,226,130,172,240,159,152,128]⟩,⟨#[75,69,82,73,49,48,74,83,79,78,48,48,48,48,50,97,95]⟩]
theorem XC:∀s,s ∈ uE→s.size≤20∧Lib.validD s.data.toList=true:=by decide +kernel
def aHk:List Int:=[23,24,31,32,255,256]
theorem aBj:∀j,j<6→∃z:Int,aHk[j]?=some z∧z≤256:=by
 intro j hj;obtain rfl | rfl | rfl | rfl | rfl | rfl:j=0∨j=1∨j=2∨j=3∨j=4∨j=5:=by omega
 all_goals exact ⟨_,rfl,by decide⟩
theorem WU (B g:Nat) (w:World) (hd:aZ B w g) :
 Calls prog 40 #[.pointer (some ⟨g,0,none⟩)] w fun e w'=>aDz e∧w.grownBy w' (some g)∧aZ B w' g:=by
 have N10:=Hh (fun (wx:World) (hx:aZ B wx g)=>iW B g 10 10 rfl wx (by decide) (by decide) hx)
 have N6:=Hh (fun (wx:World) (hx:aZ B wx g)=>iW B g 6 6 rfl wx (by decide) (by decide) hx)
 have hgw:=hd.lt;obtain ⟨b0,hb0⟩:∃b0,b0=Obj.cells (uE.map Value.string).toArray 9 (0,0):=⟨_,rfl⟩;have WD:=Hh (lF B g w.heap.size 7 7 uE (w.alloc (.cells (uE.map Value.string).toArray 9)) (by decide) (by decide) rfl (lS uE (Hn _ _) rfl) (by omega) (hd.go ((Br w.heap.size w).alloc (Lr _) _)))
 have q0:=dP w (.cells (uE.map Value.string).toArray 9) (some g);clear hd hb0
 go_enter func40,ntmps40
 go_upto_if 7 with (first
  | (go_at_call 41;refine (WD.o).mono ?_;rintro e w1 ⟨⟨s0,hs0,rfl⟩,hg1,hd1⟩)
  | (go_at_call 19;(with_reducible refine (N10.o _ hd1).mono ?_);rintro e w2 ⟨⟨k,hk,rfl⟩,hg2,hd2⟩))
 all_goals have hs:=XC s0 hs0
 all_goals have q2:=aH (aH q0 hg1) hg2
 rotate_left
 ·go_ret
  exact ⟨⟨s0,by unfold aV;rw [hs.2,An (show s0.size≤65536 by omega)];rfl,by omega,rfl⟩,q2,hd2⟩
 ·have HQ:=Hh q2
  have HD:=Hh hd2;clear q2 hd2 hg1 hg2 hd1 q0 WD N10;generalize Value.bool ((k:Int) == 1)=vb
  go_loopw [3] (fun v wr=>∃s:Bt,Lib.validD s.data.toList=true∧s.size≤256∧v=.string s∧w.grownBy wr (some g)∧aZ B wr g) (fun v _=>300 - aFg v)
  case atStart=>exact ⟨s0,hs.2,by omega,rfl,HQ.o,HD.o⟩
  case round=>
   clear HQ HD hs hs0;obtain ⟨s,hv,hz,rfl,hq,hdi⟩:=hrel;have hcat:¬9223372036854775807<s.size+1:=by omega
   have hb0:(wr.alloc (.cells #[Iz 23,Iz 24,Iz 31,Iz 32,Iz 255,Iz 256] 3)).heap[wr.heap.size]?=some (.cells #[Iz 23,Iz 24,Iz 31,Iz 32,Iz 255,Iz 256] 3 (0,0)):=Hn _ _;have hgr:=hdi.lt;have hdA:=hdi.go ((Br wr.heap.size wr).alloc (o:=.cells #[Iz 23,Iz 24,Iz 31,Iz 32,Iz 255,Iz 256] 3) (Lr _));have hqA:=aH hq (dP wr (.cells #[Iz 23,Iz 24,Iz 31,Iz 32,Iz 255,Iz 256] 3) (some g))
   go_upto_if 17 with ((with_reducible refine (N6.o _ hdA).mono ?_);rintro e w3 ⟨⟨k3,hk3,rfl⟩,hg3,hd3⟩;go_loud ((have hb3:=cM hg3 (by omega) hb0);(obtain ⟨z,hz1,hz2⟩:=aBj k3 hk3);(have hi1:(k3:Int)<6:=by omega);(have hi2:(0:Int)≤(k3:Int):=by omega);(have hcell:w3.cell? ⟨wr.heap.size,k3,none⟩=some (Iz z):=cR (aHk.map fun z=>Iz z) hb3 rfl k3 _ (by rw [Bc,hz1];rfl))))
   have hq3:=aH hqA hg3
   by_cases hlt:(s.size:Int)<z
   ·go_wp2
    go_roundw
    case rel=>exact ⟨s++{ data:=#[120] },BV hv (by decide),by rw [ByteArray.size_append];show s.size+1≤_;omega,rfl,hq3,hd3⟩
    case measure=>
     show 300 - (s++{ data:=#[120] }).size<300 - s.size
     rw [ByteArray.size_append]
     show 300 - (s.size+1)<_
     omega
   ·go_wp2
    go_ret
    exact ⟨⟨s,by unfold aV;rw [hv,An (show s.size≤65536 by omega)];rfl,by omega,rfl⟩,hq3,hd3⟩
end Go.Proofs.YtncdpanfefnjlaaGreatDoor
namespace Go.Proofs.YtncdpanfefnjlaaGreatDoor
open Go.Proofs.Tryz
open Go Go.ChangeShapes Go.WideShapes Go.ChangeAt Go.RowKit
theorem gB {w a b:World} {row:Option Nat} {k:Nat} (h:w.grownBy a row) (hk:a.grownBy b (some k)) (hw:w.heap.size≤k):w.grownBy b row:=
 ⟨hk.os.trans h.os,hk.tape.trans h.tape,hk.output.trans h.output,Ae h.size hk.size,fun i hi hn=>(hk.block i (Ll hi h.size) (by intro e;have:=Ab e;omega)).trans (h.block i hi hn)⟩
theorem aL {w:World} {g j:Nat} {cs:Array Value} {T:TypeId} {fz:Nat × Nat} {u:Value} (h:w.heap[g]?=some (.cells cs T fz)) (hj:cs[j]?=some u):w.cell? ⟨g,j,none⟩=some u:=by simp [World.cell?,h,hj]
theorem gM {w:World} {g j:Nat} {cs:Array Value} {T:TypeId} (h:w.heap[g]?=some (.cells cs T (0,0))):w.frozen? ⟨g,j,none⟩=false:=by simp [World.frozen?,h]
def WFr (TB:TypeId) (g:Nat) (w w':World):Prop:=Below g w w'∧∀ (i:Nat) (o:Obj),i ≠ g→w.heap[i]?=some o→(∀cs fz,o ≠ .cells cs TB fz)→w'.heap[i]?=some o
theorem WFr.refl (TB:TypeId) (g:Nat) (w:World):WFr TB g w w:=⟨Br _ _,fun _ _ _ h _=>h⟩
theorem WFr.trans {TB:TypeId} {g:Nat} {a b c:World} (h:WFr TB g a b) (k:WFr TB g b c):WFr TB g a c:=⟨h.1.trans k.1,fun i o hi ho hn=>k.2 i o hi (h.2 i o hi ho hn) hn⟩
theorem WFr.of_below {TB:TypeId} {g:Nat} {w w':World} (h:Below w.heap.size w w') (hg:g≤w.heap.size):WFr TB g w w':=⟨h.mono hg,fun i o _ ho _=>(h.block i (Aa ho)).trans ho⟩
def WSt (TW TB:TypeId) (B:Nat) (w:World) (g m:Nat) (l:Ub):Prop:=∃v,w.heap[g]?=some (.cells #[v,.map (some m)] TW (0,0))∧w.ownsRow B TB 1 v l.length (aS l)∧g<B∧m<g
theorem WSt.below {TW TB:TypeId} {B:Nat} {w w':World} {g m:Nat} {l:Ub} (h:WSt TW TB B w g m l) (hb:Below w.heap.size w w'):WSt TW TB B w' g m l:=by
 obtain ⟨v,h1,h2,h3,h4⟩:=h;exact ⟨v,(hb.block g (Aa h1)).trans h1,h2.kept (aK hb (Lr _) none) (by cases e:v.ownBlock with | none=>exact .inl rfl | some b=>exact .inr (by simp)),h3,h4⟩
theorem WSt.lt {TW TB:TypeId} {B:Nat} {w:World} {g m:Nat} {l:Ub} (h:WSt TW TB B w g m l):g<w.heap.size:=by obtain ⟨v,h1,_⟩:=h;exact Aa h1
theorem WSt.le {TW TB:TypeId} {B:Nat} {w:World} {g m:Nat} {l:Ub} (h:WSt TW TB B w g m l):m<g:=by obtain ⟨v,_,_,_,h4⟩:=h;exact h4
theorem dI {w:World} {B e n:Nat} {v:Value} {xs:Vl} (h:w.ownsRow B e 1 v n xs):∃ao cap,v=.slice ao n cap∧n≤cap∧cap≤maxLen:=by
 rcases h.2 with ⟨rfl,rfl⟩ | ⟨g,cap,cur,rfl,_,_,h1,h2,_⟩
 ·exact ⟨none,0,rfl,Lr _,Ax _⟩
 ·exact ⟨_,cap,rfl,h1,h2⟩
theorem xH {TW TB:TypeId} {B:Nat} {w w8:World} {g m:Nat} {l l':Ub} {v v':Value} (h1:w.heap[g]?=some (.cells #[v,.map (some m)] TW (0,0))) (h2:w.ownsRow B TB 1 v l.length (aS l)) (hgB:g<B) (hm:m<g) (hTW:TW ≠ TB)
 (hown:w8.ownsRow B TB 1 v' l'.length (aS l')) (hgr:w.grownBy w8 v.ownBlock) :
 w8.heap[g]?=some (.cells #[v,.map (some m)] TW (0,0))∧WSt TW TB B (w8.setCell ⟨g,0,none⟩ v') g m l'∧WFr TB g w (w8.setCell ⟨g,0,none⟩ v'):=by
 have hne:v.ownBlock ≠ some g:=by
  intro e;have:=(h2.lt g e).1;omega
 have k8:w8.heap[g]?=some (.cells #[v,.map (some m)] TW (0,0)):=(hgr.block g (Aa h1) (fun e=>hne e.symm)).trans h1
 refine ⟨k8,⟨v',?_,?_,hgB,hm⟩,?_,?_⟩
 ·have:=dQ k8 (j:=0) v'
  simpa using this
 ·refine hown.kept (aR w8 g 0 v') ?_
  cases e:v'.ownBlock with
  | none=>exact .inl rfl
  | some b=>exact .inr (fun e'=>by cases e';have:=(hown.lt _ e).1;omega)
 ·have hb8:Below g w w8:=(Br g w).grown hgr (Bo (Aa h1)) (fun k hk=>by have:=(h2.lt k hk).1;omega)
  exact hb8.grown (aR w8 g 0 v') (by have:=Aa k8;omega) (fun k hk=>by cases hk;exact Lr _)
 ·intro i o hi ho hn
  rw [heap_setCell_other w8 ⟨g,0,none⟩ i v' hi];refine (hgr.block i (Aa ho) fun e=>?_).trans ho
  rcases h2.2 with ⟨rfl,-⟩ | ⟨b,cap,cur,rfl,-,hb,-⟩
  ·cases e
  ·have e:i=b:=by simpa [Value.ownBlock] using e
   subst e;rw [hb] at ho;exact hn _ _ (Ab ho).symm
def Out (l T l':Ub):Prop:=l'=l++T∨(65536<l'.length∧65536<l.length+T.length)
theorem Out.fits {l T l':Ub} (h:Out l T l') (hl:¬65536<l'.length):l'=l++T:=h.resolve_right fun q=>hl q.1
theorem Out.over {l T l':Ub} (h:Out l T l') (hl:65536<l'.length):65536<l.length+T.length:=by
 rcases h with rfl | h
 ·rwa [Lg] at hl
 ·exact h.2
theorem Out.more {l T U l' l'':Ub} (h:Out l T l') (hl:¬65536<l'.length) (k:Out l' U l''):Out l (T++U) l'':=by
 have e:=h.fits hl;rcases k with rfl | k
 ·exact .inl (by rw [e,Aj])
 ·refine .inr ⟨k.1,?_⟩
  have:=k.2;rw [e,Lg] at this;rw [Lg];omega
theorem Out.push {l T l':Ub} (h:Out l T l') (U:Ub):Out l (T++U) (l'++U):=by
 rcases h with rfl | h
 ·exact .inl (by rw [Aj])
 ·exact .inr ⟨by rw [Lg];omega,by rw [Lg];omega⟩
theorem Out.cut {l T l':Ub} (h:Out l T l') (hl:65536<l'.length) {U:Ub} (hU:T.length≤U.length):Out l U l':=.inr ⟨hl,by have:=h.over hl;omega⟩
def foC (j:Nat):Vl:=if j=0 then [Iz 1,.func (.func 126) #[] #[],.func (.func 127) #[] #[],.func (.func 128) #[] #[]] else if j=1 then [Iz 2,.func (.func 129) #[] #[],.func (.func 130) #[] #[],.func (.func 131) #[] #[]] else [Iz 3,.func (.func 132) #[] #[],.func (.func 133) #[] #[],.func (.func 134) #[] #[]]
def aHn:Vl:=foC 0++foC 1++foC 2
theorem JQ (w:World):Calls prog 113 #[] w fun e w'=>e=.returned (.slice (some ⟨w.heap.size,0,none⟩) 3 3)∧w'=w.alloc (.cells aHn.toArray 119):=by
 go_enter func113,ntmps113
 go_wp2
 go_ret
 exact ⟨rfl,rfl⟩
def MS (w:World) (g:Nat):Prop:=w.heap[g]?=some (.cells aHn.toArray 119 (0,0))
theorem MS.at {w:World} {g:Nat} (h:MS w g) (j q:Nat) (hj:j<3) (hq:q<4):w.cell? ⟨g,j * 4+q,none⟩=(foC j)[q]?:=by
 obtain ⟨u,hu⟩:∃u,(foC j)[q]?=some u:=by
  rcases (by omega:j=0∨j=1∨j=2) with rfl | rfl | rfl <;> rcases (by omega:q=0∨q=1∨q=2∨q=3) with rfl | rfl | rfl | rfl <;> exact ⟨_,rfl⟩
 rw [hu];refine aL h ?_;rw [←hu];rcases (by omega:j=0∨j=1∨j=2) with rfl | rfl | rfl <;> rcases (by omega:q=0∨q=1∨q=2∨q=3) with rfl | rfl | rfl | rfl <;> rfl
theorem aCg (k form:Int) (F1 F2 F3:Nat) (b:Nat) (w:World) (hc:w.cell? ⟨b,0,none⟩=some (Iz form)) (hb:b<w.heap.size):Calls prog 115 #[.agg #[Iz k,.func (.func F1) #[] #[],.func (.func F2) #[] #[],.func (.func F3) #[] #[]],.pointer (some ⟨b,0,none⟩)] w fun e w'=>e=.returned (.bool (k == form))∧Below w.heap.size w w':=by
 have b1:=(Br w.heap.size w).alloc (o:=.cells #[Iz k,.func (.func F1) #[] #[],.func (.func F2) #[] #[],.func (.func F3) #[] #[]] 119) (Lr _);have k1:=Hn w (.cells #[Iz k,.func (.func F1) #[] #[],.func (.func F2) #[] #[],.func (.func F3) #[] #[]] 119);have c1:=(b1.cell (p:=⟨b,0,none⟩) hb).trans hc
 go_enter func115,ntmps115
 go_upto_region 1 with fail
 generalize w.alloc _=w1 at b1 k1 c1 ⊢;have c0:=aL k1 (j:=0) rfl
 go_wp2
 go_ret
 exact ⟨rfl,b1⟩
def foI (k:Int):Int:=if k=1 then 0 else if k=2 then 1 else if k=3 then 2 else -1
theorem aCf (form:Int) (g b:Nat) (w:World) (h:MS w g) (hc:w.cell? ⟨b,0,none⟩=some (Iz form)) (hb:b<w.heap.size):Calls prog 114 #[.slice (some ⟨g,0,none⟩) 3 3,.func (.func 115) #[] #[.pointer (some ⟨b,0,none⟩)]] w fun e w'=>e=.returned (Iz (foI form))∧Below w.heap.size w w':=by
 have EQ:=Hh (fun (k:Int) (F1 F2 F3:Nat) (wx:World) (hx:Below w.heap.size w wx)=>aCg k form F1 F2 F3 b wx ((hx.cell (p:=⟨b,0,none⟩) hb).trans hc) (Ll hb hx.size))
 have H:=Hh h;have hgl:=Aa h;clear h hc
 go_enter func114,ntmps114
 go_upto_region 2 with fail
 go_loopw [8] (fun i wr=>∃j:Nat,j≤3∧i=Iz (j:Int)∧(∀i:Nat,i<j→form ≠ (i:Int)+1)∧Below w.heap.size w wr) (fun i _=>3 - (intOf i).toNat)
 case atStart=>exact ⟨0,by omega,rfl,(fun i hi=>absurd hi (Nat.not_lt_zero _)),Br _ _⟩
 case round=>
  obtain ⟨j,hj,rfl,hno,hbr⟩:=hrel;have HNO:=Hh hno;have HBR:=Hh hbr;have HA:MS wr g:=(hbr.block g hgl).trans H.o;clear hno hbr;rcases (by omega:j=0∨j=1∨j=2∨j=3) with rfl | rfl | rfl | rfl
  rotate_right
  ·go_wp2
   go_ret
   refine ⟨?_,HBR.o⟩;have h0:=HNO.o 0 (by omega)
   have h1:=HNO.o 1 (by omega)
   have h2:=HNO.o 2 (by omega)
   unfold foI;rw [Af (by omega),Af (by omega),Af (by omega)]
   rfl
  ·have s0:wr.cell? ⟨g,0,none⟩=some (Iz 1):=HA.at 0 0 (by decide) (by decide)
   have s1:wr.cell? ⟨g,1,none⟩=some (.func (.func 126) #[] #[]):=HA.at 0 1 (by decide) (by decide)
   have s2:wr.cell? ⟨g,2,none⟩=some (.func (.func 127) #[] #[]):=HA.at 0 2 (by decide) (by decide)
   have s3:wr.cell? ⟨g,3,none⟩=some (.func (.func 128) #[] #[]):=HA.at 0 3 (by decide) (by decide)
   have E:=Hh (EQ.o 1 126 127 128 wr HBR.o);cases hq:((1:Int) == form) with
   | true=>
    rw [hq] at E;have hf:Hid (foI form=0):=Hh (by rw [←eq_of_beq hq];rfl)
    clear hq HA
    go_wp2_with (go_at_call 115;(with_reducible refine (E.o).mono ?_);rintro e w3 ⟨rfl,hb3⟩)
    go_ret
    exact ⟨by rw [hf.o];rfl,HBR.o.trans (hb3.mono HBR.o.size)⟩
   | false=>
    rw [hq] at E;have hne:form ≠ 1:=fun h=>by rw [h] at hq;cases hq
    have HNE:=Hh hne;clear hq HA hne
    go_wp2_with (go_at_call 115;(with_reducible refine (E.o).mono ?_);rintro e w3 ⟨rfl,hb3⟩)
    go_roundw
    case rel=>exact ⟨1,by omega,by go_num,fun i hi=>by
     rcases (by omega:i<0∨i=0) with h | h
     ·exact HNO.o i h
     ·subst h;exact HNE.o,HBR.o.trans (hb3.mono HBR.o.size)⟩
    case measure=>simp [intOf]
  ·have s0:wr.cell? ⟨g,4,none⟩=some (Iz 2):=HA.at 1 0 (by decide) (by decide)
   have s1:wr.cell? ⟨g,5,none⟩=some (.func (.func 129) #[] #[]):=HA.at 1 1 (by decide) (by decide)
   have s2:wr.cell? ⟨g,6,none⟩=some (.func (.func 130) #[] #[]):=HA.at 1 2 (by decide) (by decide)
   have s3:wr.cell? ⟨g,7,none⟩=some (.func (.func 131) #[] #[]):=HA.at 1 3 (by decide) (by decide)
   have E:=Hh (EQ.o 2 129 130 131 wr HBR.o);cases hq:((2:Int) == form) with
   | true=>
    rw [hq] at E;have hf:Hid (foI form=1):=Hh (by rw [←eq_of_beq hq];rfl)
    clear hq HA
    go_wp2_with (go_at_call 115;(with_reducible refine (E.o).mono ?_);rintro e w3 ⟨rfl,hb3⟩)
    go_ret
    exact ⟨by rw [hf.o];rfl,HBR.o.trans (hb3.mono HBR.o.size)⟩
   | false=>
    rw [hq] at E;have hne:form ≠ 2:=fun h=>by rw [h] at hq;cases hq
    have HNE:=Hh hne;clear hq HA hne
    go_wp2_with (go_at_call 115;(with_reducible refine (E.o).mono ?_);rintro e w3 ⟨rfl,hb3⟩)
    go_roundw
    case rel=>exact ⟨2,by omega,by go_num,fun i hi=>by
     rcases (by omega:i<1∨i=1) with h | h
     ·exact HNO.o i h
     ·subst h;exact HNE.o,HBR.o.trans (hb3.mono HBR.o.size)⟩
    case measure=>simp [intOf]
  ·have s0:wr.cell? ⟨g,8,none⟩=some (Iz 3):=HA.at 2 0 (by decide) (by decide)
   have s1:wr.cell? ⟨g,9,none⟩=some (.func (.func 132) #[] #[]):=HA.at 2 1 (by decide) (by decide)
   have s2:wr.cell? ⟨g,10,none⟩=some (.func (.func 133) #[] #[]):=HA.at 2 2 (by decide) (by decide)
   have s3:wr.cell? ⟨g,11,none⟩=some (.func (.func 134) #[] #[]):=HA.at 2 3 (by decide) (by decide)
   have E:=Hh (EQ.o 3 132 133 134 wr HBR.o);cases hq:((3:Int) == form) with
   | true=>
    rw [hq] at E;have hf:Hid (foI form=2):=Hh (by rw [←eq_of_beq hq];rfl)
    clear hq HA
    go_wp2_with (go_at_call 115;(with_reducible refine (E.o).mono ?_);rintro e w3 ⟨rfl,hb3⟩)
    go_ret
    exact ⟨by rw [hf.o];rfl,HBR.o.trans (hb3.mono HBR.o.size)⟩
   | false=>
    rw [hq] at E;have hne:form ≠ 3:=fun h=>by rw [h] at hq;cases hq
    have HNE:=Hh hne;clear hq HA hne
    go_wp2_with (go_at_call 115;(with_reducible refine (E.o).mono ?_);rintro e w3 ⟨rfl,hb3⟩)
    go_roundw
    case rel=>exact ⟨3,by omega,by go_num,fun i hi=>by
     rcases (by omega:i<2∨i=2) with h | h
     ·exact HNO.o i h
     ·subst h;exact HNE.o,HBR.o.trans (hb3.mono HBR.o.size)⟩
    case measure=>simp [intOf]
theorem XS (k:Int):(k=1∧foI k=0)∨(k=2∧foI k=1)∨(k=3∧foI k=2)∨((k<1∨3<k)∧foI k=-1):=by
 unfold foI
 by_cases h1:k=1
 ·exact .inl ⟨h1,by rw [Am h1]⟩
 by_cases h2:k=2
 ·exact .inr (.inl ⟨h2,by rw [Af h1,Am h2]⟩)
 by_cases h3:k=3
 ·exact .inr (.inr (.inl ⟨h3,by rw [Af h1,Af h2,Am h3]⟩))
 exact .inr (.inr (.inr ⟨by omega,by rw [Af h1,Af h2,Af h3]⟩))
def foR (k:Int):Vl:=if k=1 then foC 0 else if k=2 then foC 1 else if k=3 then foC 2 else [Iz 0,.nilFunc,.nilFunc,.nilFunc]
end Go.Proofs.YtncdpanfefnjlaaGreatDoor