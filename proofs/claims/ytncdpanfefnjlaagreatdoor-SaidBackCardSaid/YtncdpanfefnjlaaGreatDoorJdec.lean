import Derived.Test.YtncdpanfefnjlaaGreatDoorJits
set_option linter.unusedVariables false
set_option linter.unusedSimpArgs false
set_option maxHeartbeats 6400000
set_option maxRecDepth 100000
namespace Go.Proofs.YtncdpanfefnjlaaGreatDoor
open Go.Proofs.Tryz
open Go Go.ChangeShapes Go.WideShapes Go.ChangeAt Go.RowKit
theorem ZK {d:Nat} {q t:Ub} {y:ND} (h:bR (d+1) (91::q)=some (y,t)):∃n0 ns its,cX (bR d) (decide ((4:Int)=5)) 93 n0 [] [] q=some ((ns,its),t)∧y=.mk 4 false 0 ⟨#[]⟩ ns its:=by
 rw [fQ d 91 q (by decide) (by decide) (by decide),Af (by decide),Am rfl] at h
 cases hi:cX (bR d) false 93 (q.length+1) [] [] q with
 | none=>rw [hi] at h;cases h
 | some z=>
  obtain ⟨⟨ns,its⟩,t'⟩:=z;rw [hi] at h;cases h;exact ⟨q.length+1,ns,its,hi,rfl⟩
theorem aEx {d:Nat} {q t:Ub} {y:ND} (h:bR (d+1) (123::q)=some (y,t)):∃n0 ns its,cX (bR d) (decide ((5:Int)=5)) 125 n0 [] [] q=some ((ns,its),t)∧y=.mk 5 false 0 ⟨#[]⟩ ns its:=by
 rw [fQ d 123 q (by decide) (by decide) (by decide),Af (by decide),Af (by decide),Am rfl] at h
 cases hi:cX (bR d) true 125 (q.length+1) [] [] q with
 | none=>rw [hi] at h;cases h
 | some z=>
  obtain ⟨⟨ns,its⟩,t'⟩:=z;rw [hi] at h;cases h;exact ⟨q.length+1,ns,its,hi,rfl⟩
theorem ZJ {d:Nat} {q t:Ub} {y:ND} (h:bR (d+1) (34::q)=some (y,t)):∃s,cT q=some (s,t)∧y=.mk 3 false 0 (bA s) [] []:=by
 rw [fQ d 34 q (by decide) (by decide) (by decide),Am rfl] at h
 cases hi:cT q with
 | none=>rw [hi] at h;cases h
 | some z=>
  obtain ⟨s,t'⟩:=z;rw [hi] at h;cases h;exact ⟨s,rfl,rfl⟩
theorem aEw (d:Nat):bR d []=none:=by
 cases d with
 | zero=>rfl
 | succ d=>unfold bR;rw [Am rfl]
theorem PH {c:UInt8} {r:Ub} (h:Lib.hasPrefix r [c]=false) (q:Ub):r ≠ c::q:=by
 rintro rfl;rw [sP] at h;simp at h
theorem ZY {V:ND→Ub→Prop} {g mw mc:Nat} {r:Ub} {w:World} {e:Ending} {w':World} (D:Nat) (h:wK V 0 g mw mc r w e w'):wK V D g mw mc r w e w':=by
 obtain ⟨cs,x,ok,r',h1,h2,h3,h4,h5,⟨-,h7⟩,h8⟩:=h;have hi:x.items=[]:=by
  obtain ⟨vn,vi,-,-,-,a,c,-,-,-,hx⟩:=h2;refine List.eq_nil_iff_forall_not_mem.2 fun y hy=>?_
  obtain ⟨j,hj⟩:=List.getElem?_of_mem hy;obtain ⟨b,off,cs,-,-,-,hf⟩:=hx j y hj;exact hf
 refine ⟨cs,x,ok,r',h1,h2.deeper (by omega),h3,h4,h5,⟨⟨by rw [hi];simp,fun y hy=>by rw [hi] at hy;simp at hy⟩,?_⟩,h8⟩
 rw [cJ,Ak] at h7 ⊢;exact ⟨h7.1,by rw [hi];rfl⟩
theorem yK {V:ND→Ub→Prop} {d g mw mc:Nat} {r:Ub} {w wX wY:World} {x:ND} {ok:Bool} {r':Ub} {a1 a2:Option Addr} {l1 c1 l2 c2:Nat}
 (hn:aC (d+1) (fun b=>wX.heap.size≤b∧b<wY.heap.size) wY (Nc x a1 l1 c1 a2 l2 c2) x) (hX:w.heap.size<wX.heap.size) (hp:PrS wY g mw mc r') (hg:w.grownBy wY (some g)) (hgw:g<w.heap.size) (hl:r'.length≤r.length) (hf:jN (d+1) x∧aO (d+1) x=true) (hV:∀y t,V y t→ok=true∧x=y∧r'=t) :
 wK V d g mw mc r w (.returned (.tuple #[.agg (Na x a1 l1 c1 a2 l2 c2),.bool ok])) (dE wY w.heap.size (Iz x.kind) (.bool x.bool) (Iz x.num) (.string x.text) (.slice a1 l1 c1) (.slice a2 l2 c2)):=by
 have hgs:=aM wY w.heap.size (Iz x.kind) (.bool x.bool) (Iz x.num) (.string x.text) (.slice a1 l1 c1) (.slice a2 l2 c2);refine ⟨(Nc x a1 l1 c1 a2 l2 c2),x,ok,r',rfl,?_,hp.kept hgs hgw,gB hg hgs (Lr _),hl,hf,hV⟩;exact (hn.same fun b hb=>hgs.block b hb.2 (by intro e;have:=Ab e;omega)).mono fun b hb=>⟨by omega,Ll hb.2 hgs.size⟩
theorem OR:tD 0:=by
 intro g mw mc r w h hr;have hgw:=h.lt;have bA':=(Br w.heap.size w).alloc (o:=.cells Z6 28) (Lr _);have h0:=h.below bA';have hr0:=Hn w (.cells Z6 28);have hg0:=dP w (.cells Z6 28) (some g);have hz0:w.heap.size<(w.alloc (.cells Z6 28)).heap.size:=by simp
 have HP:=Hh (Ai h0 hg0);have HR:=Hh hr0;have f1:=aD hr0;have c1:=aA hr0;clear h bA' h0 hg0 hr0
 go_enter func144,ntmps144
 go_upto_region 1 with fail
 generalize w.alloc (.cells Z6 28)=w0 at HP HR f1 c1 ⊢
 go_wp2
 refine aP (v:=.bool false) HR.o results144 rfl rfl rfl ?_;exact iZ (T:=0) 0 false 0 ⟨#[]⟩ false HP.o.1 HP.o.2 hgw (Lr _) (by decide) (by decide) (fun y t hV=>by have:=hV.1;cases this)
theorem OT (d:Nat) (hd20:d≤20) (PN:tD d):tD (d+1):=by
 intro g mw mc r w h hr;rw [show ((d+1:Nat):Int)=(d:Int)+1 by omega]
 have hgw:=h.lt;have bA':=(Br w.heap.size w).alloc (o:=.cells Z6 28) (Lr _);have h0:=h.below bA';have hr0:=Hn w (.cells Z6 28);have hg0:=dP w (.cells Z6 28) (some g);have hz0:w.heap.size<(w.alloc (.cells Z6 28)).heap.size:=by simp
 cases hp91:Lib.hasPrefix r [91] with
 | true=>
  have hrr0:=dW hp91;obtain ⟨q,hq⟩:∃q,q=r.drop 1:=⟨_,rfl⟩;have hrr:r=91::q:=by rw [hq];exact hrr0
  have hql:q.length+1=r.length:=by rw [hrr];rfl
  have S91:Hid (∀wx:World,PrS wx g mw mc r→Calls prog 163 #[.pointer (some ⟨g,0,none⟩),.string ⟨#[91]⟩] wx (eT g mw mc wx (.bool true) q)):=Hh fun wx hx=>by
   have:=dK ⟨#[91]⟩ wx hx;rw [show (⟨#[91]⟩:Bt).data.toList=[91] from rfl,hp91,iM hp91] at this
   rw [hq];exact this
  have HRR:=Hh hrr;clear hrr0 hrr hq hp91;have IT:=Hh (fun (wx:World) (hx:PrS wx g mw mc q)=>yW d hd20 PN 4 93 (by decide) wx hx (by omega))
  have HV0:Hid (∀y t,(bR (d+1) r=some (y,t)∧uM t)→lT d 4 93 q y t):=Hh fun y t hy=>by rw [HRR.o] at hy;exact ZK hy.1
  clear h PN HRR;have h1d:¬ (d:Int)+1<1:=by omega
  go_enter func144,ntmps144
  go_upto_region 1 with fail
  generalize w.alloc (.cells Z6 28)=w0 at h0 hr0 hg0 hz0 ⊢;have HR:=Hh hr0;clear hr0 bA'
  go_wp2_with (first | (go_at_call 163;(with_reducible refine (S91.o _ h0).mono ?_);rintro e1 w1 ⟨rfl,hp1,hg1⟩) | (go_at_call 164;(with_reducible refine (IT.o _ hp1).mono ?_);rintro e5 w5 ⟨cs,x,ok,r',rfl,hnode,hp5,hg5,hl5,hf5,hv5⟩;go_loud ((obtain ⟨a1,l1,c1,a2,l2,c2,hcs⟩:=hnode.slices);subst hcs;(have hr9:=cM (aH hg1 hg5) (by omega) HR.o);(have f9:=aD hr9);(have c9:=aA hr9);(have HR9:=Hh hr9);(have HN:=Hh (Ai hnode (Ai hp5 hf5)));(have HG:=Hh (Ai (hg1).size (aH hg1 hg5)));(have HL:Hid (r'.length≤r.length):=Hh (by omega));(have HVV:Hid (∀y t,(bR (d+1) r=some (y,t)∧uM t)→ok=true∧x=y∧r'=t):=Hh fun y t hy=>hv5 y t (HV0.o y t hy));clear hr9 hnode hp5 hf5 hg5 hv5)))
  refine aP (v:=.bool ok) HR9.o results144 rfl rfl rfl ?_;exact yK HN.o.1 (Ll hz0 HG.o.1) HN.o.2.1 (aH hg0 HG.o.2) hgw HL.o HN.o.2.2 HVV.o
 | false=>
  cases hp123:Lib.hasPrefix r [123] with
  | true=>
   have S91:Hid (∀wx:World,PrS wx g mw mc r→Calls prog 163 #[.pointer (some ⟨g,0,none⟩),.string ⟨#[91]⟩] wx (eT g mw mc wx (.bool false) r)):=Hh fun wx hx=>by
    have:=dK ⟨#[91]⟩ wx hx;rw [show (⟨#[91]⟩:Bt).data.toList=[91] from rfl,hp91,fF hp91] at this
    exact this
   clear hp91;have hrr0:=dW hp123;obtain ⟨q,hq⟩:∃q,q=r.drop 1:=⟨_,rfl⟩;have hrr:r=123::q:=by rw [hq];exact hrr0
   have hql:q.length+1=r.length:=by rw [hrr];rfl
   have S123:Hid (∀wx:World,PrS wx g mw mc r→Calls prog 163 #[.pointer (some ⟨g,0,none⟩),.string ⟨#[123]⟩] wx (eT g mw mc wx (.bool true) q)):=Hh fun wx hx=>by
    have:=dK ⟨#[123]⟩ wx hx;rw [show (⟨#[123]⟩:Bt).data.toList=[123] from rfl,hp123,iM hp123] at this
    rw [hq];exact this
   have HRR:=Hh hrr;clear hrr0 hrr hq hp123;have IT:=Hh (fun (wx:World) (hx:PrS wx g mw mc q)=>yW d hd20 PN 5 125 (by decide) wx hx (by omega))
   have HV0:Hid (∀y t,(bR (d+1) r=some (y,t)∧uM t)→lT d 5 125 q y t):=Hh fun y t hy=>by rw [HRR.o] at hy;exact aEx hy.1
   clear h PN HRR;have h1d:¬ (d:Int)+1<1:=by omega
   go_enter func144,ntmps144
   go_upto_region 1 with fail
   generalize w.alloc (.cells Z6 28)=w0 at h0 hr0 hg0 hz0 ⊢;have HR:=Hh hr0;clear hr0 bA'
   go_wp2_with (first | (go_at_call 163;(with_reducible refine (S91.o _ h0).mono ?_);rintro e1 w1 ⟨rfl,hp1,hg1⟩) | (go_at_call 163;(with_reducible refine (S123.o _ hp1).mono ?_);rintro e2 w2 ⟨rfl,hp2,hg2⟩) | (go_at_call 164;(with_reducible refine (IT.o _ hp2).mono ?_);rintro e5 w5 ⟨cs,x,ok,r',rfl,hnode,hp5,hg5,hl5,hf5,hv5⟩;go_loud ((obtain ⟨a1,l1,c1,a2,l2,c2,hcs⟩:=hnode.slices);subst hcs;(have hr9:=cM (aH (aH hg1 hg2) hg5) (by omega) HR.o);(have f9:=aD hr9);(have c9:=aA hr9);(have HR9:=Hh hr9);(have HN:=Hh (Ai hnode (Ai hp5 hf5)));(have HG:=Hh (Ai ((aH hg1 hg2)).size (aH (aH hg1 hg2) hg5)));(have HL:Hid (r'.length≤r.length):=Hh (by omega));(have HVV:Hid (∀y t,(bR (d+1) r=some (y,t)∧uM t)→ok=true∧x=y∧r'=t):=Hh fun y t hy=>hv5 y t (HV0.o y t hy));clear hr9 hnode hp5 hf5 hg5 hv5)))
   refine aP (v:=.bool ok) HR9.o results144 rfl rfl rfl ?_;exact yK HN.o.1 (Ll hz0 HG.o.1) HN.o.2.1 (aH hg0 HG.o.2) hgw HL.o HN.o.2.2 HVV.o
  | false=>
   cases hp34:Lib.hasPrefix r [34] with
   | true=>
    have S91:Hid (∀wx:World,PrS wx g mw mc r→Calls prog 163 #[.pointer (some ⟨g,0,none⟩),.string ⟨#[91]⟩] wx (eT g mw mc wx (.bool false) r)):=Hh fun wx hx=>by
     have:=dK ⟨#[91]⟩ wx hx;rw [show (⟨#[91]⟩:Bt).data.toList=[91] from rfl,hp91,fF hp91] at this
     exact this
    have S123:Hid (∀wx:World,PrS wx g mw mc r→Calls prog 163 #[.pointer (some ⟨g,0,none⟩),.string ⟨#[123]⟩] wx (eT g mw mc wx (.bool false) r)):=Hh fun wx hx=>by
     have:=dK ⟨#[123]⟩ wx hx;rw [show (⟨#[123]⟩:Bt).data.toList=[123] from rfl,hp123,fF hp123] at this
     exact this
    clear hp91 hp123;have hrr0:=dW hp34;obtain ⟨q,hq⟩:∃q,q=r.drop 1:=⟨_,rfl⟩;have hrr:r=34::q:=by rw [hq];exact hrr0
    have hql:q.length+1=r.length:=by rw [hrr];rfl
    have S34:Hid (∀wx:World,PrS wx g mw mc r→Calls prog 163 #[.pointer (some ⟨g,0,none⟩),.string ⟨#[34]⟩] wx (eT g mw mc wx (.bool true) q)):=Hh fun wx hx=>by
     have:=dK ⟨#[34]⟩ wx hx;rw [show (⟨#[34]⟩:Bt).data.toList=[34] from rfl,hp34,iM hp34] at this
     rw [hq];exact this
    have HRR:=Hh hrr;clear hrr0 hrr hq hp34;have QT:=Hh (fun (wx:World) (hx:PrS wx g mw mc q)=>vP wx hx (by omega))
    have HV0:Hid (∀y t,(bR (d+1) r=some (y,t)∧uM t)→∃s,cT q=some (s,t)∧y=.mk 3 false 0 (bA s) [] []):=Hh fun y t hy=>by rw [HRR.o] at hy;exact ZJ hy.1
    clear h PN HRR;have h1d:¬ (d:Int)+1<1:=by omega
    go_enter func144,ntmps144
    go_upto_region 1 with fail
    generalize w.alloc (.cells Z6 28)=w0 at h0 hr0 hg0 hz0 ⊢;have HR:=Hh hr0;clear hr0 bA'
    go_wp2_with (first | (go_at_call 163;(with_reducible refine (S91.o _ h0).mono ?_);rintro e1 w1 ⟨rfl,hp1,hg1⟩) | (go_at_call 163;(with_reducible refine (S123.o _ hp1).mono ?_);rintro e2 w2 ⟨rfl,hp2,hg2⟩) | (go_at_call 163;(with_reducible refine (S34.o _ hp2).mono ?_);rintro e3 w3 ⟨rfl,hp3,hg3⟩) | (go_at_call 165;(with_reducible refine (QT.o _ hp3).mono ?_);rintro e5 w5 ⟨sl,ok,r',rfl,hp5,hg5,hl5,hq5⟩;(have NT:=Hh (gA (bA sl) w5));(have HQ5:=Hh hq5);clear hq5) | (go_at_call 50;(with_reducible refine (NT.o).mono ?_);rintro e6 w6 ⟨rfl,hb6⟩;(have hg9:=aH (aH (aH (aH hg1 hg2) hg3) hg5) (aK hb6 (Lr _) _));(have hr9:=cM hg9 (by omega) HR.o);(have f9:=aD hr9);(have c9:=aA hr9);(have HR9:=Hh hr9);(have HP9:=Hh (Ai (hp5.below hb6) (aH hg0 hg9)));clear hr9 hg9))
    refine aP (v:=.bool ok) HR9.o results144 rfl rfl rfl ?_;exact iZ (T:=0) 3 false 0 (bA sl) ok HP9.o.1 HP9.o.2 hgw (by omega) (by rw [jF];unfold maxLen;omega) (by decide) (fun y t hV=>by
     obtain ⟨s',e1,e2⟩:=HV0.o y t hV;obtain ⟨h1,h2,h3⟩:=HQ5.o s' t e1;subst h2;exact ⟨h1,e2.symm,h3⟩)
   | false=>
    have S91:Hid (∀wx:World,PrS wx g mw mc r→Calls prog 163 #[.pointer (some ⟨g,0,none⟩),.string ⟨#[91]⟩] wx (eT g mw mc wx (.bool false) r)):=Hh fun wx hx=>by
     have:=dK ⟨#[91]⟩ wx hx;rw [show (⟨#[91]⟩:Bt).data.toList=[91] from rfl,hp91,fF hp91] at this
     exact this
    have S123:Hid (∀wx:World,PrS wx g mw mc r→Calls prog 163 #[.pointer (some ⟨g,0,none⟩),.string ⟨#[123]⟩] wx (eT g mw mc wx (.bool false) r)):=Hh fun wx hx=>by
     have:=dK ⟨#[123]⟩ wx hx;rw [show (⟨#[123]⟩:Bt).data.toList=[123] from rfl,hp123,fF hp123] at this
     exact this
    have S34:Hid (∀wx:World,PrS wx g mw mc r→Calls prog 163 #[.pointer (some ⟨g,0,none⟩),.string ⟨#[34]⟩] wx (eT g mw mc wx (.bool false) r)):=Hh fun wx hx=>by
     have:=dK ⟨#[34]⟩ wx hx;rw [show (⟨#[34]⟩:Bt).data.toList=[34] from rfl,hp34,fF hp34] at this
     exact this
    have BR:=Hh (fun (wx:World) (hx:PrS wx g mw mc r)=>(aDp wx hx hr).mono fun e w' hh=>ZY (d+1) hh)
    have HV0:Hid (∀y t,(bR (d+1) r=some (y,t)∧uM t)→uY r y t):=Hh fun y t hy=>by
     cases hrr:r with
     | nil=>rw [hrr,aEw] at hy;cases hy.1
     | cons c q=>
      rw [hrr] at hy;exact aDo hy.1 (fun e=>PH hp34 q (by rw [hrr,e])) (fun e=>PH hp91 q (by rw [hrr,e])) (fun e=>PH hp123 q (by rw [hrr,e])) hy.2
    clear h PN hp91 hp123 hp34;have h1d:¬ (d:Int)+1<1:=by omega
    go_enter func144,ntmps144
    go_upto_region 1 with fail
    generalize w.alloc (.cells Z6 28)=w0 at h0 hr0 hg0 hz0 ⊢;have HR:=Hh hr0;clear hr0 bA'
    go_wp2_with (first | (go_at_call 163;(with_reducible refine (S91.o _ h0).mono ?_);rintro e1 w1 ⟨rfl,hp1,hg1⟩) | (go_at_call 163;(with_reducible refine (S123.o _ hp1).mono ?_);rintro e2 w2 ⟨rfl,hp2,hg2⟩) | (go_at_call 163;(with_reducible refine (S34.o _ hp2).mono ?_);rintro e3 w3 ⟨rfl,hp3,hg3⟩) | (go_at_call 166;(with_reducible refine (BR.o _ hp3).mono ?_);rintro e5 w5 ⟨cs,x,ok,r',rfl,hnode,hp5,hg5,hl5,hf5,hv5⟩;go_loud ((obtain ⟨a1,l1,c1,a2,l2,c2,hcs⟩:=hnode.slices);subst hcs;(have hr9:=cM (aH (aH (aH hg1 hg2) hg3) hg5) (by omega) HR.o);(have f9:=aD hr9);(have c9:=aA hr9);(have HR9:=Hh hr9);(have HN:=Hh (Ai hnode (Ai hp5 hf5)));(have HG:=Hh (Ai ((aH (aH hg1 hg2) hg3)).size (aH (aH (aH hg1 hg2) hg3) hg5)));(have HL:Hid (r'.length≤r.length):=Hh (hl5));(have HVV:Hid (∀y t,(bR (d+1) r=some (y,t)∧uM t)→ok=true∧x=y∧r'=t):=Hh fun y t hy=>hv5 y t (HV0.o y t hy));clear hr9 hnode hp5 hf5 hg5 hv5)))
    refine aP (v:=.bool ok) HR9.o results144 rfl rfl rfl ?_;exact yK HN.o.1 (Ll hz0 HG.o.1) HN.o.2.1 (aH hg0 HG.o.2) hgw HL.o HN.o.2.2 HVV.o
theorem CW:∀d,d≤20→tD d
 | 0,_=>OR
 | d+1,h=>OT d (by omega) (CW d (by omega))
def AU (s:Bt) (x:ND) (er:Int):Prop:=(er=0∧aB 8 x=true∧aO 8 x=true∧aT 8 x=s.data.toList∧s.size≤65536)∨(er=4∧x=nd0∧∀y,aB 8 y=true→aO 8 y=true→s.size≤65536→aT 8 y ≠ s.data.toList)
def TV (s:Bt) (w:World) (e:Ending) (w':World):Prop:=∃ (cs:Vl) (x:ND) (er:Int),e=.returned (.tuple #[.agg cs.toArray,Iz er])∧aC 9 (fun b=>w.heap.size≤b∧b<w'.heap.size) w' cs x∧Below w.heap.size w w'∧AU s x er
theorem sS {s:Bt} {w wx:World} (hb:Below w.heap.size w wx) (hV:AU s nd0 4) :
 TV s w (.returned (.tuple #[.agg Z6,Iz 4])) (dE wx w.heap.size (Iz 0) (.bool false) (Iz 0) (.string ⟨#[]⟩) (Sn) (Sn)):=by
 have hgs:=aM wx w.heap.size (Iz 0) (.bool false) (Iz 0) (.string ⟨#[]⟩) (Sn) (Sn);exact ⟨Y6,nd0,4,rfl,(cC _ _ 0 false 0 ⟨#[]⟩ (by decide)).deeper (by decide),hb.grown hgs hb.size (fun k hk=>by cases hk;exact Lr _),hV⟩
theorem aBt (s:Bt) (w:World) (hT:kI w) (hI:BG w) (hE:pB w):Calls prog 127 #[.string s] w (TV s w):=by
 have b0:=(Br w.heap.size w).alloc (o:=.cells Z6 28) (Lr _);have hr0:=Hn w (.cells Z6 28);have hz0:w.heap.size<(w.alloc (.cells Z6 28)).heap.size:=by simp
 by_cases hl:65536<s.size
 ·have hl':(65536:Int)<(s.size:Int):=by omega
  have HV:Hid (AU s nd0 4):=Hh (.inr ⟨rfl,rfl,fun y _ _ h=>absurd h (by omega)⟩)
  have B0:=Hh b0;have HR:=Hh hr0;have f1:=aD hr0;have c1:=aA hr0;clear hl b0 hr0
  go_enter func127,ntmps127
  go_upto_region 1 with fail
  generalize w.alloc (.cells Z6 28)=w0 at B0 HR f1 c1 ⊢
  go_wp2
  refine aP (v:=Iz 4) HR.o results127 rfl rfl rfl ?_;exact sS B0.o HV.o
 ·have hl':¬ (65536:Int)<(s.size:Int):=by omega
  have hsl:s.data.toList.length=s.size:=by rw [Ah];rfl
  have HT:=Hh (Ai hT (Ai hI hE));have HL:=Hh hl;clear hT hI hE hl
  go_enter func127,ntmps127
  go_upto_region 1 with fail
  obtain ⟨w0,hw0⟩:∃W,W=w.alloc (.cells Z6 28):=⟨_,rfl⟩;rw [←hw0] at b0 hr0 hz0;rw [←hw0];clear hw0;have HR:=Hh hr0;have B0:=Hh b0;have WD:=Hh (fun wx=>UE wx)
  have CD:=Hh (fun wx=>YF wx)
  clear hr0 b0
  go_upto_region 4 with (first
   | (go_at_call 142;(with_reducible refine (WD.o _).mono ?_);rintro e1 w1 ⟨rfl,hw1,hb1⟩)
   | (go_at_call 143;(with_reducible refine (CD.o _).mono ?_);rintro e2 w2 ⟨rfl,hc2,hb2⟩))
  have hb3:=(Br w2.heap.size w2).alloc (o:=.cells #[.string s,.map (some w0.heap.size),.map (some w1.heap.size)] 177) (Lr _);have hg3:=Hn w2 (.cells #[.string s,.map (some w0.heap.size),.map (some w1.heap.size)] 177);obtain ⟨w3,hw3⟩:∃W,W=w2.alloc (.cells #[.string s,.map (some w0.heap.size),.map (some w1.heap.size)] 177):=⟨_,rfl⟩;rw [←hw3] at hb3 hg3;rw [←hw3];clear hw3;have hW2:=hw1.same (hb2.block _ hw1.lt);have hp3:PrS w3 w2.heap.size w0.heap.size w1.heap.size s.data.toList:=by
   have hB03:=B0.o.trans ((hb1.trans ((hb2.trans (hb3.mono hb2.size)).mono hb1.size)).mono B0.o.size);obtain ⟨⟨t,p,e1⟩,⟨t',p',e2⟩⟩:=HT.o.2.2;have l1:6<w.heap.size:=cD e1;have l2:7<w.heap.size:=cD e2;have z1:=B0.o.size;have z2:=hb1.size;have z3:=hb2.size;refine ⟨by rw [aDs];exact hg3,hW2.same (hb3.block _ hW2.lt),hc2.same (hb3.block _ hc2.lt),⟨Ll hw1.lt z3,hc2.lt⟩,HT.o.2.2.below hB03,by omega,by omega⟩
  have hB3:=B0.o.trans ((hb1.trans ((hb2.trans (hb3.mono hb2.size)).mono hb1.size)).mono B0.o.size);have hgw:w.heap.size≤w2.heap.size:=Ae B0.o.size (Ae hb1.size hb2.size);have hg0w:w0.heap.size≤w3.heap.size:=Ae hb1.size (Ae hb2.size hb3.size);have hr3:=((hb1.trans ((hb2.trans (hb3.mono hb2.size)).mono hb1.size)).block _ (Aa HR.o)).trans HR.o;have ND':Hid (Calls prog 144 #[.pointer (some ⟨w2.heap.size,0,none⟩),Iz 8] w3 (wK (fun y t=>bR 8 s.data.toList=some (y,t)∧uM t) 8 w2.heap.size w0.heap.size w1.heap.size s.data.toList w3)):=Hh (CW 8 (by decide) w2.heap.size w0.heap.size w1.heap.size s.data.toList w3 hp3 (by have:=HL.o;omega))
  have HB3:=Hh hB3;have HR3:=Hh hr3;have hgr:w.heap.size ≠ w2.heap.size:=by have:=Ae hb1.size hb2.size;omega
  generalize hgx:w2.heap.size=gx at ND' hgw hgr ⊢;clear hgx hp3 hW2 hw1 hb1 hc2 hb2 hb3 hg3 hB3 hr3 WD CD B0 HR
  go_upto_region 5 with ((with_reducible refine (ND'.out).mono ?_);rintro e5 w5 ⟨cs,x,ok,r',rfl,hnode,hp5,hg5,hl5,hf5,hv5⟩;go_loud ((obtain ⟨a1,l1,c1,a2,l2,c2,hcs⟩:=hnode.slices);subst hcs))
  have hv8:s.size≤65536→∀y,aB 8 y=true→aO 8 y=true→aT 8 y=s.data.toList→ok=true∧x=y:=fun _ y h1 h2 h3=>by
   have:=jY 8 y [] h1 h2 FF;rw [Bu,h3] at this;have:=hv5 y [] ⟨this,fun c hc=>by cases hc⟩
   exact ⟨this.1,this.2.1⟩
  have hB5:Below w.heap.size w w5:=HB3.o.grown hg5 HB3.o.size (fun k hk=>by cases hk;exact hgw)
  have hr5:=cM hg5 hgr HR3.o;have b6:=(Br w5.heap.size w5).alloc (o:=.cells (Na x a1 l1 c1 a2 l2 c2) 28) (Lr _);have hn6:=Hn w5 (.cells (Na x a1 l1 c1 a2 l2 c2) 28);have hnd6:=hnode.same fun b hb=>b6.block b hb.2
  have hB6:=hB5.trans (b6.mono hB5.size);have hr6:=(b6.block _ (Aa hr5)).trans hr5;have hz6:w5.heap.size<(w5.alloc (.cells (Na x a1 l1 c1 a2 l2 c2) 28)).heap.size:=by simp
  have hne5:w.heap.size ≠ w5.heap.size:=by have:=Aa hr5;omega
  obtain ⟨w6,hw6⟩:∃W,W=w5.alloc (.cells (Na x a1 l1 c1 a2 l2 c2) 28):=⟨_,rfl⟩;rw [←hw6] at b6 hn6 hnd6 hB6 hr6 hz6;rw [←hw6];have hz3:w.heap.size≤w3.heap.size:=HB3.o.size;have HV8:=Hh hv8;have HB6:=Hh hB6;have HN6:=Hh hnd6;have HR6:=Hh hr6;have HZ6:=Hh (Ai hz6 hz3);have hnum8:aO 8 x=true:=yZ (by decide) hf5.2
  have hlow9:jN 9 x:=hf5.1;have EN:=Hh (LD _ x w6 hnd6 (fun b hb=>Cl hb.2 hz6) hlow9 (fun _=>hnum8) (HT.o.1.below hB6) (HT.o.2.1.below hB6))
  have HN8:=Hh hnum8;clear hw6 hv8 hv5 hB5 hr5 b6 hnd6 hB6 hr6 hz6 hnode hp5 hg5 hf5 hl5 HB3 HR3 ND' hnum8 hlow9 HT;cases ok with
  | false=>
   have HV:Hid (AU s nd0 4):=Hh (.inr ⟨rfl,rfl,fun y h1 h2 h3 h4=>by have:=(HV8.o h3 y h1 h2 h4).1;cases this⟩)
   have f1:=aD HR6.o;have cz1:=aA HR6.o
   go_wp2
   refine aP (v:=Iz 4) HR6.o results127 rfl rfl rfl ?_;exact sS HB6.o HV.o
  | true=>
   have cn:=aA hn6;have HN66:=Hh hn6;clear hn6
   go_upto_region 8 with ((with_reducible refine (EN.o).mono ?_);rintro e7 w7 ⟨rfl,hb7⟩)
   have hB7:=HB6.o.trans (hb7.mono HB6.o.size);have hr7:=(hb7.block _ (Aa HR6.o)).trans HR6.o;have hn7:=(hb7.block _ (Aa HN66.o)).trans HN66.o;have hnd7:=HN6.o.same fun b hb=>hb7.block b (Cl hb.2 HZ6.o.1)
   have HB7:=Hh hB7;have HR7:=Hh hr7;have HND7:=Hh (Ai hnd7 hb7.size);clear hB7 hr7 hnd7 hb7 EN HN66 cn
   by_cases hbad:jsE x ≠ 0∨jsS x ≠ s
   ·have HV:Hid (AU s nd0 4):=Hh (.inr ⟨rfl,rfl,fun y h1 h2 h3 h4=>by
     obtain ⟨-,rfl⟩:=HV8.o h3 y h1 h2 h4;have hlen:¬65536<(aT 8 x).length:=by rw [h4,hsl];omega
     obtain ⟨g1,g2⟩:=sO h1 hlen;rcases hbad with h | h
     ·exact h g2
     ·apply h;rw [g1,h4]⟩)
    clear hn7
    by_cases hE0:jsE x=0
    ·have hS0:jsS x ≠ s:=hbad.resolve_left (fun h=>h hE0)
     have hSb:((jsS x).toList == s.toList)=false:=by
      rw [Ci,Ci];exact Db.2 fun h=>hS0 (by rw [←aDs (jsS x),h,aDs])
     have hEb:(jsE x != 0)=false:=by simpa using hE0
     clear hbad;rw [hE0];have f1:=aD HR7.o;have cz1:=aA HR7.o
     go_wp2
     refine aP (v:=Iz 4) HR7.o results127 rfl rfl rfl ?_;exact sS HB7.o HV.o
    ·have hEb:(jsE x != 0)=true:=by simpa using hE0
     clear hbad;have f1:=aD HR7.o;have cz1:=aA HR7.o
     go_wp2
     refine aP (v:=Iz 4) HR7.o results127 rfl rfl rfl ?_;exact sS HB7.o HV.o
   ·have hE0:jsE x=0:=Dq fun h=>hbad (.inl h)
    have hS0:jsS x=s:=Dq fun h=>hbad (.inr h)
    have HV:Hid (AU s x 0):=Hh (by
     have hv:aB 8 x=true:=by
      cases q:aB 8 x with
      | true=>rfl
      | false=>rw [(FS q).2] at hE0;cases hE0
     have hlen:¬65536<(aT 8 x).length:=fun q=>by rw [(zM hv q).2] at hE0;cases hE0
     have hw:aT 8 x=s.data.toList:=by rw [←hS0,(sO hv hlen).1]
     exact .inl ⟨rfl,hv,HN8.o,hw,by rw [hw,hsl] at hlen;omega⟩)
    clear hbad;rw [hE0,hS0];have f1:=aD HR7.o;have cz1:=aA HR7.o;have cn:=aA hn7
    go_wp2
    refine aP (v:=Iz 0) HR7.o results127 rfl rfl rfl ?_;have hgs:=aM w7 w.heap.size (Iz x.kind) (.bool x.bool) (Iz x.num) (.string x.text) (.slice a1 l1 c1) (.slice a2 l2 c2);refine ⟨(Nc x a1 l1 c1 a2 l2 c2),x,0,rfl,?_,HB7.o.grown hgs HB7.o.size (fun k hk=>by cases hk;exact Lr _),HV.o⟩
    have hz:=HZ6.o;have hz7:=HND7.o.2;have hr:=Aa HR7.o;exact (HND7.o.1.same fun b hb=>hgs.block b (by omega) (by intro e;have:=Ab e;omega)).mono fun b hb=>⟨by omega,Ll (by omega) hgs.size⟩
end Go.Proofs.YtncdpanfefnjlaaGreatDoor