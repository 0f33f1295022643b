/- The walk of the statement VersionSizes. -/
import Derived.Test.YtcklddldejejcaaGreatDoorVkit
import Derived.StillTailTactics
set_option linter.unusedVariables false
set_option linter.unusedSimpArgs false
set_option maxHeartbeats 6400000
set_option maxRecDepth 100000
namespace Go.Proofs.YtcklddldejejcaaGreatDoor
open Go Go.ChangeShapes Go.WideShapes Go.ChangeAt Go.RowKit
theorem ft_post {d:Nat} {x:ND} {p:ByteArray} {k:Int} {w w':World} {e:Ending} (h1:fitE x p k=0) (h:FtPost d x p k w e w'):NodePost d (fitN x p k) (foS k (fitN x p k)) w e w':=by
 obtain ⟨cs,e,hx,hb⟩:=h
 have e1:fitX x p k=fitN x p k:=by unfold fitX;rw [if_pos h1]
 have e2:fitS x p k=foS k (fitN x p k):=by unfold fitS;rw [if_pos h1]
 rw [e1] at hx
 rw [e2,h1] at e
 exact ⟨cs,e,hx,hb⟩
theorem vs_data {n:ND} {k:Int} (F:Fitted n sKERI k) (hl:n.items.length≤14):∃j:Nat,j≤6∧fdV (foS k (fitN n sKERI k)).data.toList=⟨sKERI,1,0,k,((foS k (fitN n sKERI k)).size:Int)⟩∧fdP (foS k (fitN n sKERI k)).data.toList=(j:Int)∧fdE (foS k (fitN n sKERI k)).data.toList=0∧(foS k (fitN n sKERI k)).extract j (j+4)=sKERI∧j+17≤(foS k (fitN n sKERI k)).size:=by
 obtain ⟨hd,r,h6,e,hf⟩:=F.find hl
 obtain ⟨f1,f2,f3⟩:=fd_some hf
 refine ⟨hd.length,h6,by rw [f1,F.size],f2,f3,?_,?_⟩
 ·have h1:=vext_list (foS k (fitN n sKERI k)) hd.length (hd.length+4)
  rw [e,List.drop_left,show hd.length+4 - hd.length=4 by omega] at h1
  have h2:(textV ⟨sKERI,1,0,k,vfZ n sKERI k⟩++r).take 4=sKERI.data.toList:=by
   unfold textV
   rw [List.append_assoc]
   exact List.take_left (l₁:=sKERI.data.toList)
  rw [h2] at h1
  exact ByteArray.ext (Array.toList_inj.1 h1)
 ·have h1:(foS k (fitN n sKERI k)).data.toList.length=(foS k (fitN n sKERI k)).size:=by rw [Array.length_toList];rfl
  rw [e,Lg,Lg,textV_length F.val] at h1
  omega
theorem sK_list:sKERI.toList=[75,69,82,73]:=by decide +kernel
theorem nod_up {d:Nat} {w w':World} {cs:List Value} {x:ND} (h:NodeIn d (fun i=>i<w.heap.size) w cs x) (hb:Below w.heap.size w w'):NodeIn d (fun i=>i<w'.heap.size) w' cs x:=(h.same fun i q=>hb.block i q).mono fun i q=>Ll q hb.size
theorem NB.parts {w:World} {g d:Nat} {X:ND} {a b:Option Addr} {l c m n:Nat} (h:NB w g (d+1) X a l c b m n):StrsIn (fun i=>i<w.heap.size) w (.slice a l c) X.names∧NodesIn (NodeIn d (fun i=>i<w.heap.size) w) (fun i=>i<w.heap.size) w (.slice b m n) X.items∧l=X.names.length∧m=X.items.length:=by
 obtain ⟨_,_,e,-,hns,his⟩:=h.nod
 simp only [List.cons.injEq,and_true,true_and] at e
 obtain ⟨rfl,rfl⟩:=e
 refine ⟨hns,his,?_,?_⟩
 ·obtain ⟨_,_,e,-⟩:=hns;simp only [Value.slice.injEq] at e;exact e.2.1
 ·obtain ⟨_,_,e,-⟩:=his;simp only [Value.slice.injEq] at e;exact e.2.1
theorem sizes9_walk (a:Option Addr) (len cap:Nat) (zs:List Int) (form:Int) (hform:wI form) (w:World) (hn:NumsB w.heap.size w a len cap zs) (hF:Ftab w) (hD:DB w) :
 Calls Tryz.prog 3 #[.slice a len cap,.int .i64 form] w fun e w'=>e=.returned (.bool true)∧Below w.heap.size w w':=by
 have AW:=Hh (fun (wx:World) (hb:Below w.heap.size w wx)=>awake9_any wx (hD.below hb))
 have LI:=Hh (fun wx:World=>light_any a len cap wx)
 have HF:=Hh hF
 have HD:=Hh hD
 have MO:Hid (∀wx,Calls Tryz.prog 13 #[.int .i64 form,.int .i64 3] wx fun e w'=>e=.returned (.int .i64 (form % 3))∧wx=w'):=Hh (fun wx=>mod_any form 3 wx (by decide) (by decide) hform.1 hform.2)
 have hmod:0≤form % 3∧form % 3<3:=by omega
 have RO:=Hh (roll_any a len cap zs w hn)
 clear hn hF hD
 by_cases h500:(len:Int)≤500
 ·rw [decide_eq_true h500] at LI
  clear h500 hform
  go_enter Tryz.func3,Tryz.ntmps3
  go_upto_region 4 with (first
   | (go_at_call 9;(with_reducible refine (LI.out _).mono ?_);rintro e w3 ⟨rfl,rfl⟩)
   | (go_at_call 12;(with_reducible refine (RO.out).mono ?_);rintro e w2 ⟨rfl,hb2,hd2⟩;(have hg2:=hd2.lt))
   | (go_at_call 11;(with_reducible refine (kmap_litk w.heap.size w.heap.size 4 4 rfl (by decide) (by decide) _ hd2).mono ?_);rintro e w4 ⟨⟨cs1,n,rfl,hx,hm,hi,hvw,hc⟩,hg4,hd4⟩;obtain ⟨a1,l1,c1,b1,m1,n1,rfl⟩:=hx.slices))
  have hw4:validW 4 n=true:=kitMap_valid (d:=4) (by decide) hm (fun y hy=>validK_w (hvw y hy))
  have hm7:MapOk 7 n:=hm.mono (by decide)
  have hn8:numsB 8 n=true:=numsB_up (by decide) (validW_valid hw4) (validW_nums hw4)
  have hc8:costN 8 n≤62900:=by rw [costN_same (e:=4) (by decide) (validW_valid hw4)];exact Nat.le_trans hc (by decide)
  have hw8:validW 8 n=true:=by unfold validW;rw [(mapOk_iff hm7.kind).2 hm7,hn8];rfl
  have N5:=NB.new hx (fun i q=>q.2)
  have hB4:Below w.heap.size w w4:=hb2.grown hg4 hb2.size (fun k hk=>by cases hk;exact Lr _)
  have hB5:=hB4.trans ((alloc_below w4 (.cells #[.int .i64 n.kind,.bool n.bool,.int .i64 n.num,.string n.text,.slice a1 l1 c1,.slice b1 m1 n1] 28)).mono hB4.size)
  generalize w4.alloc _=w5 at N5 hB5 ⊢
  generalize w4.heap.size=g5 at N5 ⊢
  have HB5:=Hh hB5
  clear hx hm hvw hc hg4 hd4 hb2 hd2 hg2 RO LI hB4 hB5 hw4
  go_upto_region 5 with ((with_reducible refine (MO.out _).mono ?_);rintro e w6 ⟨rfl,rfl⟩)
  obtain ⟨k,hk⟩:∃k:Int,k=1+form % 3:=⟨_,rfl⟩
  rw [←hk]
  have hk1:1≤k∧k≤3:=by omega
  have F:Fitted n sKERI k:=fitted hw8 (by omega) hm7.kind (by omega) (keri_val hk1.1 hk1.2)
  obtain ⟨j,hj6,v1,v2,v3,v4,hjs⟩:=vs_data F (by omega)
  have HKW:wI k:=by unfold wI;omega
  have HFO:=Hh F.kit
  have HMX:=Hh F.map
  have HFG:=Hh (fun (i:Nat) (s:ByteArray) (y:ND) (h1:n.names[i]?=some s) (h2:n.items[i]?=some y)=>fit_get (p:=sKERI) (k:=k) h1 h2)
  have P1:Hid (Calls Tryz.prog 14 #[.agg #[.int .i64 n.kind,.bool n.bool,.int .i64 n.num,.string n.text,.slice a1 l1 c1,.slice b1 m1 n1],.string ⟨#[75,69,82,73]⟩,.int .i64 k] w5 (NodePost 4 (fitN n sKERI k) (foS k (fitN n sKERI k)) w5)):=
   Hh ((vfit_any (d:=3) [.int .i64 n.kind,.bool n.bool,.int .i64 n.num,.string n.text,.slice a1 l1 c1,.slice b1 m1 n1] n sKERI k HKW w5 N5.nod (fun b q=>q) (lowN_of_valid 8 4 n (validW_valid hw8)) (by decide) (fun _ _=>⟨hn8,by omega⟩) (HF.out.below HB5.out) (HD.out.below HB5.out)).mono fun e w'=>ft_post F.e1)
  have P2:Hid (∀ (wx:World) (b2 b3:Option Addr) (q1 q2 q3 q4:Nat),Below w.heap.size w wx→NodeIn 4 (fun i=>i<wx.heap.size) wx [.int .i64 (fitN n sKERI k).kind,.bool (fitN n sKERI k).bool,.int .i64 (fitN n sKERI k).num,.string (fitN n sKERI k).text,.slice b2 q1 q2,.slice b3 q3 q4] (fitN n sKERI k)→Calls Tryz.prog 14 #[.agg #[.int .i64 (fitN n sKERI k).kind,.bool (fitN n sKERI k).bool,.int .i64 (fitN n sKERI k).num,.string (fitN n sKERI k).text,.slice b2 q1 q2,.slice b3 q3 q4],.string ⟨#[75,69,82,73]⟩,.int .i64 k] wx (NodePost 4 (fitN n sKERI k) (foS k (fitN n sKERI k)) wx)):=
   Hh (fun wx b2 b3 q1 q2 q3 q4 hb hnd=>(vfit_any (d:=3) [.int .i64 (fitN n sKERI k).kind,.bool (fitN n sKERI k).bool,.int .i64 (fitN n sKERI k).num,.string (fitN n sKERI k).text,.slice b2 q1 q2,.slice b3 q3 q4] (fitN n sKERI k) sKERI k HKW wx hnd (fun b q=>q) (lowN_of_valid 8 4 _ F.kit.valid) (by decide) (fun _ _=>F.ok) (HF.out.below hb) (HD.out.below hb)).mono fun e w' h=>by
    have:=ft_post F.e2 h
    rw [F.again] at this
    exact this)
  have HX0:Hid ((fitN n sKERI k).names[0]?=some sV):=Hh rfl
  have HNL:=Hh hm7
  generalize fitN n sKERI k=X at P1 P2 HFO HMX HFG HX0 v1 v2 v3 v4 hjs
  have FD:Hid (∀wx:World,Below w.heap.size w wx→Calls Tryz.prog 15 #[.string (foS k X)] wx fun e w'=>e=.returned (.tuple #[.agg #[.string ⟨#[75,69,82,73]⟩,.int .i64 1,.int .i64 0,.int .i64 k,.int .i64 ((foS k X).size:Int)],.int .i64 (j:Int),.int .i64 0])∧Below wx.heap.size wx w'):=
   Hh (fun wx hb=>(vfind_any (foS k X) wx (Nat.le_trans (fo_size k X) (by decide)) (HD.out.below hb) (HF.out.below hb).e.1).mono fun e w' h=>by
    obtain ⟨h1,h2⟩:=h
    rw [v1,v2,v3] at h1
    exact ⟨h1,h2⟩)
  have DC:Hid (∀wx:World,Below w.heap.size w wx→Calls Tryz.prog 16 #[.int .i64 k,.string (foS k X)] wx fun e w'=>∃cs:List Value,e=.returned (.tuple #[.agg cs.toArray,.int .i64 0])∧NodeIn 9 (fun b=>wx.heap.size≤b∧b<w'.heap.size) w' cs X∧Below wx.heap.size wx w'):=
   Hh (fun wx hb=>(rdecas_any k (foS k X) wx (HF.out.below hb)).mono fun e w' h=>by
    obtain ⟨cs,x,er,h1,h2,h3,h4⟩:=h
    obtain ⟨rfl,rfl⟩:=HFO.out.read h4
    exact ⟨cs,h1,h2,h3⟩)
  have HSZ:=Hh (fo_size k X)
  generalize foS k X=s at P1 P2 FD DC v4 hjs HSZ
  unfold NodePost at P1 P2
  have hsz:=HSZ.out
  have x5:=N5.six
  have HN5:=Hh N5
  clear hk F v1 v2 v3 hm7 hn8 hc8 hw8 hmod MO N5 HKW HSZ
  go_upto_region 6 with ((with_reducible refine (P1.out).mono ?_);rintro e w6 ⟨cx,rfl,hx,hb6⟩;obtain ⟨a2,l2,c2,b2,m2,n2,rfl⟩:=hx.slices)
  have N7:=NB.new hx (fun i q=>q.2)
  have hB6:=hb6.trans ((alloc_below w6 (.cells #[.int .i64 X.kind,.bool X.bool,.int .i64 X.num,.string X.text,.slice a2 l2 c2,.slice b2 m2 n2] 28)).mono hb6.size)
  generalize w6.alloc _=w7 at N7 hB6 ⊢
  generalize w6.heap.size=g7 at N7 ⊢
  have HB7:=Hh (HB5.out.trans (hB6.mono HB5.out.size))
  have HN5b:=Hh (HN5.out.below hB6)
  have HN7:=Hh N7
  have P7:=Hh (P2.out w7 _ _ _ _ _ _ HB7.out N7.nod)
  have x7:=N7.six
  clear hx hb6 hB6 N7 P1 x5 P2 HN5
  go_upto_region 7 with ((with_reducible refine (P7.out).mono ?_);rintro e w8 ⟨cy,rfl,hy,hb8⟩;obtain ⟨a3,l3,c3,b3,m3,n3,rfl⟩:=hy.slices)
  have N9:=NB.new hy (fun i q=>q.2)
  have hB8:=hb8.trans ((alloc_below w8 (.cells #[.int .i64 X.kind,.bool X.bool,.int .i64 X.num,.string X.text,.slice a3 l3 c3,.slice b3 m3 n3] 28)).mono hb8.size)
  generalize w8.alloc _=w9 at N9 hB8 ⊢
  generalize w8.heap.size=g9 at N9 ⊢
  have HB9:=Hh (HB7.out.trans (hB8.mono HB7.out.size))
  have HN5c:=Hh (HN5b.out.below hB8)
  have HN7b:=Hh (HN7.out.below hB8)
  have HN9:=Hh N9
  have F9:=Hh (FD.out w9 HB9.out)
  clear hy hb8 hB8 N9 P7 x7 FD HN5b HN7
  go_upto_region 8 with ((with_reducible refine (F9.out).mono ?_);rintro e w10 ⟨rfl,hb10⟩)
  have b11:=alloc_below w10 (.cells #[.string ⟨#[75,69,82,73]⟩,.int .i64 1,.int .i64 0,.int .i64 k,.int .i64 (s.size:Int)] 37)
  have k11:=Hn w10 (.cells #[.string ⟨#[75,69,82,73]⟩,.int .i64 1,.int .i64 0,.int .i64 k,.int .i64 (s.size:Int)] 37)
  have hb11:=hb10.trans (b11.mono hb10.size)
  generalize w10.alloc _=w11 at k11 hb11 ⊢
  generalize w10.heap.size=g11 at k11 ⊢
  have HB11:=Hh (HB9.out.trans (hb11.mono HB9.out.size))
  have HK11:=Hh k11
  have HN5d:=Hh (HN5c.out.below hb11)
  have HN7c:=Hh (HN7b.out.below hb11)
  have HN9b:=Hh (HN9.out.below hb11)
  have D11:=Hh (DC.out w11 HB11.out)
  clear b11 hb10 k11 hb11 F9 DC HN5c HN7b HN9
  go_upto_region 9 with ((with_reducible refine (D11.out).mono ?_);rintro e w12 ⟨cz,rfl,hz,hb12⟩;obtain ⟨a4,l4,c4,b4,m4,n4,rfl⟩:=hz.slices)
  have N13:=NB.new hz (fun i q=>q.2)
  have hB13:=hb12.trans ((alloc_below w12 (.cells #[.int .i64 X.kind,.bool X.bool,.int .i64 X.num,.string X.text,.slice a4 l4 c4,.slice b4 m4 n4] 28)).mono hb12.size)
  generalize w12.alloc _=w13 at N13 hB13 ⊢
  generalize w12.heap.size=g13 at N13 ⊢
  have HB13:=Hh (HB11.out.trans (hB13.mono HB11.out.size))
  have HK13:=Hh ((hB13.block _ (lt_of_block HK11.out)).trans HK11.out)
  have HN5e:=Hh (HN5d.out.below hB13)
  have HN7d:=Hh (HN7c.out.below hB13)
  have HN13:=Hh N13
  have n9:=HN9b.out.below hB13
  have S1:=Hh (rsame_any 4 4 _ _ _ _ X X w13 HN7d.out.nod n9.nod (fun b q=>q) (fun b q=>q))
  have S2:=Hh (fun (wx:World) (hb:Below w13.heap.size w13 wx)=>rsame_any 9 4 _ _ _ _ X X wx (HN13.out.below hb).nod (HN7d.out.below hb).nod (fun b q=>q) (fun b q=>q))
  have x7:=HN7d.out.six
  have x9:=n9.six
  have x13:=N13.six
  have CK:=Hh (fun (wx:World) (hb:Below w13.heap.size w13 wx)=>Ai (HN13.out.below hb).six (HN7d.out.below hb).six)
  obtain ⟨-,-,hl2,-⟩:=HN7d.out.parts
  have hl2p:0<l2:=by
   rw [hl2]
   have:=lt_of_some HX0.out
   omega
  have e0:((l2:Int) == 0)=false:=by
   rw [beq_eq_false_iff_ne]
   omega
  have HL2:=Hh hl2
  have hj0:(0:Int)≤(j:Int):=by omega
  have hjl:(j:Int)≤(s.size:Int) - 4:=by omega
  have es:(s.toList == s.toList)=true:=beq_self_eq_true _
  clear hz hb12 hB13 N13 n9 D11 hl2 HN5d HN7c HN9b
  go_upto_region 11 with (first
   | ((with_reducible refine (S1.out).mono ?_);rintro e w14 ⟨bz,rfl,hbz,hb14⟩;obtain rfl:bz=true:=hbz.2 (by first | exact rfl | trivial);(obtain ⟨y13,y7⟩:=CK.out _ hb14))
   | ((with_reducible refine (S2.out _ hb14).mono ?_);rintro e w15 ⟨bz2,rfl,hbz2,hb15⟩;obtain rfl:bz2=true:=hbz2.2 (by first | exact rfl | trivial);(obtain ⟨z13,z7⟩:=CK.out _ (hb14.trans (hb15.mono hb14.size)))))
  have HB15:=Hh (hb14.trans (hb15.mono hb14.size))
  have HN5:=Hh (HN5e.out.below HB15.out)
  have HN7:=Hh (HN7d.out.below HB15.out)
  have HK15:=Hh ((HB15.out.block _ (lt_of_block HK13.out)).trans HK13.out)
  have HBB:=Hh (HB13.out.trans (HB15.out.mono HB13.out.size))
  obtain ⟨-,-,hl1,-⟩:=HN5.out.parts
  subst hl1
  have x5:=HN5.out.six
  clear hb14 hb15 hbz hbz2 y13 y7 z13 z7 S1 S2 CK x7 x9 x13 es hjl e0
  go_upto_region 12 with fail
  go_loopw [105] (fun i wr=>∃q:Nat,i=.int .i64 q∧q≤n.names.length∧Below w15.heap.size w15 wr) (fun i _=>n.names.length+1 - (intOf i).toNat)
  case atStart=>exact ⟨0,rfl,Nat.zero_le _,Br _ _⟩
  case round=>
   obtain ⟨q,rfl,hq,hwr⟩:=hrel
   have hq0:(0:Int)≤(q:Int):=by omega
   have HWR:=Hh hwr
   clear x5 hwr
   by_cases hql:(q:Int)<(n.names.length:Int)
   ·have hq9:(q:Int)<1000000:=by have:=HNL.out.len;omega
    have HQ2:Hid (q+1≤n.names.length):=Hh (by omega)
    have hqn:q<n.items.length:=by have:=HNL.out.len;omega
    obtain ⟨r,hr⟩:∃r,n.names[q]?=some r:=⟨_,List.getElem?_eq_getElem (by omega)⟩
    have N5r:=HN5.out.below HWR.out
    obtain ⟨hns,his,-,-⟩:=N5r.parts
    obtain ⟨bq,oq,rfl,hSq,hcq⟩:=hns.get hr
    obtain ⟨-,-,-,b,off,y,a5,l5,c5,b5,m5,n5,rfl,hSb,hy,hnd,q0,q1,q2,q3,q4,q5⟩:=his.at hqn
    obtain ⟨i,z,hi1,hi2,hz⟩:=HFG.out q r y hr hy
    have x5:=N5r.six
    have N7r:=HN7.out.below HWR.out
    have x7:=N7r.six
    have GT:=Hh (rget_has (d:=3) _ X z r wr N7r.nod (fun b q=>q) (lowN_of_valid 8 4 X HFO.out.valid) HMX.out.kind HMX.out.len HMX.out.nodup hi1 hi2)
    unfold GtPost at GT
    have HZ:=Hh hz
    have HQ:=Hh (Ai q0 (Ai q1 (Ai q2 (Ai q3 (Ai q4 q5)))))
    have HND:=Hh hnd
    clear hz hr hy hi1 hi2 N5r N7r hns his q0 q1 q2 q3 q4 q5 hnd hqn
    go_upto_region 15 with ((with_reducible refine (GT.out).mono ?_);rintro e w20 ⟨ca,rfl,ha,hb20⟩;obtain ⟨a6,l6,c6,b6,m6,n6,rfl⟩:=ha.slices)
    have b21:=alloc_below w20 (.cells #[.int .i64 z.kind,.bool z.bool,.int .i64 z.num,.string z.text,.slice a6 l6 c6,.slice b6 m6 n6] 28)
    have k21:=Hn w20 (.cells #[.int .i64 z.kind,.bool z.bool,.int .i64 z.num,.string z.text,.slice a6 l6 c6,.slice b6 m6 n6] 28)
    have hb21:=hb20.trans (b21.mono hb20.size)
    have ha1:=(ha.same fun i p=>b21.block i p.2).mono fun i p=>Ll p.2 b21.size
    generalize w20.alloc _=w21 at k21 hb21 ha1 ⊢
    generalize w20.heap.size=g21 at k21 ⊢
    have HB21:=Hh (HWR.out.trans (hb21.mono HWR.out.size))
    have HK21:=Hh k21
    have HA1:=Hh ha1
    have hb21':=Hh hb21
    clear x5 x7 GT ha hb20 b21 k21 hb21 ha1
    have x20:=six_of HK21.out
    have x5:=(HN5.out.below HB21.out).six
    have hq1:(q:Int)<(m1:Int):=by
     have h1:=(HN5.out.parts).2.2.2
     have h2:=HNL.out.len
     omega
    have hbw:b<wr.heap.size:=hSb
    obtain ⟨q0,q1,q2,q3,q4,q5⟩:=HQ.out
    have r0:=(hb21'.out.cell (p:=⟨b,off+q * 6,none⟩) hbw).trans q0
    have r1:=(hb21'.out.cell (p:=⟨b,off+q * 6+1,none⟩) hbw).trans q1
    have r2:=(hb21'.out.cell (p:=⟨b,off+q * 6+2,none⟩) hbw).trans q2
    have r3:=(hb21'.out.cell (p:=⟨b,off+q * 6+3,none⟩) hbw).trans q3
    have r4:=(hb21'.out.cell (p:=⟨b,off+q * 6+4,none⟩) hbw).trans q4
    have r5:=(hb21'.out.cell (p:=⟨b,off+q * 6+5,none⟩) hbw).trans q5
    have HSB:=Hh hbw
    clear q0 q1 q2 q3 q4 q5 hSb hbw hSq hcq
    by_cases hv:r=sV
    ·have e1:(r.toList == [118])=true:=by have h1:=str_beq hv;rw [sV_list] at h1;exact h1
     clear hv r0 r1 r2 r3 r4 r5
     go_quiet (fail)
     go_wp2
     go_roundw
     case rel=>exact ⟨q+1,by go_num,HQ2.out,by first | exact bdrewN HB21.out _ | exact HB21.out⟩
     case measure=>have:=HQ2.out;simp [intOf];omega
    ·have e1:(r.toList == [118])=false:=by have h1:=str_bne hv;rw [sV_list] at h1;exact h1
     obtain rfl:=HZ.out hv
     have SM:=Hh (fun (wx:World) (hb:Below w21.heap.size w21 wx)=>rsame_any 3 3 _ _ _ _ z z wx (nod_up HA1.out hb) (nod_up (nod_up HND.out hb21'.out) hb) (fun i p=>p) (fun i p=>p))
     clear hv
     go_still_tail 12,(by kernel_rfl)
     change wpList _ _ _ _ _ w21.drew
     have hd22:Below w21.heap.size w21 w21.drew:=(Br _ _).drew
     generalize w21.drew=w22 at hd22 ⊢
     go_wp2_with (go_at_call 17;(with_reducible refine (SM.out _ hd22).mono ?_);rintro e w23 ⟨bz,rfl,hbz,hb23⟩;obtain rfl:bz=true:=hbz.2 (by first | exact rfl | trivial))
     have hb24:=HB21.out.trans ((hd22.trans (hb23.mono hd22.size)).mono HB21.out.size)
     go_roundw
     case rel=>exact ⟨q+1,by go_num,HQ2.out,hb24⟩
     case measure=>have:=HQ2.out;simp [intOf];omega
   ·have HW:=Hh (HBB.out.trans (HWR.out.mono HBB.out.size))
    have x7:=(HN7.out.below HWR.out).six
    obtain ⟨hns,-,-,-⟩:=(HN7.out.below HWR.out).parts
    obtain ⟨bq,oq,rfl,hSq,hcq⟩:=hns.get HX0.out
    have hcq':wr.cell? ⟨bq,oq,none⟩=some (.string sV):=hcq
    have x11:=five_of ((HWR.out.block _ (lt_of_block HK15.out)).trans HK15.out)
    have A1:=Hh (AW.out wr HW.out)
    have eK:((s.extract j (j+4)).toList == [75,69,82,73])=true:=by have h1:=str_beq v4;rw [sK_list] at h1;exact h1
    have hj4:(j:Int)+4≤(s.size:Int):=by omega
    have ez:((s.size:Int) == (s.size:Int))=true:=beq_self_eq_true _
    have ek:(k == k)=true:=beq_self_eq_true _
    unfold sV at hcq hcq'
    clear hns HFG HX0 HNL HN5 HN7 v4
    go_wp2_with (go_at_call 10;(with_reducible refine (A1.out).mono ?_);rintro e w30 ⟨rfl,hb30⟩)
    go_ret
    exact ⟨rfl,HW.out.trans (hb30.mono HW.out.size)⟩
 ·rw [decide_eq_false h500] at LI
  clear h500 hform hmod
  go_enter Tryz.func3,Tryz.ntmps3
  go_wp2_with (first
   | (go_at_call 9;(with_reducible refine (LI.out _).mono ?_);rintro e w3 ⟨rfl,rfl⟩)
   | (go_at_call 10;(with_reducible refine (AW.out _ (Br _ _)).mono ?_);rintro e w1 ⟨rfl,hb⟩))
  go_ret
  exact ⟨rfl,hb⟩
end Go.Proofs.YtcklddldejejcaaGreatDoor