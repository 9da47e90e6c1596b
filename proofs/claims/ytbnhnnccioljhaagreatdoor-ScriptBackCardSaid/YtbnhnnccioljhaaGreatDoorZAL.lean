/-
  The program's Words. (Made by gen_pw.py.)
  Rows of bytes.
  The program's add.
  What a word is as a text: the program's way is the document's. No program.
  What the library's Itoa answers; its table.
  The program's Text.
-/
import Derived.Test.YtbnhnnccioljhaaGreatDoorZAK
import Derived.Deep.RegionHeld3
import Derived.Test.YtbnhnnccioljhaaGreatDoorZAE
import Derived.Deep.RegionLaw
import Derived.Test.YtbnhnnccioljhaaGreatDoorZAA
import Derived.Lib.AppendStr
import Derived.Lib.BufferRead
import Derived.Test.YtbnhnnccioljhaaGreatDoorZAJ
import Derived.Lib.AppendIntMem
import Derived.Test.YtbnhnnccioljhaaGreatDoorZAl
set_option maxRecDepth 100000
set_option maxHeartbeats 25600000
namespace Go.Proofs.YtbnhnnccioljhaaGreatDoor
open Go.RowKit Go.Maps Go.Shelf
attribute [local go_sem] Oper.semAt_some
theorem WLI.drew {w wr:World} {K:Nat} {pv:Array Value} {v:Value} {ws:List Wd} (h:WLI w wr K pv v ws):WLI w wr.drew K pv v ws:=
 ⟨h.row.drew,h.t.drew,h.box,h.lst,h.kne⟩
theorem row_up0 {w:World} {base:Nat} {e:TypeId} {size:Nat} {v:Value} {n:Nat} {xs:List Value} (h:w.ownsRow base e size v n xs):w.ownsRow 0 e size v n xs:=row_base h (Nat.zero_le _)
theorem wx_push {w wx w4:World} {K:Nat} {pv:Array Value} {v v':Value} {ws:List Wd} {x:Wd} (h:WLI w wx K pv v ws)
  (hown:w4.ownsRow 0 95 4 v' (ws.length+1) (wdsC ws++wdC x)) (hg:wx.grownBy w4 v.ownBlock) (hnew:∀g ∈ v'.ownBlock.toList,g ∈ v.ownBlock.toList∨wx.heap.size≤g):WLI w (w4.setCell ⟨K,0,none⟩ v') K pv v' (ws++[x]):=by
 refine h.push (m:=1) (xs:=[x]) rfl ?_ hg hnew
 rw [show wdsC [x]=wdC x from by simp [wdsC]]
 exact hown
def WordsQ (f:Bool) (L:List Opn) (w:World) (e:Ending) (w':World):Prop:=
 ∃v,e= .returned (.tuple #[v, .int .i64 (if mayR (f,L) then 0 else 1)])∧WRow w.heap.size w' v (if mayR (f,L) then wordsR (f,L) else [])∧Below w.heap.size w w'
theorem pwords_t (ao:Option Addr) (b off cap:Nat) (L:List Opn) (w:World) (h:OArg w ao b off L) (hq:mayR (true,L)=true):
  Calls Tryz.prog 45 #[prgV true ao L.length cap] w (WordsQ true L w):=by
 have hl12:L.length≤12:=by
  unfold mayR at hq
  simp only [Bool.and_eq_true,decide_eq_true_eq] at hq
  omega
 unfold WordsQ
 rw [hq]
 simp only [if_pos]
 obtain⟨i0,hi0,hz0,hz1,hz2⟩:=info_parts word_info
 refine callsIn_wide.1 (?_:CallsIn Fence.wide 20 _ _ _ _ _)
 refine callsIn_of_wp_marks Tryz.func45 rfl trivial ?_ rfl
 simp only [Tryz.ntmps45,List.size_toArray,List.length_cons,List.length_nil,Nat.reduceAdd,Nat.reduceSub,Array.replicate_succ,Array.replicate_zero,List.push_toArray,List.append_toArray,List.nil_append,List.cons_append]
 refine wpIn_wide.2 ?_
 have hb0:Below w.heap.size w (w.alloc (.cells #[.bool true, .slice ao L.length cap] 49)):=(Below.refl _ w).alloc (Nat.le_refl _) _
 have hm:=pmay_any true ao b off cap L (w.alloc (.cells #[.bool true, .slice ao L.length cap] 49)) (h.below hb0)
 rw [hq] at hm
 have HMAY:=xhd hm
 have HP:=xhd (fun W=>pname_any ⟨#[112,114,111,103]⟩ W)
 have HFV:=xhd (fun W=>pname_any ⟨#[102,111,114,101,118,101,114]⟩ W)
 have HMO:=xhd (fun W=>pmark_any ⟨#[123]⟩ W)
 have HMC:=xhd (fun W=>pmark_any ⟨#[125]⟩ W)
 have HA:=xhd h
 obtain⟨n,hn⟩:∃n,L.length=n:=⟨_,rfl⟩
 have HN:=xhd hn
 rw [hn] at HMAY hl12 ⊢
 obtain⟨W,hW⟩:∃W,wordsR (true,L)=W:=⟨_,rfl⟩
 have HW:=xhd hW
 rw [hW]
 clear h hb0 hm hn hq hW
 go_wp2_with fail
 refine HMAY.out.mono ?_
 rintro e w1 ⟨rfl,hb1⟩
 obtain⟨hx1,hbw⟩:=box_kept hb1
 obtain⟨c0,c1⟩:=two_cells hx1
 have hlt1:=lt_of_block hx1
 have HX1:=xhd hx1
 have HB1:=xhd hbw
 clear hb1 hx1 hbw HMAY
 go_wp2_with fail
 refine (HP.out _).mono ?_
 rintro e w3 ⟨rfl,hb3⟩
 have hx3:=(hb3.block _ (lt_of_block HX1.out)).trans HX1.out
 have hs3:=lt_of_block hx3
 clear c0 c1
 obtain⟨c0,c1⟩:=two_cells hx3
 obtain⟨K,hK⟩:∃K,w3.heap.size+1=K:=⟨_,rfl⟩
 obtain⟨W5,hW5⟩:∃W5,(w3.alloc (.cells #[.int .i64 1, .string ⟨#[112,114,111,103]⟩, .int .i64 0, .int .i64 0] 95)).alloc (.cells #[.slice (some ⟨w3.heap.size,0,none⟩) 1 1] 50)=W5:=⟨_,rfl⟩
 have hi5:=WLI.start (x:=(1,progB,0,0)) rfl HX1.out HB1.out hb3 (p:= .int .i64 1) (q:= .string ⟨#[112,114,111,103]⟩) (r:= .int .i64 0) (t:= .int .i64 0)
 rw [hW5,hK] at hi5
 have HI5:=xhd hi5
 have HWW:=xhd hW5
 have HKK:=xhd hK
 obtain⟨ws0,hws⟩:∃l:List Wd,[(1,progB,0,0)]=l:=⟨_,rfl⟩
 rw [hws] at HI5
 have hl0:ws0.length≤1:=by rw [←hws];exact Nat.le_refl _
 have HWS0:=xhd hws
 clear hb3 hi5 hW5 hK hws
 go_wp2_with fail
 rw [HWW.out,HKK.out]
 have HI0:=HI5
 have e0:=cell1 HI0.out.lst
 have HY0:=xhd HI0.out.drew
 have hmix:Tryz.prog.follows .mixedOrders=true:=by kernel_rfl
 refine wp_region_noPanic ?_
 refine wp_region_last (fun V=>V.cell? ⟨K,0,none⟩=some (.slice (some ⟨w3.heap.size,0,none⟩) 1 1)) 4 hmix e0 (fun hS0=>?_)
 refine wpAnyE_take (i:=0) (v:=?_) rfl (by kernel_rfl) (by kernel_rfl) (fun _ _ _ h=>h) (by kernel_rfl) (by kernel_rfl) (Or.inl ⟨by rfl,?hy⟩) (by assumption) ?_
 case hy=>
  intro w hSw
  (try dsimp only at hSw)
  go_simp
  try with_reducible rfl
 try simp only [xga];try simp only [xgs];try simp only [xgz];try simp only [Act.put];try simp only [xsa];try simp only [xss];try simp only [xsz]
 refine wpAnyE_ready (rs:=[1]) (by kernel_rfl) (by simp) ?_
 refine ReadyE.cons rfl (fun K' hK=>?_) ReadyE.nil
 go_simp
 with_reducible refine (HFV.out _).mono ?_
 rintro e u0 ⟨rfl,hbu⟩
 have hiu:=HY0.out.more hbu
 have HIU0:=xhd hiu
 have eu0:=cell1 hiu.lst
 have HBU0:=xhd hbu
 clear hbu hiu
 go_wp2_with fail
 refine hK.out _ _ (.inr ?_) ?_
 ·exact eu0
 clear hK K'
 try simp only [xga];try simp only [xgs];try simp only [xgz];try simp only [Act.put];try simp only [xsa];try simp only [xss];try simp only [xsz]
 refine wpAnyE_ready (rs:=[2]) (by kernel_rfl) (by simp) ?_
 refine ReadyE.cons rfl (fun K' hK=>?_) ReadyE.nil
 go_simp
 have HIA0:=xhd (HIU0.out.more ((Below.refl _ _).alloc (Nat.le_refl _) (.cells #[.int .i64 1, .string ⟨#[102,111,114,101,118,101,114]⟩, .int .i64 0, .int .i64 0] 95)))
 have ea0:=cell1 HIA0.out.lst
 refine hK.out _ _ (.inr ?_) ?_
 ·exact ea0
 clear hK K'
 try simp only [xga];try simp only [xgs];try simp only [xgz];try simp only [Act.put];try simp only [xsa];try simp only [xss];try simp only [xsz]
 refine wpAnyE_ready (rs:=[3]) (by kernel_rfl) (by simp) ?_
 refine ReadyE.cons rfl (fun K' hK=>?_) ReadyE.nil
 refine step_append_any _ rfl (.tmp 14) (.tmp 16) 50 rfl 95 i0 (.agg #[.int .i64 0, .string ⟨#[]⟩, .int .i64 0, .int .i64 0]) 4 40 Tryz.underlying50 hi0 hz0 hz1 hz2 rfl (by decide) (.slice (some ⟨w3.heap.size,0,none⟩) 1 1) ws0.length (wdsC ws0) rfl (row_up0 HIA0.out.row) (some ⟨u0.heap.size,0,none⟩) 1 1 [.int .i64 1, .string ⟨#[102,111,114,101,118,101,114]⟩, .int .i64 0, .int .i64 0] rfl rfl (by intro h;cases h) (by intro ad had;cases had;exact word_new _ _ _ _ _ _) (word_ones _ _ _ _) (by unfold maxLen;omega) (by omega) ?_
 intro a0 c0 g0 hown hg hnew
 have hgg:=HIA0.out.grown hg
 have eg0:=cell1 hgg.2.1
 have fg0:=not_frozen hgg.2.1 0
 refine hK.out _ _ (.inr ?_) ?_
 ·exact eg0
 have hin:=wx_push (x:=(1,foreverB,0,0)) HIA0.out hown hg hnew
 obtain⟨wr0,hws⟩:∃l,ws0++[(1,foreverB,0,0)]=l:=⟨_,rfl⟩
 rw [hws] at hin
 have hr0:wr0.length≤ws0.length+1:=by rw [←hws];simp
 have HWR0:=xhd hws
 obtain⟨v0,hv⟩:∃v,Value.slice a0 (ws0.length+1) c0=v:=⟨_,rfl⟩
 have HV0:=xhd hv
 rw [hv] at hin
 have HI1:=xhd hin
 clear hown hg hnew hgg hK K' hin hws hv
 try simp only [xga];try simp only [xgs];try simp only [xgz];try simp only [Act.put];try simp only [xsa];try simp only [xss];try simp only [xsz]
 refine wpAnyE_ready (rs:=[4]) (by kernel_rfl) (by simp) ?_
 refine ReadyE.cons rfl (fun K' hK=>?_) ReadyE.nil
 go_simp
 refine hK.out _ _ (.inl rfl) ?_
 clear hK K'
 refine wpAnyE_done (by kernel_rfl) ?_ _
 refine NoPanic.normal ?_
 try simp only [xga];try simp only [xgs];try simp only [xgz];try simp only [Act.put];try simp only [xsa];try simp only [xss];try simp only [xsz]
 rw [HV0.out]
 go_wp2_with fail
 have e1:=cell1 HI1.out.lst
 have HY1:=xhd HI1.out.drew
 have hmix:Tryz.prog.follows .mixedOrders=true:=by kernel_rfl
 refine wp_region_noPanic ?_
 refine wp_region_last (fun V=>V.cell? ⟨K,0,none⟩=some (v0)) 4 hmix e1 (fun hS0=>?_)
 refine wpAnyE_take (i:=0) (v:=?_) rfl (by kernel_rfl) (by kernel_rfl) (fun _ _ _ h=>h) (by kernel_rfl) (by kernel_rfl) (Or.inl ⟨by rfl,?hy⟩) (by assumption) ?_
 case hy=>
  intro w hSw
  (try dsimp only at hSw)
  go_simp
  try with_reducible rfl
 try simp only [xga];try simp only [xgs];try simp only [xgz];try simp only [Act.put];try simp only [xsa];try simp only [xss];try simp only [xsz]
 refine wpAnyE_ready (rs:=[1]) (by kernel_rfl) (by simp) ?_
 refine ReadyE.cons rfl (fun K' hK=>?_) ReadyE.nil
 go_simp
 with_reducible refine (HMO.out _).mono ?_
 rintro e u1 ⟨rfl,hbu⟩
 have hiu:=HY1.out.more hbu
 have HIU1:=xhd hiu
 have eu1:=cell1 hiu.lst
 have HBU1:=xhd hbu
 clear hbu hiu
 go_wp2_with fail
 refine hK.out _ _ (.inr ?_) ?_
 ·exact eu1
 clear hK K'
 try simp only [xga];try simp only [xgs];try simp only [xgz];try simp only [Act.put];try simp only [xsa];try simp only [xss];try simp only [xsz]
 refine wpAnyE_ready (rs:=[2]) (by kernel_rfl) (by simp) ?_
 refine ReadyE.cons rfl (fun K' hK=>?_) ReadyE.nil
 go_simp
 have HIA1:=xhd (HIU1.out.more ((Below.refl _ _).alloc (Nat.le_refl _) (.cells #[.int .i64 3, .string ⟨#[123]⟩, .int .i64 0, .int .i64 0] 95)))
 have ea1:=cell1 HIA1.out.lst
 refine hK.out _ _ (.inr ?_) ?_
 ·exact ea1
 clear hK K'
 try simp only [xga];try simp only [xgs];try simp only [xgz];try simp only [Act.put];try simp only [xsa];try simp only [xss];try simp only [xsz]
 refine wpAnyE_ready (rs:=[3]) (by kernel_rfl) (by simp) ?_
 refine ReadyE.cons rfl (fun K' hK=>?_) ReadyE.nil
 refine step_append_any _ rfl (.tmp 18) (.tmp 20) 50 rfl 95 i0 (.agg #[.int .i64 0, .string ⟨#[]⟩, .int .i64 0, .int .i64 0]) 4 40 Tryz.underlying50 hi0 hz0 hz1 hz2 rfl (by decide) (v0) wr0.length (wdsC wr0) rfl (row_up0 HIA1.out.row) (some ⟨u1.heap.size,0,none⟩) 1 1 [.int .i64 3, .string ⟨#[123]⟩, .int .i64 0, .int .i64 0] rfl rfl (by intro h;cases h) (by intro ad had;cases had;exact word_new _ _ _ _ _ _) (word_ones _ _ _ _) (by unfold maxLen;omega) (by omega) ?_
 intro a1 c1 g1 hown hg hnew
 have hgg:=HIA1.out.grown hg
 have eg1:=cell1 hgg.2.1
 have fg1:=not_frozen hgg.2.1 0
 refine hK.out _ _ (.inr ?_) ?_
 ·exact eg1
 have hin:=wx_push (x:=(3,[123],0,0)) HIA1.out hown hg hnew
 obtain⟨wr1,hws⟩:∃l,wr0++[(3,[123],0,0)]=l:=⟨_,rfl⟩
 rw [hws] at hin
 have hr1:wr1.length≤wr0.length+1:=by rw [←hws];simp
 have HWR1:=xhd hws
 obtain⟨v1,hv⟩:∃v,Value.slice a1 (wr0.length+1) c1=v:=⟨_,rfl⟩
 have HV1:=xhd hv
 rw [hv] at hin
 have HI2:=xhd hin
 clear hown hg hnew hgg hK K' hin hws hv
 try simp only [xga];try simp only [xgs];try simp only [xgz];try simp only [Act.put];try simp only [xsa];try simp only [xss];try simp only [xsz]
 refine wpAnyE_ready (rs:=[4]) (by kernel_rfl) (by simp) ?_
 refine ReadyE.cons rfl (fun K' hK=>?_) ReadyE.nil
 go_simp
 refine hK.out _ _ (.inl rfl) ?_
 clear hK K'
 refine wpAnyE_done (by kernel_rfl) ?_ _
 refine NoPanic.normal ?_
 try simp only [xga];try simp only [xgs];try simp only [xgz];try simp only [Act.put];try simp only [xsa];try simp only [xss];try simp only [xsz]
 rw [HV1.out]
 obtain⟨W8,hW8⟩:∃W8,g1.setCell ⟨K,0,none⟩ v1=W8:=⟨_,rfl⟩
 have HI8:Hid (WLI w W8 K #[.bool true, .slice ao n cap] v1 wr1):=by rw [←hW8];exact HI2
 rw [hW8]
 have HE:=xhd (each_any true ao b off cap L W8 (HA.out.below (HI8.out.t.below (by simp) (Nat.le_refl _))) (by have:=HN.out;omega))
 rw [HN.out] at HE
 obtain⟨c0,c1⟩:=two_cells HI8.out.box
 have hz8:=lt_of_block HI8.out.box
 have hz9:=lt_of_block HI8.out.lst
 clear e0 e1 HY1 HY0 HIU1 HIU0 eu0 eu1 HIA1 HIA0 ea0 ea1 hmix hS0 eg1 fg1 eg0 fg0 hW8 HI2 HI1 HI0 HI5
 go_wp2_with fail
 refine HE.out.mono ?_
 rintro e W9 ⟨B,rfl,hKO,hb9⟩
 obtain⟨Yb,hY,hseq⟩:=each1_seq (n:=19) (by omega) hKO (by have:=HN.out;omega)
 have HY:=xhd hY
 have HSEQ:=xhd hseq
 have HJ0:Hid (WLJ w W9 K W9.heap.size W8.heap.size #[.bool true, .slice ao n cap] v1 (wr1++([]:List (Opn×Nat)).flatMap (fun x=>opW x.1))):=xhd (by
  simp only [List.flatMap_nil,List.append_nil]
  refine⟨HI8.out.more hb9,fun g hg=> .inl (ownsRow_lt HI8.out.row g (by simpa using hg)),Nat.le_refl _⟩)
 have HKN:Hid (K < W8.heap.size):=xhd hz9
 have hz10:=hb9.size
 clear hY hseq hKO hb9 HE c0 c1
 go_wp2_with fail
 refine (wpIn_wide (n:=20)).1 ?_
 refine range_turns_boxed rfl (by omega) (gf:=147) (lb:= #[.pointer (some ⟨B,0,none⟩)]) rfl trivial (enters_of Tryz.func147 (by kernel_rfl) rfl)
  (X:=[]) (Y:=Yb) (by simp) (fun k hk=>(HY.out k hk).2) HSEQ.out (fun _=>rfl) (fun _ _ _ h _=>h) (fun _ _ _ h _=>h)
  (fun pre V=>∃v,WLJ w V K W9.heap.size W8.heap.size #[.bool true, .slice ao n cap] v (wr1++pre.flatMap (fun x=>opW x.1)))
  (fun c pre V=>False)
  (fun xs A B h mm=>h.elim fun v h=>⟨v,h.mild mm (by omega)⟩) (fun c xs A B h mm=>h) ⟨_,HJ0.out⟩ (fun xs V h=>h.elim fun v h=>h.z)
  142 (fun x=> #[.int .i64 x.1.1, .int .i64 x.1.2.1, .int .i64 x.1.2.2]) ?a1 ?assign ?body ?done ?stop
 case stop=>exact fun D c xs V hD hsx h hK=>h.elim
 case assign=>
  intro l x Bk V K' hBk hK
  gi_wp2
  exact hK
 case body=>
  rintro l pre ⟨⟨x1,x2,x3⟩,j⟩ Bk V hk hbk ⟨v,hJ⟩ hsp
  simp only at hk
  obtain⟨k0,k1,k2⟩:=op_cells hk
  obtain⟨av,cv,hv,_,_⟩:=ownsRow_shape hJ.i.row
  subst hv
  obtain⟨wl,hwl⟩:∃m,(wr1++pre.flatMap (fun x=>opW x.1)).length=m:=⟨_,rfl⟩
  have HWL:=xhd hwl
  rw [hwl] at hJ
  have HJ:=xhd hJ
  have HBK:=xhd hk
  have HOW:=xhd (fun V=>opw_any x1 x2 x3 V)
  have hlen:wl+(opW (x1,x2,x3)).length≤100:=by
   have h1:=zip_len hsp
   have h2:=flat_len pre
   have h3:=opW_len (x1,x2,x3)
   have h4:=HN.out
   rw [←hwl,List.length_append]
   omega
  have HLEN:=xhd hlen
  clear hJ hk hsp hwl hlen
  have e2:=cell1 HJ.out.i.lst
  have HY2:=xhd HJ.out.i.drew
  have hmix:Tryz.prog.follows .mixedOrders=true:=by kernel_rfl
  gi_wp2_with fail
  refine wpRound_last (fun V=>V.cell? ⟨K,0,none⟩=some (.slice av wl cv)∧V.cell? ⟨Bk,0,none⟩=some (.int .i64 x1)∧V.cell? ⟨Bk,1,none⟩=some (.int .i64 x2)∧V.cell? ⟨Bk,2,none⟩=some (.int .i64 x3)) 4 (by kernel_rfl) ?_ hmix ⟨e2,k0,k1,k2⟩ (fun hS0=>?_)
  ·rintro ⟨_,_,h⟩;exact h
  refine wpAnyE_take (i:=0) (v:=?_) rfl (by kernel_rfl) (by kernel_rfl) (fun _ _ _ h=>h) (by kernel_rfl) (by kernel_rfl) (Or.inl ⟨by rfl,?hy⟩) (by assumption) ?_
  case hy=>
   intro w hSw
   (try dsimp only at hSw)
   obtain⟨s0,s1,s2,s3⟩:=hSw
   go_simp
   try with_reducible rfl
  try simp only [xga];try simp only [xgs];try simp only [xgz];try simp only [Act.put];try simp only [xsa];try simp only [xss];try simp only [xsz]
  refine wpAnyE_take (i:=1) (v:=?_) rfl (by kernel_rfl) (by kernel_rfl) (fun _ _ _ h=>h) (by kernel_rfl) (by kernel_rfl) (Or.inl ⟨by rfl,?hy⟩) (by assumption) ?_
  case hy=>
   intro w hSw
   (try dsimp only at hSw)
   obtain⟨s0,s1,s2,s3⟩:=hSw
   go_simp
   try with_reducible rfl
  try simp only [xga];try simp only [xgs];try simp only [xgz];try simp only [Act.put];try simp only [xsa];try simp only [xss];try simp only [xsz]
  refine wpAnyE_ready (rs:=[2]) (by kernel_rfl) (by simp) ?_
  refine ReadyE.cons rfl (fun K' hK=>?_) ReadyE.nil
  go_simp
  with_reducible refine (HOW.out _).mono ?_
  rintro e u2 ⟨vo,rfl,hro,hbu⟩
  have hiu:=HJ.out.i.drew.more hbu
  have HIU2:=xhd hiu
  have eu2:=cell1 hiu.lst
  have hk2:=(hbu.block _ (lt_of_block HBK.out)).trans HBK.out
  obtain⟨k0u,k1u,k2u⟩:=op_cells hk2
  have hpos:0 < (opW (x1,x2,x3)).length:=by unfold opW;simp
  obtain⟨go,co,hvo,_,_⟩:=ownsRow_pos hro hpos
  subst hvo
  have HRO:=xhd hro
  have HK2:=xhd hk2
  have HBU:=xhd hbu
  clear hbu hiu hro hk2 hpos
  go_wp2_with fail
  refine hK.out _ _ (.inr ?_) ?_
  ·exact⟨eu2,k0u,k1u,k2u⟩
  clear hK K'
  try simp only [xga];try simp only [xgs];try simp only [xgz];try simp only [Act.put];try simp only [xsa];try simp only [xss];try simp only [xsz]
  refine wpAnyE_ready (rs:=[3]) (by kernel_rfl) (by simp) ?_
  refine ReadyE.cons rfl (fun K' hK=>?_) ReadyE.nil
  refine step_append_any _ rfl (.tmp 26) (.tmp 28) 50 rfl 95 i0 (.agg #[.int .i64 0, .string ⟨#[]⟩, .int .i64 0, .int .i64 0]) 4 40 Tryz.underlying50 hi0 hz0 hz1 hz2 rfl (by decide) (.slice av wl cv) wl (wdsC (wr1++pre.flatMap (fun x=>opW x.1))) rfl (by have hq:=row_up0 HIU2.out.row;rw [HWL.out] at hq;exact hq) (some ⟨go,0,none⟩) (opW (x1,x2,x3)).length co (wdsC (opW (x1,x2,x3))) rfl (by rw [wdsC_len]) (by intro h;cases h) (by intro ad had;cases had;exact HRO.out.cells (g:=go) rfl) (wdsC_one _) (by unfold maxLen;have:=HLEN.out;omega) (by have:=HLEN.out;omega) ?_
  intro a2 c2 g2 hown hg hnew
  have hgg:=HIU2.out.grown hg
  have eg2:=cell1 hgg.2.1
  have fg2:=not_frozen hgg.2.1 0
  have hk3:=(hg.block _ (lt_of_block HK2.out) (block_off HK2.out HIU2.out.row (by decide))).trans HK2.out
  obtain⟨k0g,k1g,k2g⟩:=op_cells hk3
  clear hk3
  refine hK.out _ _ (.inr ?_) ?_
  ·exact⟨eg2,k0g,k1g,k2g⟩
  have hin:=WLJ.round (v':= .slice a2 (wl+(opW (x1,x2,x3)).length) c2) (w4:=g2) (V1:=u2) (xs:=opW (x1,x2,x3)) (m:=(opW (x1,x2,x3)).length) HJ.out HKN.out (((Below.refl _ V).drew).trans HBU.out) rfl (by rw [HWL.out];exact hown) hg hnew
  have HIN:=xhd hin
  clear hown hg hnew hgg hK K' hin
  try simp only [xga];try simp only [xgs];try simp only [xgz];try simp only [Act.put];try simp only [xsa];try simp only [xss];try simp only [xsz]
  refine wpAnyE_ready (rs:=[4]) (by kernel_rfl) (by simp) ?_
  refine ReadyE.cons rfl (fun K' hK=>?_) ReadyE.nil
  go_simp
  refine hK.out _ _ (.inl rfl) ?_
  clear hK K'
  refine wpAnyE_done (by kernel_rfl) ?_ _
  try simp only [xga];try simp only [xgs];try simp only [xgz];try simp only [Act.put];try simp only [xsa];try simp only [xss];try simp only [xsz]
  refine⟨HIN.out.1 _,fun j hj=>HIN.out.2.1 j (HY.out j hj).1 (HY.out j hj).2, .slice a2 (wl+(opW (x1,x2,x3)).length) c2,?_⟩
  rw [List.flatMap_append,List.flatMap_cons,List.flatMap_nil,List.append_nil, ←List.append_assoc]
  exact HIN.out.2.2
 case done=>
  rintro D xs V hD rfl ⟨v,hJ⟩ hKD
  rw [flat_zip] at hJ
  obtain⟨av,cv,hv,_,_⟩:=ownsRow_shape hJ.i.row
  subst hv
  have hl3:(wr1++L.flatMap opW).length≤60:=by
   have h2:=flat_len L.zipIdx
   rw [flat_zip,List.length_zipIdx] at h2
   have h4:=HN.out
   rw [List.length_append]
   omega
  obtain⟨ws3,hws3⟩:∃l,wr1++L.flatMap opW=l:=⟨_,rfl⟩
  rw [hws3] at hJ hl3
  obtain⟨v3,hv3⟩:∃v,Value.slice av ws3.length cv=v:=⟨_,rfl⟩
  rw [hv3] at hJ
  have HWS3:=xhd hws3
  have HI3:=xhd hJ.i
  have HKD:=xhd hKD
  have e3:=cell1 HI3.out.lst
  clear hJ hKD hws3 hv3
  go_wp2_with fail
  have e3:=cell1 HI3.out.lst
  have HY3:=xhd HI3.out.drew
  have hmix:Tryz.prog.follows .mixedOrders=true:=by kernel_rfl
  refine wp_region_noPanic ?_
  refine wp_region_last (fun V=>V.cell? ⟨K,0,none⟩=some (v3)) 5 hmix e3 (fun hS0=>?_)
  refine wpAnyE_take (i:=0) (v:=?_) rfl (by kernel_rfl) (by kernel_rfl) (fun _ _ _ h=>h) (by kernel_rfl) (by kernel_rfl) (Or.inl ⟨by rfl,?hy⟩) (by assumption) ?_
  case hy=>
   intro w hSw
   (try dsimp only at hSw)
   go_simp
   try with_reducible rfl
  try simp only [xga];try simp only [xgs];try simp only [xgz];try simp only [Act.put];try simp only [xsa];try simp only [xss];try simp only [xsz]
  refine wpAnyE_ready (rs:=[1]) (by kernel_rfl) (by simp) ?_
  refine ReadyE.cons rfl (fun K' hK=>?_) ReadyE.nil
  go_simp
  with_reducible refine (HMC.out _).mono ?_
  rintro e u3 ⟨rfl,hbu⟩
  have hiu:=HY3.out.more hbu
  have HIU3:=xhd hiu
  have eu3:=cell1 hiu.lst
  have HBU3:=xhd hbu
  clear hbu hiu
  go_wp2_with fail
  refine hK.out _ _ (.inr ?_) ?_
  ·exact eu3
  clear hK K'
  try simp only [xga];try simp only [xgs];try simp only [xgz];try simp only [Act.put];try simp only [xsa];try simp only [xss];try simp only [xsz]
  refine wpAnyE_ready (rs:=[2]) (by kernel_rfl) (by simp) ?_
  refine ReadyE.cons rfl (fun K' hK=>?_) ReadyE.nil
  go_simp
  have HIA3:=xhd (HIU3.out.more ((Below.refl _ _).alloc (Nat.le_refl _) (.cells #[.int .i64 3, .string ⟨#[125]⟩, .int .i64 0, .int .i64 0] 95)))
  have ea3:=cell1 HIA3.out.lst
  refine hK.out _ _ (.inr ?_) ?_
  ·exact ea3
  clear hK K'
  try simp only [xga];try simp only [xgs];try simp only [xgz];try simp only [Act.put];try simp only [xsa];try simp only [xss];try simp only [xsz]
  refine wpAnyE_ready (rs:=[3]) (by kernel_rfl) (by simp) ?_
  refine ReadyE.cons rfl (fun K' hK=>?_) ReadyE.nil
  refine step_append_any _ rfl (.tmp 30) (.tmp 32) 50 rfl 95 i0 (.agg #[.int .i64 0, .string ⟨#[]⟩, .int .i64 0, .int .i64 0]) 4 40 Tryz.underlying50 hi0 hz0 hz1 hz2 rfl (by decide) (v3) ws3.length (wdsC ws3) rfl (row_up0 HIA3.out.row) (some ⟨u3.heap.size,0,none⟩) 1 1 [.int .i64 3, .string ⟨#[125]⟩, .int .i64 0, .int .i64 0] rfl rfl (by intro h;cases h) (by intro ad had;cases had;exact word_new _ _ _ _ _ _) (word_ones _ _ _ _) (by unfold maxLen;omega) (by omega) ?_
  intro a3 c3 g3 hown hg hnew
  have hgg:=HIA3.out.grown hg
  have eg3:=cell1 hgg.2.1
  have fg3:=not_frozen hgg.2.1 0
  refine hK.out _ _ (.inr ?_) ?_
  ·exact eg3
  have HO3:=xhd (row_up0 HIA3.out.row)
  have HOWN:=xhd hown
  have HG:=xhd hg
  have HNEW:=xhd hnew
  have HGG:=xhd hgg
  clear hown hg hnew hgg hK K'
  try simp only [xga];try simp only [xgs];try simp only [xgz];try simp only [Act.put];try simp only [xsa];try simp only [xss];try simp only [xsz]
  refine wpAnyE_ready (rs:=[4]) (by kernel_rfl) (by simp) ?_
  refine ReadyE.cons rfl (fun K' hK=>?_) ReadyE.nil
  go_simp
  refine hK.out _ _ (.inr ?_) ?_
  ·exact eg3
  clear hK K'
  try simp only [xga];try simp only [xgs];try simp only [xgz];try simp only [Act.put];try simp only [xsa];try simp only [xss];try simp only [xsz]
  refine wpAnyE_ready (rs:=[5]) (by kernel_rfl) (by simp) ?_
  refine ReadyE.cons rfl (fun K' hK=>?_) ReadyE.nil
  go_simp
  refine hK.out _ _ (.inl rfl) ?_
  clear hK K'
  refine wpAnyE_done (by kernel_rfl) ?_ _
  refine NoPanic.normal ?_
  try simp only [xga];try simp only [xgs];try simp only [xgz];try simp only [Act.put];try simp only [xsa];try simp only [xss];try simp only [xsz]
  have hkd:g3.heap[D]?=some (.deferred (some [])):=by
   have h1:=(HBU3.out.block D (lt_of_block HKD.out)).trans HKD.out
   refine (HG.out.block D (Nat.lt_of_lt_of_le (lt_of_block h1) (by simp)) (fun e=>?_)).trans ((Below.heap_alloc _ _ _ (lt_of_block h1)).trans h1)
   obtain⟨cur,hc⟩:=ownsRow_type HO3.out D (by simp [←e])
   rw [Below.heap_alloc _ _ _ (lt_of_block h1),h1] at hc
   cases hc
  have HKD3:=xhd hkd
  clear hkd e3 ea3 eg3 eu3 fg3 hS0 HY3 HIU3
  go_wp2
  refine⟨by simp, .inl ⟨_,_,rfl,run_takeDeferred HKD3.out,?_⟩⟩
  have hW:W=ws3++[(3,[125],0,0)]:=by
   rw [←HW.out,words_head, ←HWS3.out, ←HWR1.out, ←HWR0.out, ←HWS0.out]
   simp [headR]
  have hrow:WRow w.heap.size g3 (.slice a3 (ws3.length+1) c3) (ws3++[(3,[125],0,0)]):=by
   unfold WRow
   rw [List.length_append,wdsC_snoc]
   refine row_up HOWN.out (fun g hx=>?_)
   rcases HNEW.out g hx with h1|h1
   ·exact (HI3.out.row.lt g (by simpa using h1)).1
   ·exact Nat.le_trans HIA3.out.t.size h1
  have hoff:∀k,(Value.slice a3 (ws3.length+1) c3).ownBlock=some k→k≠D:=by
   rintro k hk rfl
   obtain⟨cur,hc⟩:=ownsRow_type hrow k (by simp [hk])
   rw [HKD3.out] at hc
   cases hc
  refine⟨.tuple #[.slice a3 (ws3.length+1) c3, .int .i64 0],?res,_,rfl,?_,?_⟩
  case res=>first|(go_simp;done) |(simp [results,go_sem];done) |kernel_rfl|trace_state
  ·rw [hW]
   exact ownsRow_same hrow (fun k hk _=>World.putObj_heap_other (hoff k (by simpa using hk)))
  ·exact (HGG.out.2.2.put (by omega) _).below (by simp) (Nat.le_refl _)
theorem pwords_f (ao:Option Addr) (b off cap:Nat) (L:List Opn) (w:World) (h:OArg w ao b off L) (hq:mayR (false,L)=true):
  Calls Tryz.prog 45 #[prgV false ao L.length cap] w (WordsQ false L w):=by
 have hl12:L.length≤12:=by
  unfold mayR at hq
  simp only [Bool.and_eq_true,decide_eq_true_eq] at hq
  omega
 unfold WordsQ
 rw [hq]
 simp only [if_pos]
 obtain⟨i0,hi0,hz0,hz1,hz2⟩:=info_parts word_info
 refine callsIn_wide.1 (?_:CallsIn Fence.wide 20 _ _ _ _ _)
 refine callsIn_of_wp_marks Tryz.func45 rfl trivial ?_ rfl
 simp only [Tryz.ntmps45,List.size_toArray,List.length_cons,List.length_nil,Nat.reduceAdd,Nat.reduceSub,Array.replicate_succ,Array.replicate_zero,List.push_toArray,List.append_toArray,List.nil_append,List.cons_append]
 refine wpIn_wide.2 ?_
 have hb0:Below w.heap.size w (w.alloc (.cells #[.bool false, .slice ao L.length cap] 49)):=(Below.refl _ w).alloc (Nat.le_refl _) _
 have hm:=pmay_any false ao b off cap L (w.alloc (.cells #[.bool false, .slice ao L.length cap] 49)) (h.below hb0)
 rw [hq] at hm
 have HMAY:=xhd hm
 have HP:=xhd (fun W=>pname_any ⟨#[112,114,111,103]⟩ W)
 have HFV:=xhd (fun W=>pname_any ⟨#[102,111,114,101,118,101,114]⟩ W)
 have HMO:=xhd (fun W=>pmark_any ⟨#[123]⟩ W)
 have HMC:=xhd (fun W=>pmark_any ⟨#[125]⟩ W)
 have HA:=xhd h
 obtain⟨n,hn⟩:∃n,L.length=n:=⟨_,rfl⟩
 have HN:=xhd hn
 rw [hn] at HMAY hl12 ⊢
 obtain⟨W,hW⟩:∃W,wordsR (false,L)=W:=⟨_,rfl⟩
 have HW:=xhd hW
 rw [hW]
 clear h hb0 hm hn hq hW
 go_wp2_with fail
 refine HMAY.out.mono ?_
 rintro e w1 ⟨rfl,hb1⟩
 obtain⟨hx1,hbw⟩:=box_kept hb1
 obtain⟨c0,c1⟩:=two_cells hx1
 have hlt1:=lt_of_block hx1
 have HX1:=xhd hx1
 have HB1:=xhd hbw
 clear hb1 hx1 hbw HMAY
 go_wp2_with fail
 refine (HP.out _).mono ?_
 rintro e w3 ⟨rfl,hb3⟩
 have hx3:=(hb3.block _ (lt_of_block HX1.out)).trans HX1.out
 have hs3:=lt_of_block hx3
 clear c0 c1
 obtain⟨c0,c1⟩:=two_cells hx3
 obtain⟨K,hK⟩:∃K,w3.heap.size+1=K:=⟨_,rfl⟩
 obtain⟨W5,hW5⟩:∃W5,(w3.alloc (.cells #[.int .i64 1, .string ⟨#[112,114,111,103]⟩, .int .i64 0, .int .i64 0] 95)).alloc (.cells #[.slice (some ⟨w3.heap.size,0,none⟩) 1 1] 50)=W5:=⟨_,rfl⟩
 have hi5:=WLI.start (x:=(1,progB,0,0)) rfl HX1.out HB1.out hb3 (p:= .int .i64 1) (q:= .string ⟨#[112,114,111,103]⟩) (r:= .int .i64 0) (t:= .int .i64 0)
 rw [hW5,hK] at hi5
 have HI5:=xhd hi5
 have HWW:=xhd hW5
 have HKK:=xhd hK
 obtain⟨ws0,hws⟩:∃l:List Wd,[(1,progB,0,0)]=l:=⟨_,rfl⟩
 rw [hws] at HI5
 have hl0:ws0.length≤1:=by rw [←hws];exact Nat.le_refl _
 have HWS0:=xhd hws
 clear hb3 hi5 hW5 hK hws
 go_wp2_with fail
 rw [HWW.out,HKK.out]
 have HI1:=HI5
 have e1:=cell1 HI1.out.lst
 have HY1:=xhd HI1.out.drew
 have hmix:Tryz.prog.follows .mixedOrders=true:=by kernel_rfl
 refine wp_region_noPanic ?_
 refine wp_region_last (fun V=>V.cell? ⟨K,0,none⟩=some (.slice (some ⟨w3.heap.size,0,none⟩) 1 1)) 4 hmix e1 (fun hS0=>?_)
 refine wpAnyE_take (i:=0) (v:=?_) rfl (by kernel_rfl) (by kernel_rfl) (fun _ _ _ h=>h) (by kernel_rfl) (by kernel_rfl) (Or.inl ⟨by rfl,?hy⟩) (by assumption) ?_
 case hy=>
  intro w hSw
  (try dsimp only at hSw)
  go_simp
  try with_reducible rfl
 try simp only [xga];try simp only [xgs];try simp only [xgz];try simp only [Act.put];try simp only [xsa];try simp only [xss];try simp only [xsz]
 refine wpAnyE_ready (rs:=[1]) (by kernel_rfl) (by simp) ?_
 refine ReadyE.cons rfl (fun K' hK=>?_) ReadyE.nil
 go_simp
 with_reducible refine (HMO.out _).mono ?_
 rintro e u1 ⟨rfl,hbu⟩
 have hiu:=HY1.out.more hbu
 have HIU1:=xhd hiu
 have eu1:=cell1 hiu.lst
 have HBU1:=xhd hbu
 clear hbu hiu
 go_wp2_with fail
 refine hK.out _ _ (.inr ?_) ?_
 ·exact eu1
 clear hK K'
 try simp only [xga];try simp only [xgs];try simp only [xgz];try simp only [Act.put];try simp only [xsa];try simp only [xss];try simp only [xsz]
 refine wpAnyE_ready (rs:=[2]) (by kernel_rfl) (by simp) ?_
 refine ReadyE.cons rfl (fun K' hK=>?_) ReadyE.nil
 go_simp
 have HIA1:=xhd (HIU1.out.more ((Below.refl _ _).alloc (Nat.le_refl _) (.cells #[.int .i64 3, .string ⟨#[123]⟩, .int .i64 0, .int .i64 0] 95)))
 have ea1:=cell1 HIA1.out.lst
 refine hK.out _ _ (.inr ?_) ?_
 ·exact ea1
 clear hK K'
 try simp only [xga];try simp only [xgs];try simp only [xgz];try simp only [Act.put];try simp only [xsa];try simp only [xss];try simp only [xsz]
 refine wpAnyE_ready (rs:=[3]) (by kernel_rfl) (by simp) ?_
 refine ReadyE.cons rfl (fun K' hK=>?_) ReadyE.nil
 refine step_append_any _ rfl (.tmp 18) (.tmp 20) 50 rfl 95 i0 (.agg #[.int .i64 0, .string ⟨#[]⟩, .int .i64 0, .int .i64 0]) 4 40 Tryz.underlying50 hi0 hz0 hz1 hz2 rfl (by decide) (.slice (some ⟨w3.heap.size,0,none⟩) 1 1) ws0.length (wdsC ws0) rfl (row_up0 HIA1.out.row) (some ⟨u1.heap.size,0,none⟩) 1 1 [.int .i64 3, .string ⟨#[123]⟩, .int .i64 0, .int .i64 0] rfl rfl (by intro h;cases h) (by intro ad had;cases had;exact word_new _ _ _ _ _ _) (word_ones _ _ _ _) (by unfold maxLen;omega) (by omega) ?_
 intro a1 c1 g1 hown hg hnew
 have hgg:=HIA1.out.grown hg
 have eg1:=cell1 hgg.2.1
 have fg1:=not_frozen hgg.2.1 0
 refine hK.out _ _ (.inr ?_) ?_
 ·exact eg1
 have hin:=wx_push (x:=(3,[123],0,0)) HIA1.out hown hg hnew
 obtain⟨wr1,hws⟩:∃l,ws0++[(3,[123],0,0)]=l:=⟨_,rfl⟩
 rw [hws] at hin
 have hr1:wr1.length≤ws0.length+1:=by rw [←hws];simp
 have HWR1:=xhd hws
 obtain⟨v1,hv⟩:∃v,Value.slice a1 (ws0.length+1) c1=v:=⟨_,rfl⟩
 have HV1:=xhd hv
 rw [hv] at hin
 have HI2:=xhd hin
 clear hown hg hnew hgg hK K' hin hws hv
 try simp only [xga];try simp only [xgs];try simp only [xgz];try simp only [Act.put];try simp only [xsa];try simp only [xss];try simp only [xsz]
 refine wpAnyE_ready (rs:=[4]) (by kernel_rfl) (by simp) ?_
 refine ReadyE.cons rfl (fun K' hK=>?_) ReadyE.nil
 go_simp
 refine hK.out _ _ (.inl rfl) ?_
 clear hK K'
 refine wpAnyE_done (by kernel_rfl) ?_ _
 refine NoPanic.normal ?_
 try simp only [xga];try simp only [xgs];try simp only [xgz];try simp only [Act.put];try simp only [xsa];try simp only [xss];try simp only [xsz]
 rw [HV1.out]
 obtain⟨W8,hW8⟩:∃W8,g1.setCell ⟨K,0,none⟩ v1=W8:=⟨_,rfl⟩
 have HI8:Hid (WLI w W8 K #[.bool false, .slice ao n cap] v1 wr1):=by rw [←hW8];exact HI2
 rw [hW8]
 have HE:=xhd (each_any false ao b off cap L W8 (HA.out.below (HI8.out.t.below (by simp) (Nat.le_refl _))) (by have:=HN.out;omega))
 rw [HN.out] at HE
 obtain⟨c0,c1⟩:=two_cells HI8.out.box
 have hz8:=lt_of_block HI8.out.box
 have hz9:=lt_of_block HI8.out.lst
 clear e1 HY1 HIU1 eu1 HIA1 ea1 hmix hS0 eg1 fg1 hW8 HI2 HI1 HI5
 go_wp2_with fail
 refine HE.out.mono ?_
 rintro e W9 ⟨B,rfl,hKO,hb9⟩
 obtain⟨Yb,hY,hseq⟩:=each1_seq (n:=19) (by omega) hKO (by have:=HN.out;omega)
 have HY:=xhd hY
 have HSEQ:=xhd hseq
 have HJ0:Hid (WLJ w W9 K W9.heap.size W8.heap.size #[.bool false, .slice ao n cap] v1 (wr1++([]:List (Opn×Nat)).flatMap (fun x=>opW x.1))):=xhd (by
  simp only [List.flatMap_nil,List.append_nil]
  refine⟨HI8.out.more hb9,fun g hg=> .inl (ownsRow_lt HI8.out.row g (by simpa using hg)),Nat.le_refl _⟩)
 have HKN:Hid (K < W8.heap.size):=xhd hz9
 have hz10:=hb9.size
 clear hY hseq hKO hb9 HE c0 c1
 go_wp2_with fail
 refine (wpIn_wide (n:=20)).1 ?_
 refine range_turns_boxed rfl (by omega) (gf:=147) (lb:= #[.pointer (some ⟨B,0,none⟩)]) rfl trivial (enters_of Tryz.func147 (by kernel_rfl) rfl)
  (X:=[]) (Y:=Yb) (by simp) (fun k hk=>(HY.out k hk).2) HSEQ.out (fun _=>rfl) (fun _ _ _ h _=>h) (fun _ _ _ h _=>h)
  (fun pre V=>∃v,WLJ w V K W9.heap.size W8.heap.size #[.bool false, .slice ao n cap] v (wr1++pre.flatMap (fun x=>opW x.1)))
  (fun c pre V=>False)
  (fun xs A B h mm=>h.elim fun v h=>⟨v,h.mild mm (by omega)⟩) (fun c xs A B h mm=>h) ⟨_,HJ0.out⟩ (fun xs V h=>h.elim fun v h=>h.z)
  142 (fun x=> #[.int .i64 x.1.1, .int .i64 x.1.2.1, .int .i64 x.1.2.2]) ?a1 ?assign ?body ?done ?stop
 case stop=>exact fun D c xs V hD hsx h hK=>h.elim
 case assign=>
  intro l x Bk V K' hBk hK
  gi_wp2
  exact hK
 case body=>
  rintro l pre ⟨⟨x1,x2,x3⟩,j⟩ Bk V hk hbk ⟨v,hJ⟩ hsp
  simp only at hk
  obtain⟨k0,k1,k2⟩:=op_cells hk
  obtain⟨av,cv,hv,_,_⟩:=ownsRow_shape hJ.i.row
  subst hv
  obtain⟨wl,hwl⟩:∃m,(wr1++pre.flatMap (fun x=>opW x.1)).length=m:=⟨_,rfl⟩
  have HWL:=xhd hwl
  rw [hwl] at hJ
  have HJ:=xhd hJ
  have HBK:=xhd hk
  have HOW:=xhd (fun V=>opw_any x1 x2 x3 V)
  have hlen:wl+(opW (x1,x2,x3)).length≤100:=by
   have h1:=zip_len hsp
   have h2:=flat_len pre
   have h3:=opW_len (x1,x2,x3)
   have h4:=HN.out
   rw [←hwl,List.length_append]
   omega
  have HLEN:=xhd hlen
  clear hJ hk hsp hwl hlen
  have e2:=cell1 HJ.out.i.lst
  have HY2:=xhd HJ.out.i.drew
  have hmix:Tryz.prog.follows .mixedOrders=true:=by kernel_rfl
  gi_wp2_with fail
  refine wpRound_last (fun V=>V.cell? ⟨K,0,none⟩=some (.slice av wl cv)∧V.cell? ⟨Bk,0,none⟩=some (.int .i64 x1)∧V.cell? ⟨Bk,1,none⟩=some (.int .i64 x2)∧V.cell? ⟨Bk,2,none⟩=some (.int .i64 x3)) 4 (by kernel_rfl) ?_ hmix ⟨e2,k0,k1,k2⟩ (fun hS0=>?_)
  ·rintro ⟨_,_,h⟩;exact h
  refine wpAnyE_take (i:=0) (v:=?_) rfl (by kernel_rfl) (by kernel_rfl) (fun _ _ _ h=>h) (by kernel_rfl) (by kernel_rfl) (Or.inl ⟨by rfl,?hy⟩) (by assumption) ?_
  case hy=>
   intro w hSw
   (try dsimp only at hSw)
   obtain⟨s0,s1,s2,s3⟩:=hSw
   go_simp
   try with_reducible rfl
  try simp only [xga];try simp only [xgs];try simp only [xgz];try simp only [Act.put];try simp only [xsa];try simp only [xss];try simp only [xsz]
  refine wpAnyE_take (i:=1) (v:=?_) rfl (by kernel_rfl) (by kernel_rfl) (fun _ _ _ h=>h) (by kernel_rfl) (by kernel_rfl) (Or.inl ⟨by rfl,?hy⟩) (by assumption) ?_
  case hy=>
   intro w hSw
   (try dsimp only at hSw)
   obtain⟨s0,s1,s2,s3⟩:=hSw
   go_simp
   try with_reducible rfl
  try simp only [xga];try simp only [xgs];try simp only [xgz];try simp only [Act.put];try simp only [xsa];try simp only [xss];try simp only [xsz]
  refine wpAnyE_ready (rs:=[2]) (by kernel_rfl) (by simp) ?_
  refine ReadyE.cons rfl (fun K' hK=>?_) ReadyE.nil
  go_simp
  with_reducible refine (HOW.out _).mono ?_
  rintro e u2 ⟨vo,rfl,hro,hbu⟩
  have hiu:=HJ.out.i.drew.more hbu
  have HIU2:=xhd hiu
  have eu2:=cell1 hiu.lst
  have hk2:=(hbu.block _ (lt_of_block HBK.out)).trans HBK.out
  obtain⟨k0u,k1u,k2u⟩:=op_cells hk2
  have hpos:0 < (opW (x1,x2,x3)).length:=by unfold opW;simp
  obtain⟨go,co,hvo,_,_⟩:=ownsRow_pos hro hpos
  subst hvo
  have HRO:=xhd hro
  have HK2:=xhd hk2
  have HBU:=xhd hbu
  clear hbu hiu hro hk2 hpos
  go_wp2_with fail
  refine hK.out _ _ (.inr ?_) ?_
  ·exact⟨eu2,k0u,k1u,k2u⟩
  clear hK K'
  try simp only [xga];try simp only [xgs];try simp only [xgz];try simp only [Act.put];try simp only [xsa];try simp only [xss];try simp only [xsz]
  refine wpAnyE_ready (rs:=[3]) (by kernel_rfl) (by simp) ?_
  refine ReadyE.cons rfl (fun K' hK=>?_) ReadyE.nil
  refine step_append_any _ rfl (.tmp 26) (.tmp 28) 50 rfl 95 i0 (.agg #[.int .i64 0, .string ⟨#[]⟩, .int .i64 0, .int .i64 0]) 4 40 Tryz.underlying50 hi0 hz0 hz1 hz2 rfl (by decide) (.slice av wl cv) wl (wdsC (wr1++pre.flatMap (fun x=>opW x.1))) rfl (by have hq:=row_up0 HIU2.out.row;rw [HWL.out] at hq;exact hq) (some ⟨go,0,none⟩) (opW (x1,x2,x3)).length co (wdsC (opW (x1,x2,x3))) rfl (by rw [wdsC_len]) (by intro h;cases h) (by intro ad had;cases had;exact HRO.out.cells (g:=go) rfl) (wdsC_one _) (by unfold maxLen;have:=HLEN.out;omega) (by have:=HLEN.out;omega) ?_
  intro a2 c2 g2 hown hg hnew
  have hgg:=HIU2.out.grown hg
  have eg2:=cell1 hgg.2.1
  have fg2:=not_frozen hgg.2.1 0
  have hk3:=(hg.block _ (lt_of_block HK2.out) (block_off HK2.out HIU2.out.row (by decide))).trans HK2.out
  obtain⟨k0g,k1g,k2g⟩:=op_cells hk3
  clear hk3
  refine hK.out _ _ (.inr ?_) ?_
  ·exact⟨eg2,k0g,k1g,k2g⟩
  have hin:=WLJ.round (v':= .slice a2 (wl+(opW (x1,x2,x3)).length) c2) (w4:=g2) (V1:=u2) (xs:=opW (x1,x2,x3)) (m:=(opW (x1,x2,x3)).length) HJ.out HKN.out (((Below.refl _ V).drew).trans HBU.out) rfl (by rw [HWL.out];exact hown) hg hnew
  have HIN:=xhd hin
  clear hown hg hnew hgg hK K' hin
  try simp only [xga];try simp only [xgs];try simp only [xgz];try simp only [Act.put];try simp only [xsa];try simp only [xss];try simp only [xsz]
  refine wpAnyE_ready (rs:=[4]) (by kernel_rfl) (by simp) ?_
  refine ReadyE.cons rfl (fun K' hK=>?_) ReadyE.nil
  go_simp
  refine hK.out _ _ (.inl rfl) ?_
  clear hK K'
  refine wpAnyE_done (by kernel_rfl) ?_ _
  try simp only [xga];try simp only [xgs];try simp only [xgz];try simp only [Act.put];try simp only [xsa];try simp only [xss];try simp only [xsz]
  refine⟨HIN.out.1 _,fun j hj=>HIN.out.2.1 j (HY.out j hj).1 (HY.out j hj).2, .slice a2 (wl+(opW (x1,x2,x3)).length) c2,?_⟩
  rw [List.flatMap_append,List.flatMap_cons,List.flatMap_nil,List.append_nil, ←List.append_assoc]
  exact HIN.out.2.2
 case done=>
  rintro D xs V hD rfl ⟨v,hJ⟩ hKD
  rw [flat_zip] at hJ
  obtain⟨av,cv,hv,_,_⟩:=ownsRow_shape hJ.i.row
  subst hv
  have hl3:(wr1++L.flatMap opW).length≤60:=by
   have h2:=flat_len L.zipIdx
   rw [flat_zip,List.length_zipIdx] at h2
   have h4:=HN.out
   rw [List.length_append]
   omega
  obtain⟨ws3,hws3⟩:∃l,wr1++L.flatMap opW=l:=⟨_,rfl⟩
  rw [hws3] at hJ hl3
  obtain⟨v3,hv3⟩:∃v,Value.slice av ws3.length cv=v:=⟨_,rfl⟩
  rw [hv3] at hJ
  have HWS3:=xhd hws3
  have HI3:=xhd hJ.i
  have HKD:=xhd hKD
  have e3:=cell1 HI3.out.lst
  clear hJ hKD hws3 hv3
  go_wp2_with fail
  have e3:=cell1 HI3.out.lst
  have HY3:=xhd HI3.out.drew
  have hmix:Tryz.prog.follows .mixedOrders=true:=by kernel_rfl
  refine wp_region_noPanic ?_
  refine wp_region_last (fun V=>V.cell? ⟨K,0,none⟩=some (v3)) 5 hmix e3 (fun hS0=>?_)
  refine wpAnyE_take (i:=0) (v:=?_) rfl (by kernel_rfl) (by kernel_rfl) (fun _ _ _ h=>h) (by kernel_rfl) (by kernel_rfl) (Or.inl ⟨by rfl,?hy⟩) (by assumption) ?_
  case hy=>
   intro w hSw
   (try dsimp only at hSw)
   go_simp
   try with_reducible rfl
  try simp only [xga];try simp only [xgs];try simp only [xgz];try simp only [Act.put];try simp only [xsa];try simp only [xss];try simp only [xsz]
  refine wpAnyE_ready (rs:=[1]) (by kernel_rfl) (by simp) ?_
  refine ReadyE.cons rfl (fun K' hK=>?_) ReadyE.nil
  go_simp
  with_reducible refine (HMC.out _).mono ?_
  rintro e u3 ⟨rfl,hbu⟩
  have hiu:=HY3.out.more hbu
  have HIU3:=xhd hiu
  have eu3:=cell1 hiu.lst
  have HBU3:=xhd hbu
  clear hbu hiu
  go_wp2_with fail
  refine hK.out _ _ (.inr ?_) ?_
  ·exact eu3
  clear hK K'
  try simp only [xga];try simp only [xgs];try simp only [xgz];try simp only [Act.put];try simp only [xsa];try simp only [xss];try simp only [xsz]
  refine wpAnyE_ready (rs:=[2]) (by kernel_rfl) (by simp) ?_
  refine ReadyE.cons rfl (fun K' hK=>?_) ReadyE.nil
  go_simp
  have HIA3:=xhd (HIU3.out.more ((Below.refl _ _).alloc (Nat.le_refl _) (.cells #[.int .i64 3, .string ⟨#[125]⟩, .int .i64 0, .int .i64 0] 95)))
  have ea3:=cell1 HIA3.out.lst
  refine hK.out _ _ (.inr ?_) ?_
  ·exact ea3
  clear hK K'
  try simp only [xga];try simp only [xgs];try simp only [xgz];try simp only [Act.put];try simp only [xsa];try simp only [xss];try simp only [xsz]
  refine wpAnyE_ready (rs:=[3]) (by kernel_rfl) (by simp) ?_
  refine ReadyE.cons rfl (fun K' hK=>?_) ReadyE.nil
  refine step_append_any _ rfl (.tmp 30) (.tmp 32) 50 rfl 95 i0 (.agg #[.int .i64 0, .string ⟨#[]⟩, .int .i64 0, .int .i64 0]) 4 40 Tryz.underlying50 hi0 hz0 hz1 hz2 rfl (by decide) (v3) ws3.length (wdsC ws3) rfl (row_up0 HIA3.out.row) (some ⟨u3.heap.size,0,none⟩) 1 1 [.int .i64 3, .string ⟨#[125]⟩, .int .i64 0, .int .i64 0] rfl rfl (by intro h;cases h) (by intro ad had;cases had;exact word_new _ _ _ _ _ _) (word_ones _ _ _ _) (by unfold maxLen;omega) (by omega) ?_
  intro a3 c3 g3 hown hg hnew
  have hgg:=HIA3.out.grown hg
  have eg3:=cell1 hgg.2.1
  have fg3:=not_frozen hgg.2.1 0
  refine hK.out _ _ (.inr ?_) ?_
  ·exact eg3
  have HO3:=xhd (row_up0 HIA3.out.row)
  have HOWN:=xhd hown
  have HG:=xhd hg
  have HNEW:=xhd hnew
  have HGG:=xhd hgg
  clear hown hg hnew hgg hK K'
  try simp only [xga];try simp only [xgs];try simp only [xgz];try simp only [Act.put];try simp only [xsa];try simp only [xss];try simp only [xsz]
  refine wpAnyE_ready (rs:=[4]) (by kernel_rfl) (by simp) ?_
  refine ReadyE.cons rfl (fun K' hK=>?_) ReadyE.nil
  go_simp
  refine hK.out _ _ (.inr ?_) ?_
  ·exact eg3
  clear hK K'
  try simp only [xga];try simp only [xgs];try simp only [xgz];try simp only [Act.put];try simp only [xsa];try simp only [xss];try simp only [xsz]
  refine wpAnyE_ready (rs:=[5]) (by kernel_rfl) (by simp) ?_
  refine ReadyE.cons rfl (fun K' hK=>?_) ReadyE.nil
  go_simp
  refine hK.out _ _ (.inl rfl) ?_
  clear hK K'
  refine wpAnyE_done (by kernel_rfl) ?_ _
  refine NoPanic.normal ?_
  try simp only [xga];try simp only [xgs];try simp only [xgz];try simp only [Act.put];try simp only [xsa];try simp only [xss];try simp only [xsz]
  have hkd:g3.heap[D]?=some (.deferred (some [])):=by
   have h1:=(HBU3.out.block D (lt_of_block HKD.out)).trans HKD.out
   refine (HG.out.block D (Nat.lt_of_lt_of_le (lt_of_block h1) (by simp)) (fun e=>?_)).trans ((Below.heap_alloc _ _ _ (lt_of_block h1)).trans h1)
   obtain⟨cur,hc⟩:=ownsRow_type HO3.out D (by simp [←e])
   rw [Below.heap_alloc _ _ _ (lt_of_block h1),h1] at hc
   cases hc
  have HKD3:=xhd hkd
  clear hkd e3 ea3 eg3 eu3 fg3 hS0 HY3 HIU3
  go_wp2
  refine⟨by simp, .inl ⟨_,_,rfl,run_takeDeferred HKD3.out,?_⟩⟩
  have hW:W=ws3++[(3,[125],0,0)]:=by
   rw [←HW.out,words_head, ←HWS3.out, ←HWR1.out, ←HWS0.out]
   simp [headR]
  have hrow:WRow w.heap.size g3 (.slice a3 (ws3.length+1) c3) (ws3++[(3,[125],0,0)]):=by
   unfold WRow
   rw [List.length_append,wdsC_snoc]
   refine row_up HOWN.out (fun g hx=>?_)
   rcases HNEW.out g hx with h1|h1
   ·exact (HI3.out.row.lt g (by simpa using h1)).1
   ·exact Nat.le_trans HIA3.out.t.size h1
  have hoff:∀k,(Value.slice a3 (ws3.length+1) c3).ownBlock=some k→k≠D:=by
   rintro k hk rfl
   obtain⟨cur,hc⟩:=ownsRow_type hrow k (by simp [hk])
   rw [HKD3.out] at hc
   cases hc
  refine⟨.tuple #[.slice a3 (ws3.length+1) c3, .int .i64 0],?res,_,rfl,?_,?_⟩
  case res=>first|(go_simp;done) |(simp [results,go_sem];done) |kernel_rfl|trace_state
  ·rw [hW]
   exact ownsRow_same hrow (fun k hk _=>World.putObj_heap_other (hoff k (by simpa using hk)))
  ·exact (HGG.out.2.2.put (by omega) _).below (by simp) (Nat.le_refl _)
theorem pwords_no (f:Bool) (ao:Option Addr) (b off cap:Nat) (L:List Opn) (w:World) (h:OArg w ao b off L) (hq:mayR (f,L)=false):
  Calls Tryz.prog 45 #[prgV f ao L.length cap] w (WordsQ f L w):=by
 unfold WordsQ
 rw [hq]
 simp only [Bool.false_eq_true,if_false]
 have hb0:Below w.heap.size w (w.alloc (.cells #[.bool f, .slice ao L.length cap] 49)):=(Below.refl _ w).alloc (Nat.le_refl _) _
 have hm:=pmay_any f ao b off cap L (w.alloc (.cells #[.bool f, .slice ao L.length cap] 49)) (h.below hb0)
 rw [hq] at hm
 have HMAY:=xhd hm
 obtain⟨n,hn⟩:∃n,L.length=n:=⟨_,rfl⟩
 rw [hn] at HMAY ⊢
 clear h hb0 hm hn hq
 go_enter Tryz.func45,Tryz.ntmps45
 go_wp2_with fail
 refine HMAY.out.mono ?_
 rintro e w1 ⟨rfl,hb1⟩
 have HB:=xhd (box_kept hb1).2
 clear hb1
 go_wp2
 refine bodyPost_ret (results_tmp2 rfl _ _ _) rfl ?_
 exact⟨_,rfl,World.ownsRow_nil _ _ _ _,HB.out⟩
theorem pwords_any (f:Bool) (ao:Option Addr) (b off cap:Nat) (L:List Opn) (w:World) (h:OArg w ao b off L):
  Calls Tryz.prog 45 #[prgV f ao L.length cap] w (WordsQ f L w):=by
 cases hq:mayR (f,L) with
 |false=>exact pwords_no f ao b off cap L w h hq
 |true=>
  cases f
  ·exact pwords_f ao b off cap L w h hq
  ·exact pwords_t ao b off cap L w h hq
end Go.Proofs.YtbnhnnccioljhaaGreatDoor
namespace Go.Proofs.YtbnhnnccioljhaaGreatDoor
open Go.RowKit
abbrev bC (l:List By):List Value:=l.map fun b=>Value.int .u8 b.toNat
abbrev BRow (base:Nat) (w:World) (v:Value) (l:List By):Prop:=w.ownsRow base 5 1 v l.length (bC l)
theorem byte_info:(Tryz.prog.info? 5).map (fun i=>(i.zero,i.size,i.bytes))=some (some (.int .u8 0),1,1):=by kernel_rfl
theorem conv_back {base:Nat} {w:World} {v:Value} {l:List By} (h:BRow base w v l):(convert 93 9 v).run Tryz.prog w= .ok (.string ⟨l.toArray⟩) w:=by
 by_cases h0:0 < l.length
 ·obtain⟨g,cap,rfl,_,_⟩:=ownsRow_pos h h0
  refine run_convert_bytes_back w _ _ 5 ⟨g,0,none⟩ cap l Tryz.underlying93 Tryz.underlying5 Tryz.underlying9 fun j hj=>?_
  rw [Addr.add_lit,Nat.zero_add,h.cellAt j (by omega)]
  simp [hj]
 ·have hl:l=[]:=List.eq_nil_of_length_eq_zero (by omega)
  subst hl
  rcases h.2 with⟨rfl,_⟩ |⟨g,cap,cur,rfl,_⟩
  ·exact Lib.run_convert_nil_bytes w _ _ 5 0 Tryz.underlying93 Tryz.underlying5 Tryz.underlying9
  ·exact run_convert_bytes_back w _ _ 5 ⟨g,0,none⟩ cap [] Tryz.underlying93 Tryz.underlying5 Tryz.underlying9 fun j hj=>by simp at hj
def AddPost (base:Nat) (l:List By) (w:World) (e:Ending) (w':World):Prop:=∃v,e= .returned v∧BRow base w' v l∧Below base w w'
theorem add_plain {base:Nat} {w:World} {v:Value} {l:List By} (h:BRow base w v l) (hb:base≤w.heap.size) (t:ByteArray) (hl:l.length+t.size≤1000000) (hc:¬(l≠[]∧t.data.toList≠[59])):
  Calls Tryz.prog 50 #[v, .string t] w (AddPost base (l++t.data.toList) w):=by
 obtain⟨i0,hi0,hz0,hz1,hz2⟩:=info_parts byte_info
 obtain⟨a,cap,rfl,_,_⟩:=ownsRow_shape h
 have HO:Hid (w.ownsRow base 5 1 (.slice a l.length cap) l.length (bC l)):=h
 rw [←Lib.toList_data] at hc
 have HE:Hid (l.length+t.size=(l++t.data.toList).length∧bC l++Lib.strCells t=bC (l++t.data.toList)):=by
  refine⟨by rw [List.length_append, ←Lib.size_eq],?_⟩
  unfold bC
  rw [List.map_append]
  rfl
 have fin:∀v' w2,w2.ownsRow base 5 1 v' (l.length+t.size) (bC l++Lib.strCells t)→w.grownBy w2 (Value.ownBlock (.slice a l.length cap))→AddPost base (l++t.data.toList) w (.returned v') w2:=fun v' w2 h1 h2=>by
  rw [HE.out.1,HE.out.2] at h1
  exact⟨v',rfl,h1,app_below (Below.refl _ _) hb (Nat.le_refl _) HO.out h2⟩
 have FIN:=xhd fin
 obtain⟨L,hL⟩:∃L,l++t.data.toList=L:=⟨_,rfl⟩
 rw [hL] at FIN ⊢
 obtain⟨n,hn⟩:∃n,l.length=n:=⟨_,rfl⟩
 rw [hn] at HO FIN hl ⊢
 have hd:n=0∨(0 < n∧(t.toList == [59])=true):=by
  by_cases h0:l=[]
  ·left
   rw [←hn,h0]
   rfl
  ·right
   refine⟨by rw [←hn];exact List.length_pos_iff.2 h0,?_⟩
   simp [h0] at hc
   simp [hc]
 clear hL hn hc h fin HE
 rcases hd with rfl|⟨h0,h59⟩
 ·go_enter Tryz.func50,Tryz.ntmps50
  go_wp2_with (at_builtin;refine Lib.wpList_append_own_string _ rfl _ _ 93 9 rfl base 5 i0 Tryz.underlying93 Tryz.underlying9 hi0 hz0 hz1 hz2 _ _ _ rfl HO.out t rfl ?c1 ?c2 ?c3 ?_)
  case c1=>unfold maxLen;omega
  case c2=>omega
  case c3=>exact hb
  intro v' w2 h1 h2 _
  have HF:=xhd (FIN.out v' w2 (by rw [Nat.zero_add];exact h1) h2)
  clear h1 h2
  go_wp2
  go_ret
  exact HF.out
 ·go_enter Tryz.func50,Tryz.ntmps50
  go_wp2_with (at_builtin;refine Lib.wpList_append_own_string _ rfl _ _ 93 9 rfl base 5 i0 Tryz.underlying93 Tryz.underlying9 hi0 hz0 hz1 hz2 _ _ _ rfl HO.out t rfl ?d1 ?d2 ?d3 ?_)
  case d1=>unfold maxLen;omega
  case d2=>omega
  case d3=>exact hb
  intro v' w2 h1 h2 _
  have HF:=xhd (FIN.out v' w2 h1 h2)
  clear h1 h2
  go_wp2
  go_ret
  exact HF.out
theorem add_blank {base:Nat} {w:World} {v:Value} {l:List By} (h:BRow base w v l) (hb:base≤w.heap.size) (t:ByteArray) (hl:l.length+t.size≤1000000) (hc:l≠[]∧t.data.toList≠[59]):
  Calls Tryz.prog 50 #[v, .string t] w (AddPost base (l++[32]++t.data.toList) w):=by
 obtain⟨i0,hi0,hz0,hz1,hz2⟩:=info_parts byte_info
 obtain⟨a,cap,rfl,_,_⟩:=ownsRow_shape h
 have HO:Hid (w.ownsRow base 5 1 (.slice a l.length cap) l.length (bC l)):=h
 rw [←Lib.toList_data] at hc
 have h0:0 < l.length:=List.length_pos_iff.2 hc.1
 have h59:(t.toList == [59])=false:=by simpa using hc.2
 have HE:Hid (l.length+1+t.size=(l++[32]++t.data.toList).length∧bC l++[.int .u8 32]++Lib.strCells t=bC (l++[32]++t.data.toList)):=by
  refine⟨by rw [List.length_append,List.length_append, ←Lib.size_eq];rfl,?_⟩
  unfold bC
  rw [List.map_append,List.map_append]
  rfl
 obtain⟨L,hL⟩:∃L,l++[32]++t.data.toList=L:=⟨_,rfl⟩
 rw [hL] at HE ⊢
 obtain⟨n,hn⟩:∃n,l.length=n:=⟨_,rfl⟩
 rw [hn] at HO HE hl h0 ⊢
 clear hL hn hc h
 go_enter Tryz.func50,Tryz.ntmps50
 go_wp2_with (at_builtin;refine wpList_append_own _ rfl _ _ 93 rfl base 5 i0 (.int .u8 0) 1 1 Tryz.underlying93 hi0 hz0 hz1 hz2 rfl (by decide) _ _ _ rfl (HO.out.alloc _) ⟨w.heap.size,0,none⟩ 1 1 [.int .u8 32] rfl rfl ?c1 ?c2 ?c3 ?c4 ?c5 ?_)
 case c1=>
  intro j u hj
  rw [Addr.add_lit]
  match j,hj with
  |0,hj=>
   simp at hj
   subst hj
   exact one_cell w _ _
 case c2=>intro u hu;simp at hu;subst hu;rfl
 case c3=>unfold maxLen;omega
 case c4=>omega
 case c5=>first|omega|(simp;omega) |trace_state
 intro v1 w1 h1 h2 _
 have hb1:=app_below ((Below.refl base w).alloc hb _) hb (Nat.le_refl _) HO.out h2
 have hs1:=hb1.size
 have HO1:=xhd h1
 have HB1:=xhd hb1
 clear h1 h2 hb1
 go_wp2_with (at_builtin;refine Lib.wpList_append_own_string _ rfl _ _ 93 9 rfl base 5 i0 Tryz.underlying93 Tryz.underlying9 hi0 hz0 hz1 hz2 _ _ _ rfl HO1.out t rfl ?d1 ?d2 ?d3 ?_)
 case d1=>unfold maxLen;omega
 case d2=>omega
 case d3=>omega
 intro v2 w2 h1 h2 _
 have HB2:=xhd (app_below HB1.out hb (Nat.le_refl _) HO1.out h2)
 have HO2:Hid (BRow base w2 v2 L):=by
  unfold Hid BRow
  rw [←HE.out.1, ←HE.out.2,List.append_assoc]
  exact h1
 clear h1 h2
 go_wp2
 go_ret
 exact⟨_,rfl,HO2.out,HB2.out⟩
theorem add_any {base:Nat} {w:World} {v:Value} {l:List By} (h:BRow base w v l) (hb:base≤w.heap.size) (t:ByteArray) (hl:l.length+t.size≤1000000):
  Calls Tryz.prog 50 #[v, .string t] w (AddPost base (addR l t.data.toList) w):=by
 unfold addR
 by_cases hc:l≠[]∧t.data.toList≠[59]
 ·rw [if_pos hc]
  exact add_blank h hb t hl hc
 ·rw [if_neg hc]
  exact add_plain h hb t hl hc
end Go.Proofs.YtbnhnnccioljhaaGreatDoor
namespace Go.Proofs.YtbnhnnccioljhaaGreatDoor
def textP (w:Wd):List By×Int:=
 if w.1=1 then if nameB w.2.1&&decide (w.2.2.1=0) then (w.2.1,0) else ([],1)
 else if w.1=2 then if w.2.1 == []&&decide (0≤w.2.2.1)&&decide (w.2.2.1≤999999999) then (digitsR w.2.2.1.toNat,0) else ([],1)
 else if w.1=3 then if markB w.2.1&&decide (w.2.2.1=0) then (w.2.1,0) else ([],1)
 else ([],1)
theorem name_form (n:Nat) (b:Bool):(decide (1≤n+1)&&decide (n+1≤12)&&b)=(decide (n < 12)&&b):=by
 cases b<;>(rw [Bool.eq_iff_iff];simp;try omega)
theorem name_one (c:By) (t:List By):nameB (c::t)=(isLet c&&decide ((t.takeWhile isLet).length=t.length)&&decide (t.length < 12)):=by
 unfold nameB
 rw [List.length_cons,name_form]
 by_cases hl:isLet c=true
 ·have t1:(c::t).takeWhile isLet=c::t.takeWhile isLet:=by rw [List.takeWhile_cons,if_pos hl]
  rw [t1,hl,List.length_cons,Bool.true_and,Bool.and_comm]
  congr 1
  rw [Bool.eq_iff_iff]
  simp
 ·have t1:(c::t).takeWhile isLet=[]:=by rw [List.takeWhile_cons,if_neg hl]
  rw [t1]
  simp only [Bool.not_eq_true] at hl
  rw [hl]
  simp
theorem mark_more (c:By) (t:List By):markB (c::t)=(isMk c&&decide (t=[])):=by
 cases t with
 |nil=>rw [mark_one];simp
 |cons a t=>simp [markB]
theorem text_eq (w:Wd):textP w=textA w:=by
 obtain⟨k,x,n,p⟩:=w
 unfold textP textA textR
 simp only
 by_cases h2:k=2
 ·subst h2
  simp only [show ¬(2:Int)=1 by decide,if_false,if_true]
  by_cases hx:x=[]
  ·subst hx
   by_cases h0:0≤n
   ·by_cases h9:n≤999999999
    ·simp [h0,h9]
    ·simp [h9]
   ·simp [h0]
  ·have:(x == [])=false:=by simpa using hx
   simp [this,hx]
 ·rw [if_neg h2]
  rw [if_neg h2]
  by_cases hn:n=0
  ·subst hn
   simp only [ne_eq,not_true,if_false,decide_true,Bool.and_true]
   cases x with
   |nil=>
    by_cases h1:k=1
    ·simp [h1,name_nil]
    ·by_cases h3:k=3
     ·simp [h3,markB]
     ·simp [h1,h3]
   |cons c t=>
    rw [name_one,mark_more]
    dsimp only
    by_cases hl:isLet c=true
    ·have e:oneR c t 0=((1,c::t.takeWhile isLet,0,((0:Nat):Int)),(t.takeWhile isLet).length,decide ((t.takeWhile isLet).length < 12)):=by unfold oneR;rw [if_pos hl]
     rw [e,hl,let_mark hl]
     by_cases h1:k=1
     ·subst h1
      by_cases hm:(t.takeWhile isLet).length=t.length
      ·by_cases h12:t.length < 12
       ·simp [hm,h12]
       ·simp [hm,h12]
      ·simp [hm]
     ·by_cases h3:k=3
      ·simp [h3]
      ·simp [h1,h3]
    ·simp only [Bool.not_eq_true] at hl
     by_cases hd:isDig c=true
     ·have e:(oneR c t 0).1.1=2:=by unfold oneR;rw [if_neg (by simp [hl]),if_pos hd]
      rw [e,hl,dig_mark hd]
      have h2':¬(2:Int)=k:=fun h=>h2 h.symm
      simp [h2']
     ·simp only [Bool.not_eq_true] at hd
      have e:oneR c t 0=((3,[c],0,((0:Nat):Int)),0,isMk c):=by unfold oneR;rw [if_neg (by simp [hl]),if_neg (by simp [hd])]
      rw [e,hl]
      by_cases h1:k=1
      ·simp [h1]
      ·by_cases h3:k=3
       ·subst h3
        cases isMk c with
        |false=>simp
        |true=>
         cases t with
         |nil=>simp
         |cons a t=>simp
       ·simp [h1,h3]
  ·simp [hn]
end Go.Proofs.YtbnhnnccioljhaaGreatDoor
namespace Go.Proofs.YtbnhnnccioljhaaGreatDoor
open Go.RowKit
def TabOk (w:World):Prop:=Lib.TabIs Tryz.prog w "internal/strconv.uint64pow10" .u64 Lib.pow10Tab
theorem TabOk.below {w w':World} (h:TabOk w) (hb:Below w.heap.size w w'):TabOk w':=Lib.tabBelow_of_tabIs h w' hb
theorem digits_eq (n:Nat):Lib.decDigits n=digitsR n:=by
 by_cases h:n < 10
 ·rw [Lib.decDigits,dif_pos h,digits_small h]
 ·rw [Lib.decDigits,dif_neg h,digits_great h,digits_eq (n / 10)]
termination_by n
decreasing_by omega
theorem itoa_any (n:Nat) (hn:n≤999999999) (w:World) (hT:TabOk w):
  Calls Tryz.prog 103 #[.int .i64 n] w fun e w'=>e= .returned (.string ⟨(digitsR n).toArray⟩)∧Below w.heap.size w w':=by
 have h:=Tryz.strconv_Itoa (n:Int) (by omega) (by omega) w hT
 have e:Lib.itoa (n:Int)=digitsR n:=by
  unfold Lib.itoa
  rw [if_neg (by omega),Int.toNat_natCast,digits_eq]
 rw [e] at h
 exact h.mono fun e w' ⟨he,k,os,hw⟩=>⟨he,by rw [hw];exact grow_below w k os⟩
theorem text_name (tx:ByteArray) (n p:Int) (w:World) (hs:tx.size≤maxLen):
  Calls Tryz.prog 49 #[.agg #[.int .i64 1, .string tx, .int .i64 n, .int .i64 p]] w fun e w'=>e= .returned (if (nameB tx.data.toList&&decide (n=0))=true then .tuple #[.string tx, .int .i64 0] else .tuple #[.string ⟨#[]⟩, .int .i64 1])∧Below w.heap.size w w':=by
 have HI:=xhd (fun W=>isName_any tx W hs)
 have HO:=xhd (own_any tx)
 obtain⟨t,ht⟩:∃t,nameB tx.data.toList=t:=⟨_,rfl⟩
 rw [ht] at HI ⊢
 clear ht hs
 cases t with
 |false=>
  rw [if_neg (by simp)]
  go_enter Tryz.func49,Tryz.ntmps49
  go_wp2_with fail
  with_reducible refine (HI.out _).mono ?_
  rintro e w1 ⟨rfl,rfl⟩
  go_wp2
  go_ret2
  exact⟨rfl,(Below.refl _ _).alloc (Nat.le_refl _) _⟩
 |true=>
  by_cases hn:n=0
  ·subst hn
   rw [if_pos (by simp)]
   go_enter Tryz.func49,Tryz.ntmps49
   go_wp2_with fail
   with_reducible refine (HI.out _).mono ?_
   rintro e w1 ⟨rfl,rfl⟩
   go_wp2_with fail
   with_reducible refine (HO.out _).mono ?_
   rintro e w2 ⟨rfl,hb⟩
   have HB:=xhd hb
   clear hb
   go_wp2
   go_ret2
   exact⟨rfl,((Below.refl _ _).alloc (Nat.le_refl _) _).trans (HB.out.mono (by simp))⟩
  ·rw [if_neg (by simp [hn])]
   have d0:(n == 0)=false:=by simpa using hn
   clear hn
   go_enter Tryz.func49,Tryz.ntmps49
   go_wp2_with fail
   with_reducible refine (HI.out _).mono ?_
   rintro e w1 ⟨rfl,rfl⟩
   go_wp2
   go_ret2
   exact⟨rfl,(Below.refl _ _).alloc (Nat.le_refl _) _⟩
theorem text_mark (tx:ByteArray) (n p:Int) (w:World):
  Calls Tryz.prog 49 #[.agg #[.int .i64 3, .string tx, .int .i64 n, .int .i64 p]] w fun e w'=>e= .returned (if (markB tx.data.toList&&decide (n=0))=true then .tuple #[.string tx, .int .i64 0] else .tuple #[.string ⟨#[]⟩, .int .i64 1])∧Below w.heap.size w w':=by
 have HI:=xhd (fun W=>isMark_any tx W)
 have HO:=xhd (own_any tx)
 obtain⟨t,ht⟩:∃t,markB tx.data.toList=t:=⟨_,rfl⟩
 rw [ht] at HI ⊢
 clear ht
 cases t with
 |false=>
  rw [if_neg (by simp)]
  go_enter Tryz.func49,Tryz.ntmps49
  go_wp2_with fail
  with_reducible refine (HI.out _).mono ?_
  rintro e w1 ⟨rfl,rfl⟩
  go_wp2
  go_ret2
  exact⟨rfl,(Below.refl _ _).alloc (Nat.le_refl _) _⟩
 |true=>
  by_cases hn:n=0
  ·subst hn
   rw [if_pos (by simp)]
   go_enter Tryz.func49,Tryz.ntmps49
   go_wp2_with fail
   with_reducible refine (HI.out _).mono ?_
   rintro e w1 ⟨rfl,rfl⟩
   go_wp2_with fail
   with_reducible refine (HO.out _).mono ?_
   rintro e w2 ⟨rfl,hb⟩
   have HB:=xhd hb
   clear hb
   go_wp2
   go_ret2
   exact⟨rfl,((Below.refl _ _).alloc (Nat.le_refl _) _).trans (HB.out.mono (by simp))⟩
  ·rw [if_neg (by simp [hn])]
   have d0:(n == 0)=false:=by simpa using hn
   clear hn
   go_enter Tryz.func49,Tryz.ntmps49
   go_wp2_with fail
   with_reducible refine (HI.out _).mono ?_
   rintro e w1 ⟨rfl,rfl⟩
   go_wp2
   go_ret2
   exact⟨rfl,(Below.refl _ _).alloc (Nat.le_refl _) _⟩
theorem text_none (k:Int) (tx:ByteArray) (n p:Int) (w:World) (h1:¬k=1) (h2:¬k=2) (h3:¬k=3):
  Calls Tryz.prog 49 #[.agg #[.int .i64 k, .string tx, .int .i64 n, .int .i64 p]] w fun e w'=>e= .returned (.tuple #[.string ⟨#[]⟩, .int .i64 1])∧Below w.heap.size w w':=by
 have d1:(k == 1)=false:=by simpa using h1
 have d2:(k == 2)=false:=by simpa using h2
 have d3:(k == 3)=false:=by simpa using h3
 clear h1 h2 h3
 go_enter Tryz.func49,Tryz.ntmps49
 go_wp2
 go_ret2
 exact⟨rfl,(Below.refl _ _).alloc (Nat.le_refl _) _⟩
theorem text_num (tx:ByteArray) (n p:Int) (w:World) (hT:TabOk w):
  Calls Tryz.prog 49 #[.agg #[.int .i64 2, .string tx, .int .i64 n, .int .i64 p]] w fun e w'=>e= .returned (if (tx.data.toList == []&&decide (0≤n)&&decide (n≤999999999))=true then .tuple #[.string ⟨(digitsR n.toNat).toArray⟩, .int .i64 0] else .tuple #[.string ⟨#[]⟩, .int .i64 1])∧Below w.heap.size w w':=by
 rw [←Lib.toList_data]
 by_cases hx:tx.toList=[]
 ·by_cases h0:0≤n
  ·by_cases h9:n≤999999999
   ·rw [if_pos (by simp [hx,h0,h9])]
    obtain⟨m,rfl⟩:=Int.eq_ofNat_of_zero_le h0
    rw [Int.toNat_natCast]
    have HI:=xhd (fun W=>itoa_any m (by omega) W)
    have HT:=xhd (hT.below (w':=w.alloc (.cells #[.int .i64 2, .string tx, .int .i64 m, .int .i64 p] 95)) ((Below.refl _ _).alloc (Nat.le_refl _) _))
    obtain⟨r,hr⟩:∃r:ByteArray,⟨(digitsR m).toArray⟩=r:=⟨_,rfl⟩
    rw [hr] at HI ⊢
    clear hr hT
    go_enter Tryz.func49,Tryz.ntmps49
    go_wp2_with fail
    with_reducible refine (HI.out _ HT.out).mono ?_
    rintro e w2 ⟨rfl,hb⟩
    have HB:=xhd hb
    clear hb
    go_wp2
    go_ret2
    exact⟨rfl,((Below.refl _ _).alloc (Nat.le_refl _) _).trans (HB.out.mono (by simp))⟩
   ·rw [if_neg (by simp [h9])]
    go_enter Tryz.func49,Tryz.ntmps49
    go_wp2
    go_ret2
    exact⟨rfl,(Below.refl _ _).alloc (Nat.le_refl _) _⟩
  ·rw [if_neg (by simp [h0])]
   go_enter Tryz.func49,Tryz.ntmps49
   go_wp2
   go_ret2
   exact⟨rfl,(Below.refl _ _).alloc (Nat.le_refl _) _⟩
 ·rw [if_neg (by simp [hx])]
  go_enter Tryz.func49,Tryz.ntmps49
  go_wp2
  go_ret2
  exact⟨rfl,(Below.refl _ _).alloc (Nat.le_refl _) _⟩
theorem text_any (k:Int) (tx:ByteArray) (n p:Int) (w:World) (hs:tx.size≤maxLen) (hT:TabOk w):
  Calls Tryz.prog 49 #[.agg #[.int .i64 k, .string tx, .int .i64 n, .int .i64 p]] w fun e w'=>e= .returned (.tuple #[.string ⟨(textA (k,tx.data.toList,n,p)).1.toArray⟩, .int .i64 (textA (k,tx.data.toList,n,p)).2])∧Below w.heap.size w w':=by
 rw [←text_eq]
 unfold textP
 simp only
 by_cases h1:k=1
 ·subst h1
  rw [if_pos rfl]
  have h:=text_name tx n p w hs
  split
  ·next hc=>rw [if_pos hc] at h;rw [Lib.mk_data];exact h
  ·next hc=>rw [if_neg hc] at h;exact h
 ·rw [if_neg h1]
  by_cases h2:k=2
  ·subst h2
   rw [if_pos rfl]
   have h:=text_num tx n p w hT
   split
   ·next hc=>rw [if_pos hc] at h;exact h
   ·next hc=>rw [if_neg hc] at h;exact h
  ·rw [if_neg h2]
   by_cases h3:k=3
   ·subst h3
    rw [if_pos rfl]
    have h:=text_mark tx n p w
    split
    ·next hc=>rw [if_pos hc] at h;rw [Lib.mk_data];exact h
    ·next hc=>rw [if_neg hc] at h;exact h
   ·rw [if_neg h3]
    exact text_none k tx n p w h1 h2 h3
end Go.Proofs.YtbnhnnccioljhaaGreatDoor
