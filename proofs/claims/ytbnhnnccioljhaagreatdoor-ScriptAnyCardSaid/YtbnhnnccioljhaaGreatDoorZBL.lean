/-
  Which setups may be: the program's mayCounts, mayNumbers, May. (Made by gen_spmay.py.)
-/
import Derived.Test.YtbnhnnccioljhaaGreatDoorZBI
import Derived.Test.YtbnhnnccioljhaaGreatDoorZAZ
import Derived.Deep.RegionHeld3
import Derived.Test.YtbnhnnccioljhaaGreatDoorZAl
set_option maxRecDepth 100000
set_option maxHeartbeats 25600000
namespace Go.Proofs.YtbnhnnccioljhaaGreatDoor
open Go.RowKit
theorem part_field (lo hi:Int) (v:Value) (w:World):(Instr.field 172 (.agg #[.int .i64 lo, .int .i64 hi,v]) 0).run Tryz.prog w= .ok (.agg #[.int .i64 lo, .int .i64 hi]) w:=by kernel_rfl
theorem counts_any (c g:Int) (ag:Option Addr) (ng cg:Nat) (al:Option Addr) (nl cl:Nat) (ap:Option Addr) (np cp:Nat) (w:World):
  Calls Tryz.prog 60 #[.agg (stC c g ag ng cg al nl cl ap np cp)] w fun e w'=>e= .returned (.bool (inS ng 4&&(decide (nl≤8)&&inS np 8)))∧Below w.heap.size w w':=by
 have HB:=xhd ((Below.refl w.heap.size w).alloc (Nat.le_refl _) (.cells (stC c g ag ng cg al nl cl ap np cp) 26))
 have h0:=heap_alloc_new w (.cells (stC c g ag ng cg al nl cl ap np cp) 26)
 have HSV:=xhd (fun V (hV:Below (w.alloc (.cells (stC c g ag ng cg al nl cl ap np cp) 26)).heap.size (w.alloc (.cells (stC c g ag ng cg al nl cl ap np cp) 26)) V)=>(by
  obtain⟨_,_,x2,x3,x4⟩:=st_cells ((hV.block _ (lt_of_block h0)).trans h0)
  exact⟨x2,x3,x4⟩:V.cell? ⟨w.heap.size,2,none⟩=some (.slice ag ng cg)∧V.cell? ⟨w.heap.size,3,none⟩=some (.slice al nl cl)∧V.cell? ⟨w.heap.size,4,none⟩=some (.slice ap np cp)))
 have hg:=fun W=>has_any 1 4 ng W
 have hl:=fun W=>has_any 0 8 nl W
 have hp:=fun W=>has_any 1 8 np W
 have e1:(decide ((1:Int)≤(ng:Int))&&decide ((ng:Int)≤4))=inS ng 4:=rfl
 have e2:(decide ((0:Int)≤(nl:Int))&&decide ((nl:Int)≤8))=decide (nl≤8):=by
  rw [Bool.eq_iff_iff]
  simp
  omega
 have e3:(decide ((1:Int)≤(np:Int))&&decide ((np:Int)≤8))=inS np 8:=rfl
 simp only [e1] at hg
 simp only [e2] at hl
 simp only [e3] at hp
 obtain⟨q1,h1⟩:∃q,inS ng 4=q:=⟨_,rfl⟩
 obtain⟨q2,h2⟩:∃q,decide (nl≤8)=q:=⟨_,rfl⟩
 obtain⟨q3,h3⟩:∃q,inS np 8=q:=⟨_,rfl⟩
 rw [h1,h2,h3]
 simp only [h1] at hg
 simp only [h2] at hl
 simp only [h3] at hp
 have HG:=xhd hg
 have HL:=xhd hl
 have HP:=xhd hp
 clear hg hl hp h0 e1 e2 e3 h1 h2 h3
 cases q1 with
 |false=>
  go_enter Tryz.func60,Tryz.ntmps60
  go_wp2_with fail
  have HV0:=xhd ((Below.refl (w.alloc (.cells (stC c g ag ng cg al nl cl ap np cp) 26)).heap.size (w.alloc (.cells (stC c g ag ng cg al nl cl ap np cp) 26))).drew)
  have p0:=HSV.out _ HV0.out
  refine wp_region_noPanic ?_
  refine wp_region_held_drew (S:=fun V=>V.cell? ⟨w.heap.size,2,none⟩=some (.slice ag ng cg)∧V.cell? ⟨w.heap.size,3,none⟩=some (.slice al nl cl)∧V.cell? ⟨w.heap.size,4,none⟩=some (.slice ap np cp)) (by kernel_rfl) p0 (fun hHeld=>?_)
  refine wpAnyH_take (i:=2) (v:=?_) rfl (by kernel_rfl) (by kernel_rfl) (by kernel_rfl) (fun _ _ _ h=>h) (Or.inl ⟨by rfl,?hy⟩) (by assumption) ?_
  case hy=>
   intro w hSw
   (try dsimp only at hSw)
   obtain⟨s0,s1,s2⟩:=hSw
   go_simp
   try with_reducible rfl
  try simp only [xga];try simp only [xgs];try simp only [xgz];try simp only [Act.put];try simp only [xsa];try simp only [xss];try simp only [xsz]
  refine wpAnyH_take (i:=3) (v:=?_) rfl (by kernel_rfl) (by kernel_rfl) (by kernel_rfl) (fun _ _ _ h=>h) (Or.inl ⟨by rfl,?hy⟩) (by assumption) ?_
  case hy=>
   intro w hSw
   (try dsimp only at hSw)
   obtain⟨s0,s1,s2⟩:=hSw
   go_simp
   try with_reducible rfl
  try simp only [xga];try simp only [xgs];try simp only [xgz];try simp only [Act.put];try simp only [xsa];try simp only [xss];try simp only [xsz]
  refine wpAnyH_take (i:=4) (v:=?_) rfl (by kernel_rfl) (by kernel_rfl) (by kernel_rfl) (fun _ _ _ h=>h) (Or.inl ⟨by rfl,?hy⟩) (by assumption) ?_
  case hy=>
   intro w hSw
   (try dsimp only at hSw)
   obtain⟨s0,s1,s2⟩:=hSw
   go_simp
   try with_reducible rfl
  try simp only [xga];try simp only [xgs];try simp only [xgz];try simp only [Act.put];try simp only [xsa];try simp only [xss];try simp only [xsz]
  refine wpAnyH_ready (rs:=[0]) (by kernel_rfl) (by simp) ?_
  refine AllReadyH.cons rfl (fun K' hK=>?_) AllReadyH.nil
  go_simp
  refine (grouppart_any _).mono ?_
  rintro r V1 ⟨pb0,pc0,rfl, -, -,hb⟩
  have HV1:=xhd (HV0.out.trans (hb.mono HV0.out.size))
  have p1:=HSV.out _ HV1.out
  have hpf0:=fun W=>part_field 1 4 (.slice (some ⟨pb0,0,none⟩) 1 pc0) W
  (try simp only [List.length_cons])
  (try simp only [List.length_nil])
  (try simp only [Nat.zero_add])
  (try simp only [Nat.reduceAdd])
  clear hb
  refine hK.out _ _ ?_ (fun hHeld=>?_)
  ·exact p1
  clear hK K'
  refine wpAnyH_take (i:=1) (v:=?_) rfl (by kernel_rfl) (by kernel_rfl) (by kernel_rfl) (fun _ _ _ h=>h) (Or.inl ⟨by rfl,?hy⟩) (by assumption) ?_
  case hy=>
   intro w hSw
   (try dsimp only at hSw)
   obtain⟨s0,s1,s2⟩:=hSw
   go_simp
   try with_reducible rfl
  try simp only [xga];try simp only [xgs];try simp only [xgz];try simp only [Act.put];try simp only [xsa];try simp only [xss];try simp only [xsz]
  refine wpAnyH_ready (rs:=[5]) (by kernel_rfl) (by simp) ?_
  refine AllReadyH.cons rfl (fun K' hK=>?_) AllReadyH.nil
  go_simp
  with_reducible refine (HG.out _).mono ?_
  rintro r V2 ⟨rfl,hb⟩
  have HV2:=xhd (HV1.out.trans (hb.mono HV1.out.size))
  have p2:=HSV.out _ HV2.out
  clear hb
  refine hK.out _ _ ?_ (fun hHeld=>?_)
  ·exact p2
  clear hK K'
  refine wpAnyH_take (i:=6) (v:=?_) rfl (by kernel_rfl) (by kernel_rfl) (by kernel_rfl) (fun _ _ _ h=>h) (Or.inl ⟨by rfl,?hy⟩) (by assumption) ?_
  case hy=>
   intro w hSw
   (try dsimp only at hSw)
   obtain⟨s0,s1,s2⟩:=hSw
   go_simp
   try with_reducible rfl
  try simp only [xga];try simp only [xgs];try simp only [xgz];try simp only [Act.put];try simp only [xsa];try simp only [xss];try simp only [xsz]
  refine wpAnyH_take (i:=7) (v:=undef) rfl (by kernel_rfl) (by kernel_rfl) (by kernel_rfl) (fun _ _ _ h=>h) (Or.inr ⟨by rfl,rfl⟩) (by assumption) ?_
  try simp only [xga];try simp only [xgs];try simp only [xgz];try simp only [Act.put];try simp only [xsa];try simp only [xss];try simp only [xsz]
  refine wpAnyH_take (i:=8) (v:=undef) rfl (by kernel_rfl) (by kernel_rfl) (by kernel_rfl) (fun _ _ _ h=>h) (Or.inr ⟨by rfl,rfl⟩) (by assumption) ?_
  try simp only [xga];try simp only [xgs];try simp only [xgz];try simp only [Act.put];try simp only [xsa];try simp only [xss];try simp only [xsz]
  refine wpAnyH_take (i:=9) (v:=undef) rfl (by kernel_rfl) (by kernel_rfl) (by kernel_rfl) (fun _ _ _ h=>h) (Or.inr ⟨by rfl,rfl⟩) (by assumption) ?_
  try simp only [xga];try simp only [xgs];try simp only [xgz];try simp only [Act.put];try simp only [xsa];try simp only [xss];try simp only [xsz]
  refine wpAnyH_take (i:=10) (v:=undef) rfl (by kernel_rfl) (by kernel_rfl) (by kernel_rfl) (fun _ _ _ h=>h) (Or.inr ⟨by rfl,rfl⟩) (by assumption) ?_
  try simp only [xga];try simp only [xgs];try simp only [xgz];try simp only [Act.put];try simp only [xsa];try simp only [xss];try simp only [xsz]
  refine wpAnyH_take (i:=11) (v:=undef) rfl (by kernel_rfl) (by kernel_rfl) (by kernel_rfl) (fun _ _ _ h=>h) (Or.inr ⟨by rfl,rfl⟩) (by assumption) ?_
  try simp only [xga];try simp only [xgs];try simp only [xgz];try simp only [Act.put];try simp only [xsa];try simp only [xss];try simp only [xsz]
  refine wpAnyH_take (i:=12) (v:=undef) rfl (by kernel_rfl) (by kernel_rfl) (by kernel_rfl) (fun _ _ _ h=>h) (Or.inr ⟨by rfl,rfl⟩) (by assumption) ?_
  try simp only [xga];try simp only [xgs];try simp only [xgz];try simp only [Act.put];try simp only [xsa];try simp only [xss];try simp only [xsz]
  refine wpAnyH_take (i:=13) (v:=?_) rfl (by kernel_rfl) (by kernel_rfl) (by kernel_rfl) (fun _ _ _ h=>h) (Or.inl ⟨by rfl,?hy⟩) (by assumption) ?_
  case hy=>
   intro w hSw
   (try dsimp only at hSw)
   obtain⟨s0,s1,s2⟩:=hSw
   go_simp
   try with_reducible rfl
  try simp only [xga];try simp only [xgs];try simp only [xgz];try simp only [Act.put];try simp only [xsa];try simp only [xss];try simp only [xsz]
  refine wpAnyH_take (i:=14) (v:=?_) rfl (by kernel_rfl) (by kernel_rfl) (by kernel_rfl) (fun _ _ _ h=>h) (Or.inl ⟨by rfl,?hy⟩) (by assumption) ?_
  case hy=>
   intro w hSw
   (try dsimp only at hSw)
   obtain⟨s0,s1,s2⟩:=hSw
   go_simp
   try with_reducible rfl
  try simp only [xga];try simp only [xgs];try simp only [xgz];try simp only [Act.put];try simp only [xsa];try simp only [xss];try simp only [xsz]
  refine wpAnyH_take (i:=15) (v:=undef) rfl (by kernel_rfl) (by kernel_rfl) (by kernel_rfl) (fun _ _ _ h=>h) (Or.inr ⟨by rfl,rfl⟩) (by assumption) ?_
  try simp only [xga];try simp only [xgs];try simp only [xgz];try simp only [Act.put];try simp only [xsa];try simp only [xss];try simp only [xsz]
  refine wpAnyH_take (i:=16) (v:=undef) rfl (by kernel_rfl) (by kernel_rfl) (by kernel_rfl) (fun _ _ _ h=>h) (Or.inr ⟨by rfl,rfl⟩) (by assumption) ?_
  try simp only [xga];try simp only [xgs];try simp only [xgz];try simp only [Act.put];try simp only [xsa];try simp only [xss];try simp only [xsz]
  refine wpAnyH_take (i:=17) (v:=undef) rfl (by kernel_rfl) (by kernel_rfl) (by kernel_rfl) (fun _ _ _ h=>h) (Or.inr ⟨by rfl,rfl⟩) (by assumption) ?_
  try simp only [xga];try simp only [xgs];try simp only [xgz];try simp only [Act.put];try simp only [xsa];try simp only [xss];try simp only [xsz]
  refine wpAnyH_take (i:=18) (v:=undef) rfl (by kernel_rfl) (by kernel_rfl) (by kernel_rfl) (fun _ _ _ h=>h) (Or.inr ⟨by rfl,rfl⟩) (by assumption) ?_
  try simp only [xga];try simp only [xgs];try simp only [xgz];try simp only [Act.put];try simp only [xsa];try simp only [xss];try simp only [xsz]
  refine wpAnyH_take (i:=19) (v:=undef) rfl (by kernel_rfl) (by kernel_rfl) (by kernel_rfl) (fun _ _ _ h=>h) (Or.inr ⟨by rfl,rfl⟩) (by assumption) ?_
  try simp only [xga];try simp only [xgs];try simp only [xgz];try simp only [Act.put];try simp only [xsa];try simp only [xss];try simp only [xsz]
  refine wpAnyH_take (i:=20) (v:=undef) rfl (by kernel_rfl) (by kernel_rfl) (by kernel_rfl) (fun _ _ _ h=>h) (Or.inr ⟨by rfl,rfl⟩) (by assumption) ?_
  try simp only [xga];try simp only [xgs];try simp only [xgz];try simp only [Act.put];try simp only [xsa];try simp only [xss];try simp only [xsz]
  refine wpAnyH_take (i:=21) (v:=?_) rfl (by kernel_rfl) (by kernel_rfl) (by kernel_rfl) (fun _ _ _ h=>h) (Or.inl ⟨by rfl,?hy⟩) (by assumption) ?_
  case hy=>
   intro w hSw
   (try dsimp only at hSw)
   obtain⟨s0,s1,s2⟩:=hSw
   go_simp
   try with_reducible rfl
  try simp only [xga];try simp only [xgs];try simp only [xgz];try simp only [Act.put];try simp only [xsa];try simp only [xss];try simp only [xsz]
  refine wpAnyH_take (i:=22) (v:=?_) rfl (by kernel_rfl) (by kernel_rfl) (by kernel_rfl) (fun _ _ _ h=>h) (Or.inl ⟨by rfl,?hy⟩) (by assumption) ?_
  case hy=>
   intro w hSw
   (try dsimp only at hSw)
   obtain⟨s0,s1,s2⟩:=hSw
   go_simp
   try with_reducible rfl
  try simp only [xga];try simp only [xgs];try simp only [xgz];try simp only [Act.put];try simp only [xsa];try simp only [xss];try simp only [xsz]
  refine wpAnyH_done (by kernel_rfl) ?_ _
  refine NoPanic.normal ?_
  try simp only [xga];try simp only [xgs];try simp only [xgz];try simp only [Act.put];try simp only [xsa];try simp only [xss];try simp only [xsz]
  go_wp2
  go_ret
  exact⟨rfl,HB.out.trans (HV2.out.mono HB.out.size)⟩
 |true=>
  cases q2 with
  |false=>
   go_enter Tryz.func60,Tryz.ntmps60
   go_wp2_with fail
   have HV0:=xhd ((Below.refl (w.alloc (.cells (stC c g ag ng cg al nl cl ap np cp) 26)).heap.size (w.alloc (.cells (stC c g ag ng cg al nl cl ap np cp) 26))).drew)
   have p0:=HSV.out _ HV0.out
   refine wp_region_noPanic ?_
   refine wp_region_held_drew (S:=fun V=>V.cell? ⟨w.heap.size,2,none⟩=some (.slice ag ng cg)∧V.cell? ⟨w.heap.size,3,none⟩=some (.slice al nl cl)∧V.cell? ⟨w.heap.size,4,none⟩=some (.slice ap np cp)) (by kernel_rfl) p0 (fun hHeld=>?_)
   refine wpAnyH_take (i:=2) (v:=?_) rfl (by kernel_rfl) (by kernel_rfl) (by kernel_rfl) (fun _ _ _ h=>h) (Or.inl ⟨by rfl,?hy⟩) (by assumption) ?_
   case hy=>
    intro w hSw
    (try dsimp only at hSw)
    obtain⟨s0,s1,s2⟩:=hSw
    go_simp
    try with_reducible rfl
   try simp only [xga];try simp only [xgs];try simp only [xgz];try simp only [Act.put];try simp only [xsa];try simp only [xss];try simp only [xsz]
   refine wpAnyH_take (i:=3) (v:=?_) rfl (by kernel_rfl) (by kernel_rfl) (by kernel_rfl) (fun _ _ _ h=>h) (Or.inl ⟨by rfl,?hy⟩) (by assumption) ?_
   case hy=>
    intro w hSw
    (try dsimp only at hSw)
    obtain⟨s0,s1,s2⟩:=hSw
    go_simp
    try with_reducible rfl
   try simp only [xga];try simp only [xgs];try simp only [xgz];try simp only [Act.put];try simp only [xsa];try simp only [xss];try simp only [xsz]
   refine wpAnyH_take (i:=4) (v:=?_) rfl (by kernel_rfl) (by kernel_rfl) (by kernel_rfl) (fun _ _ _ h=>h) (Or.inl ⟨by rfl,?hy⟩) (by assumption) ?_
   case hy=>
    intro w hSw
    (try dsimp only at hSw)
    obtain⟨s0,s1,s2⟩:=hSw
    go_simp
    try with_reducible rfl
   try simp only [xga];try simp only [xgs];try simp only [xgz];try simp only [Act.put];try simp only [xsa];try simp only [xss];try simp only [xsz]
   refine wpAnyH_ready (rs:=[0]) (by kernel_rfl) (by simp) ?_
   refine AllReadyH.cons rfl (fun K' hK=>?_) AllReadyH.nil
   go_simp
   refine (grouppart_any _).mono ?_
   rintro r V1 ⟨pb0,pc0,rfl, -, -,hb⟩
   have HV1:=xhd (HV0.out.trans (hb.mono HV0.out.size))
   have p1:=HSV.out _ HV1.out
   have hpf0:=fun W=>part_field 1 4 (.slice (some ⟨pb0,0,none⟩) 1 pc0) W
   (try simp only [List.length_cons])
   (try simp only [List.length_nil])
   (try simp only [Nat.zero_add])
   (try simp only [Nat.reduceAdd])
   clear hb
   refine hK.out _ _ ?_ (fun hHeld=>?_)
   ·exact p1
   clear hK K'
   refine wpAnyH_take (i:=1) (v:=?_) rfl (by kernel_rfl) (by kernel_rfl) (by kernel_rfl) (fun _ _ _ h=>h) (Or.inl ⟨by rfl,?hy⟩) (by assumption) ?_
   case hy=>
    intro w hSw
    (try dsimp only at hSw)
    obtain⟨s0,s1,s2⟩:=hSw
    go_simp
    try with_reducible rfl
   try simp only [xga];try simp only [xgs];try simp only [xgz];try simp only [Act.put];try simp only [xsa];try simp only [xss];try simp only [xsz]
   refine wpAnyH_ready (rs:=[5]) (by kernel_rfl) (by simp) ?_
   refine AllReadyH.cons rfl (fun K' hK=>?_) AllReadyH.nil
   go_simp
   with_reducible refine (HG.out _).mono ?_
   rintro r V2 ⟨rfl,hb⟩
   have HV2:=xhd (HV1.out.trans (hb.mono HV1.out.size))
   have p2:=HSV.out _ HV2.out
   clear hb
   refine hK.out _ _ ?_ (fun hHeld=>?_)
   ·exact p2
   clear hK K'
   refine wpAnyH_take (i:=6) (v:=?_) rfl (by kernel_rfl) (by kernel_rfl) (by kernel_rfl) (fun _ _ _ h=>h) (Or.inl ⟨by rfl,?hy⟩) (by assumption) ?_
   case hy=>
    intro w hSw
    (try dsimp only at hSw)
    obtain⟨s0,s1,s2⟩:=hSw
    go_simp
    try with_reducible rfl
   try simp only [xga];try simp only [xgs];try simp only [xgz];try simp only [Act.put];try simp only [xsa];try simp only [xss];try simp only [xsz]
   refine wpAnyH_take (i:=9) (v:=?_) rfl (by kernel_rfl) (by kernel_rfl) (by kernel_rfl) (fun _ _ _ h=>h) (Or.inl ⟨by rfl,?hy⟩) (by assumption) ?_
   case hy=>
    intro w hSw
    (try dsimp only at hSw)
    obtain⟨s0,s1,s2⟩:=hSw
    go_simp
    try with_reducible rfl
   try simp only [xga];try simp only [xgs];try simp only [xgz];try simp only [Act.put];try simp only [xsa];try simp only [xss];try simp only [xsz]
   refine wpAnyH_take (i:=10) (v:=?_) rfl (by kernel_rfl) (by kernel_rfl) (by kernel_rfl) (fun _ _ _ h=>h) (Or.inl ⟨by rfl,?hy⟩) (by assumption) ?_
   case hy=>
    intro w hSw
    (try dsimp only at hSw)
    obtain⟨s0,s1,s2⟩:=hSw
    go_simp
    try with_reducible rfl
   try simp only [xga];try simp only [xgs];try simp only [xgz];try simp only [Act.put];try simp only [xsa];try simp only [xss];try simp only [xsz]
   refine wpAnyH_take (i:=11) (v:=?_) rfl (by kernel_rfl) (by kernel_rfl) (by kernel_rfl) (fun _ _ _ h=>h) (Or.inl ⟨by rfl,?hy⟩) (by assumption) ?_
   case hy=>
    intro w hSw
    (try dsimp only at hSw)
    obtain⟨s0,s1,s2⟩:=hSw
    go_simp
    try with_reducible rfl
   try simp only [xga];try simp only [xgs];try simp only [xgz];try simp only [Act.put];try simp only [xsa];try simp only [xss];try simp only [xsz]
   refine wpAnyH_ready (rs:=[7]) (by kernel_rfl) (by simp) ?_
   refine AllReadyH.cons rfl (fun K' hK=>?_) AllReadyH.nil
   go_simp
   refine (lockpart_any _).mono ?_
   rintro r V3 ⟨pb2,pc2,rfl, -, -,hb⟩
   have HV3:=xhd (HV2.out.trans (hb.mono HV2.out.size))
   have p3:=HSV.out _ HV3.out
   have hpf2:=fun W=>part_field 0 8 (.slice (some ⟨pb2,0,none⟩) 2 pc2) W
   (try simp only [List.length_cons])
   (try simp only [List.length_nil])
   (try simp only [Nat.zero_add])
   (try simp only [Nat.reduceAdd])
   clear hb
   refine hK.out _ _ ?_ (fun hHeld=>?_)
   ·exact p3
   clear hK K'
   refine wpAnyH_take (i:=8) (v:=?_) rfl (by kernel_rfl) (by kernel_rfl) (by kernel_rfl) (fun _ _ _ h=>h) (Or.inl ⟨by rfl,?hy⟩) (by assumption) ?_
   case hy=>
    intro w hSw
    (try dsimp only at hSw)
    obtain⟨s0,s1,s2⟩:=hSw
    go_simp
    try with_reducible rfl
   try simp only [xga];try simp only [xgs];try simp only [xgz];try simp only [Act.put];try simp only [xsa];try simp only [xss];try simp only [xsz]
   refine wpAnyH_ready (rs:=[12]) (by kernel_rfl) (by simp) ?_
   refine AllReadyH.cons rfl (fun K' hK=>?_) AllReadyH.nil
   go_simp
   with_reducible refine (HL.out _).mono ?_
   rintro r V4 ⟨rfl,hb⟩
   have HV4:=xhd (HV3.out.trans (hb.mono HV3.out.size))
   have p4:=HSV.out _ HV4.out
   clear hb
   refine hK.out _ _ ?_ (fun hHeld=>?_)
   ·exact p4
   clear hK K'
   refine wpAnyH_take (i:=13) (v:=?_) rfl (by kernel_rfl) (by kernel_rfl) (by kernel_rfl) (fun _ _ _ h=>h) (Or.inl ⟨by rfl,?hy⟩) (by assumption) ?_
   case hy=>
    intro w hSw
    (try dsimp only at hSw)
    obtain⟨s0,s1,s2⟩:=hSw
    go_simp
    try with_reducible rfl
   try simp only [xga];try simp only [xgs];try simp only [xgz];try simp only [Act.put];try simp only [xsa];try simp only [xss];try simp only [xsz]
   refine wpAnyH_take (i:=14) (v:=?_) rfl (by kernel_rfl) (by kernel_rfl) (by kernel_rfl) (fun _ _ _ h=>h) (Or.inl ⟨by rfl,?hy⟩) (by assumption) ?_
   case hy=>
    intro w hSw
    (try dsimp only at hSw)
    obtain⟨s0,s1,s2⟩:=hSw
    go_simp
    try with_reducible rfl
   try simp only [xga];try simp only [xgs];try simp only [xgz];try simp only [Act.put];try simp only [xsa];try simp only [xss];try simp only [xsz]
   refine wpAnyH_take (i:=15) (v:=undef) rfl (by kernel_rfl) (by kernel_rfl) (by kernel_rfl) (fun _ _ _ h=>h) (Or.inr ⟨by rfl,rfl⟩) (by assumption) ?_
   try simp only [xga];try simp only [xgs];try simp only [xgz];try simp only [Act.put];try simp only [xsa];try simp only [xss];try simp only [xsz]
   refine wpAnyH_take (i:=16) (v:=undef) rfl (by kernel_rfl) (by kernel_rfl) (by kernel_rfl) (fun _ _ _ h=>h) (Or.inr ⟨by rfl,rfl⟩) (by assumption) ?_
   try simp only [xga];try simp only [xgs];try simp only [xgz];try simp only [Act.put];try simp only [xsa];try simp only [xss];try simp only [xsz]
   refine wpAnyH_take (i:=17) (v:=undef) rfl (by kernel_rfl) (by kernel_rfl) (by kernel_rfl) (fun _ _ _ h=>h) (Or.inr ⟨by rfl,rfl⟩) (by assumption) ?_
   try simp only [xga];try simp only [xgs];try simp only [xgz];try simp only [Act.put];try simp only [xsa];try simp only [xss];try simp only [xsz]
   refine wpAnyH_take (i:=18) (v:=undef) rfl (by kernel_rfl) (by kernel_rfl) (by kernel_rfl) (fun _ _ _ h=>h) (Or.inr ⟨by rfl,rfl⟩) (by assumption) ?_
   try simp only [xga];try simp only [xgs];try simp only [xgz];try simp only [Act.put];try simp only [xsa];try simp only [xss];try simp only [xsz]
   refine wpAnyH_take (i:=19) (v:=undef) rfl (by kernel_rfl) (by kernel_rfl) (by kernel_rfl) (fun _ _ _ h=>h) (Or.inr ⟨by rfl,rfl⟩) (by assumption) ?_
   try simp only [xga];try simp only [xgs];try simp only [xgz];try simp only [Act.put];try simp only [xsa];try simp only [xss];try simp only [xsz]
   refine wpAnyH_take (i:=20) (v:=undef) rfl (by kernel_rfl) (by kernel_rfl) (by kernel_rfl) (fun _ _ _ h=>h) (Or.inr ⟨by rfl,rfl⟩) (by assumption) ?_
   try simp only [xga];try simp only [xgs];try simp only [xgz];try simp only [Act.put];try simp only [xsa];try simp only [xss];try simp only [xsz]
   refine wpAnyH_take (i:=21) (v:=?_) rfl (by kernel_rfl) (by kernel_rfl) (by kernel_rfl) (fun _ _ _ h=>h) (Or.inl ⟨by rfl,?hy⟩) (by assumption) ?_
   case hy=>
    intro w hSw
    (try dsimp only at hSw)
    obtain⟨s0,s1,s2⟩:=hSw
    go_simp
    try with_reducible rfl
   try simp only [xga];try simp only [xgs];try simp only [xgz];try simp only [Act.put];try simp only [xsa];try simp only [xss];try simp only [xsz]
   refine wpAnyH_take (i:=22) (v:=?_) rfl (by kernel_rfl) (by kernel_rfl) (by kernel_rfl) (fun _ _ _ h=>h) (Or.inl ⟨by rfl,?hy⟩) (by assumption) ?_
   case hy=>
    intro w hSw
    (try dsimp only at hSw)
    obtain⟨s0,s1,s2⟩:=hSw
    go_simp
    try with_reducible rfl
   try simp only [xga];try simp only [xgs];try simp only [xgz];try simp only [Act.put];try simp only [xsa];try simp only [xss];try simp only [xsz]
   refine wpAnyH_done (by kernel_rfl) ?_ _
   refine NoPanic.normal ?_
   try simp only [xga];try simp only [xgs];try simp only [xgz];try simp only [Act.put];try simp only [xsa];try simp only [xss];try simp only [xsz]
   go_wp2
   go_ret
   exact⟨rfl,HB.out.trans (HV4.out.mono HB.out.size)⟩
  |true=>
   go_enter Tryz.func60,Tryz.ntmps60
   go_wp2_with fail
   have HV0:=xhd ((Below.refl (w.alloc (.cells (stC c g ag ng cg al nl cl ap np cp) 26)).heap.size (w.alloc (.cells (stC c g ag ng cg al nl cl ap np cp) 26))).drew)
   have p0:=HSV.out _ HV0.out
   refine wp_region_noPanic ?_
   refine wp_region_held_drew (S:=fun V=>V.cell? ⟨w.heap.size,2,none⟩=some (.slice ag ng cg)∧V.cell? ⟨w.heap.size,3,none⟩=some (.slice al nl cl)∧V.cell? ⟨w.heap.size,4,none⟩=some (.slice ap np cp)) (by kernel_rfl) p0 (fun hHeld=>?_)
   refine wpAnyH_take (i:=2) (v:=?_) rfl (by kernel_rfl) (by kernel_rfl) (by kernel_rfl) (fun _ _ _ h=>h) (Or.inl ⟨by rfl,?hy⟩) (by assumption) ?_
   case hy=>
    intro w hSw
    (try dsimp only at hSw)
    obtain⟨s0,s1,s2⟩:=hSw
    go_simp
    try with_reducible rfl
   try simp only [xga];try simp only [xgs];try simp only [xgz];try simp only [Act.put];try simp only [xsa];try simp only [xss];try simp only [xsz]
   refine wpAnyH_take (i:=3) (v:=?_) rfl (by kernel_rfl) (by kernel_rfl) (by kernel_rfl) (fun _ _ _ h=>h) (Or.inl ⟨by rfl,?hy⟩) (by assumption) ?_
   case hy=>
    intro w hSw
    (try dsimp only at hSw)
    obtain⟨s0,s1,s2⟩:=hSw
    go_simp
    try with_reducible rfl
   try simp only [xga];try simp only [xgs];try simp only [xgz];try simp only [Act.put];try simp only [xsa];try simp only [xss];try simp only [xsz]
   refine wpAnyH_take (i:=4) (v:=?_) rfl (by kernel_rfl) (by kernel_rfl) (by kernel_rfl) (fun _ _ _ h=>h) (Or.inl ⟨by rfl,?hy⟩) (by assumption) ?_
   case hy=>
    intro w hSw
    (try dsimp only at hSw)
    obtain⟨s0,s1,s2⟩:=hSw
    go_simp
    try with_reducible rfl
   try simp only [xga];try simp only [xgs];try simp only [xgz];try simp only [Act.put];try simp only [xsa];try simp only [xss];try simp only [xsz]
   refine wpAnyH_ready (rs:=[0]) (by kernel_rfl) (by simp) ?_
   refine AllReadyH.cons rfl (fun K' hK=>?_) AllReadyH.nil
   go_simp
   refine (grouppart_any _).mono ?_
   rintro r V1 ⟨pb0,pc0,rfl, -, -,hb⟩
   have HV1:=xhd (HV0.out.trans (hb.mono HV0.out.size))
   have p1:=HSV.out _ HV1.out
   have hpf0:=fun W=>part_field 1 4 (.slice (some ⟨pb0,0,none⟩) 1 pc0) W
   (try simp only [List.length_cons])
   (try simp only [List.length_nil])
   (try simp only [Nat.zero_add])
   (try simp only [Nat.reduceAdd])
   clear hb
   refine hK.out _ _ ?_ (fun hHeld=>?_)
   ·exact p1
   clear hK K'
   refine wpAnyH_take (i:=1) (v:=?_) rfl (by kernel_rfl) (by kernel_rfl) (by kernel_rfl) (fun _ _ _ h=>h) (Or.inl ⟨by rfl,?hy⟩) (by assumption) ?_
   case hy=>
    intro w hSw
    (try dsimp only at hSw)
    obtain⟨s0,s1,s2⟩:=hSw
    go_simp
    try with_reducible rfl
   try simp only [xga];try simp only [xgs];try simp only [xgz];try simp only [Act.put];try simp only [xsa];try simp only [xss];try simp only [xsz]
   refine wpAnyH_ready (rs:=[5]) (by kernel_rfl) (by simp) ?_
   refine AllReadyH.cons rfl (fun K' hK=>?_) AllReadyH.nil
   go_simp
   with_reducible refine (HG.out _).mono ?_
   rintro r V2 ⟨rfl,hb⟩
   have HV2:=xhd (HV1.out.trans (hb.mono HV1.out.size))
   have p2:=HSV.out _ HV2.out
   clear hb
   refine hK.out _ _ ?_ (fun hHeld=>?_)
   ·exact p2
   clear hK K'
   refine wpAnyH_take (i:=6) (v:=?_) rfl (by kernel_rfl) (by kernel_rfl) (by kernel_rfl) (fun _ _ _ h=>h) (Or.inl ⟨by rfl,?hy⟩) (by assumption) ?_
   case hy=>
    intro w hSw
    (try dsimp only at hSw)
    obtain⟨s0,s1,s2⟩:=hSw
    go_simp
    try with_reducible rfl
   try simp only [xga];try simp only [xgs];try simp only [xgz];try simp only [Act.put];try simp only [xsa];try simp only [xss];try simp only [xsz]
   refine wpAnyH_take (i:=9) (v:=?_) rfl (by kernel_rfl) (by kernel_rfl) (by kernel_rfl) (fun _ _ _ h=>h) (Or.inl ⟨by rfl,?hy⟩) (by assumption) ?_
   case hy=>
    intro w hSw
    (try dsimp only at hSw)
    obtain⟨s0,s1,s2⟩:=hSw
    go_simp
    try with_reducible rfl
   try simp only [xga];try simp only [xgs];try simp only [xgz];try simp only [Act.put];try simp only [xsa];try simp only [xss];try simp only [xsz]
   refine wpAnyH_take (i:=10) (v:=?_) rfl (by kernel_rfl) (by kernel_rfl) (by kernel_rfl) (fun _ _ _ h=>h) (Or.inl ⟨by rfl,?hy⟩) (by assumption) ?_
   case hy=>
    intro w hSw
    (try dsimp only at hSw)
    obtain⟨s0,s1,s2⟩:=hSw
    go_simp
    try with_reducible rfl
   try simp only [xga];try simp only [xgs];try simp only [xgz];try simp only [Act.put];try simp only [xsa];try simp only [xss];try simp only [xsz]
   refine wpAnyH_take (i:=11) (v:=?_) rfl (by kernel_rfl) (by kernel_rfl) (by kernel_rfl) (fun _ _ _ h=>h) (Or.inl ⟨by rfl,?hy⟩) (by assumption) ?_
   case hy=>
    intro w hSw
    (try dsimp only at hSw)
    obtain⟨s0,s1,s2⟩:=hSw
    go_simp
    try with_reducible rfl
   try simp only [xga];try simp only [xgs];try simp only [xgz];try simp only [Act.put];try simp only [xsa];try simp only [xss];try simp only [xsz]
   refine wpAnyH_ready (rs:=[7]) (by kernel_rfl) (by simp) ?_
   refine AllReadyH.cons rfl (fun K' hK=>?_) AllReadyH.nil
   go_simp
   refine (lockpart_any _).mono ?_
   rintro r V3 ⟨pb2,pc2,rfl, -, -,hb⟩
   have HV3:=xhd (HV2.out.trans (hb.mono HV2.out.size))
   have p3:=HSV.out _ HV3.out
   have hpf2:=fun W=>part_field 0 8 (.slice (some ⟨pb2,0,none⟩) 2 pc2) W
   (try simp only [List.length_cons])
   (try simp only [List.length_nil])
   (try simp only [Nat.zero_add])
   (try simp only [Nat.reduceAdd])
   clear hb
   refine hK.out _ _ ?_ (fun hHeld=>?_)
   ·exact p3
   clear hK K'
   refine wpAnyH_take (i:=8) (v:=?_) rfl (by kernel_rfl) (by kernel_rfl) (by kernel_rfl) (fun _ _ _ h=>h) (Or.inl ⟨by rfl,?hy⟩) (by assumption) ?_
   case hy=>
    intro w hSw
    (try dsimp only at hSw)
    obtain⟨s0,s1,s2⟩:=hSw
    go_simp
    try with_reducible rfl
   try simp only [xga];try simp only [xgs];try simp only [xgz];try simp only [Act.put];try simp only [xsa];try simp only [xss];try simp only [xsz]
   refine wpAnyH_ready (rs:=[12]) (by kernel_rfl) (by simp) ?_
   refine AllReadyH.cons rfl (fun K' hK=>?_) AllReadyH.nil
   go_simp
   with_reducible refine (HL.out _).mono ?_
   rintro r V4 ⟨rfl,hb⟩
   have HV4:=xhd (HV3.out.trans (hb.mono HV3.out.size))
   have p4:=HSV.out _ HV4.out
   clear hb
   refine hK.out _ _ ?_ (fun hHeld=>?_)
   ·exact p4
   clear hK K'
   refine wpAnyH_take (i:=13) (v:=?_) rfl (by kernel_rfl) (by kernel_rfl) (by kernel_rfl) (fun _ _ _ h=>h) (Or.inl ⟨by rfl,?hy⟩) (by assumption) ?_
   case hy=>
    intro w hSw
    (try dsimp only at hSw)
    obtain⟨s0,s1,s2⟩:=hSw
    go_simp
    try with_reducible rfl
   try simp only [xga];try simp only [xgs];try simp only [xgz];try simp only [Act.put];try simp only [xsa];try simp only [xss];try simp only [xsz]
   refine wpAnyH_take (i:=14) (v:=?_) rfl (by kernel_rfl) (by kernel_rfl) (by kernel_rfl) (fun _ _ _ h=>h) (Or.inl ⟨by rfl,?hy⟩) (by assumption) ?_
   case hy=>
    intro w hSw
    (try dsimp only at hSw)
    obtain⟨s0,s1,s2⟩:=hSw
    go_simp
    try with_reducible rfl
   try simp only [xga];try simp only [xgs];try simp only [xgz];try simp only [Act.put];try simp only [xsa];try simp only [xss];try simp only [xsz]
   refine wpAnyH_take (i:=17) (v:=?_) rfl (by kernel_rfl) (by kernel_rfl) (by kernel_rfl) (fun _ _ _ h=>h) (Or.inl ⟨by rfl,?hy⟩) (by assumption) ?_
   case hy=>
    intro w hSw
    (try dsimp only at hSw)
    obtain⟨s0,s1,s2⟩:=hSw
    go_simp
    try with_reducible rfl
   try simp only [xga];try simp only [xgs];try simp only [xgz];try simp only [Act.put];try simp only [xsa];try simp only [xss];try simp only [xsz]
   refine wpAnyH_take (i:=18) (v:=?_) rfl (by kernel_rfl) (by kernel_rfl) (by kernel_rfl) (fun _ _ _ h=>h) (Or.inl ⟨by rfl,?hy⟩) (by assumption) ?_
   case hy=>
    intro w hSw
    (try dsimp only at hSw)
    obtain⟨s0,s1,s2⟩:=hSw
    go_simp
    try with_reducible rfl
   try simp only [xga];try simp only [xgs];try simp only [xgz];try simp only [Act.put];try simp only [xsa];try simp only [xss];try simp only [xsz]
   refine wpAnyH_take (i:=19) (v:=?_) rfl (by kernel_rfl) (by kernel_rfl) (by kernel_rfl) (fun _ _ _ h=>h) (Or.inl ⟨by rfl,?hy⟩) (by assumption) ?_
   case hy=>
    intro w hSw
    (try dsimp only at hSw)
    obtain⟨s0,s1,s2⟩:=hSw
    go_simp
    try with_reducible rfl
   try simp only [xga];try simp only [xgs];try simp only [xgz];try simp only [Act.put];try simp only [xsa];try simp only [xss];try simp only [xsz]
   refine wpAnyH_ready (rs:=[15]) (by kernel_rfl) (by simp) ?_
   refine AllReadyH.cons rfl (fun K' hK=>?_) AllReadyH.nil
   go_simp
   refine (progpart_any _).mono ?_
   rintro r V5 ⟨pb4,pc4,rfl, -, -,hb⟩
   have HV5:=xhd (HV4.out.trans (hb.mono HV4.out.size))
   have p5:=HSV.out _ HV5.out
   have hpf4:=fun W=>part_field 1 8 (.slice (some ⟨pb4,0,none⟩) 1 pc4) W
   (try simp only [List.length_cons])
   (try simp only [List.length_nil])
   (try simp only [Nat.zero_add])
   (try simp only [Nat.reduceAdd])
   clear hb
   refine hK.out _ _ ?_ (fun hHeld=>?_)
   ·exact p5
   clear hK K'
   refine wpAnyH_take (i:=16) (v:=?_) rfl (by kernel_rfl) (by kernel_rfl) (by kernel_rfl) (fun _ _ _ h=>h) (Or.inl ⟨by rfl,?hy⟩) (by assumption) ?_
   case hy=>
    intro w hSw
    (try dsimp only at hSw)
    obtain⟨s0,s1,s2⟩:=hSw
    go_simp
    try with_reducible rfl
   try simp only [xga];try simp only [xgs];try simp only [xgz];try simp only [Act.put];try simp only [xsa];try simp only [xss];try simp only [xsz]
   refine wpAnyH_ready (rs:=[20]) (by kernel_rfl) (by simp) ?_
   refine AllReadyH.cons rfl (fun K' hK=>?_) AllReadyH.nil
   go_simp
   with_reducible refine (HP.out _).mono ?_
   rintro r V6 ⟨rfl,hb⟩
   have HV6:=xhd (HV5.out.trans (hb.mono HV5.out.size))
   have p6:=HSV.out _ HV6.out
   clear hb
   refine hK.out _ _ ?_ (fun hHeld=>?_)
   ·exact p6
   clear hK K'
   refine wpAnyH_take (i:=21) (v:=?_) rfl (by kernel_rfl) (by kernel_rfl) (by kernel_rfl) (fun _ _ _ h=>h) (Or.inl ⟨by rfl,?hy⟩) (by assumption) ?_
   case hy=>
    intro w hSw
    (try dsimp only at hSw)
    obtain⟨s0,s1,s2⟩:=hSw
    go_simp
    try with_reducible rfl
   try simp only [xga];try simp only [xgs];try simp only [xgz];try simp only [Act.put];try simp only [xsa];try simp only [xss];try simp only [xsz]
   refine wpAnyH_take (i:=22) (v:=?_) rfl (by kernel_rfl) (by kernel_rfl) (by kernel_rfl) (fun _ _ _ h=>h) (Or.inl ⟨by rfl,?hy⟩) (by assumption) ?_
   case hy=>
    intro w hSw
    (try dsimp only at hSw)
    obtain⟨s0,s1,s2⟩:=hSw
    go_simp
    try with_reducible rfl
   try simp only [xga];try simp only [xgs];try simp only [xgz];try simp only [Act.put];try simp only [xsa];try simp only [xss];try simp only [xsz]
   refine wpAnyH_done (by kernel_rfl) ?_ _
   refine NoPanic.normal ?_
   try simp only [xga];try simp only [xgs];try simp only [xgz];try simp only [Act.put];try simp only [xsa];try simp only [xss];try simp only [xsz]
   go_wp2
   go_ret
   exact⟨rfl,HB.out.trans (HV6.out.mono HB.out.size)⟩
theorem lock_may (x:Lk):(((lockLn x).2.all fun y=>inS y.2.2 y.2.1)&&!untR x)=lkMay x:=by
 obtain⟨sh,a,b,c,d⟩:=x
 cases sh with
 |true=>simp [lockLn,lkN,lkA,valAt,untR,lkMay,Bool.and_assoc]
 |false=>simp [lockLn,lkN,lkA,valAt,untR,lkMay,Bool.and_assoc]
theorem and_any (ls:List Lk):(ls.all (fun x=>(lockLn x).2.all fun y=>inS y.2.2 y.2.1)&&!(ls.any untR))=ls.all lkMay:=by
 induction ls with
 |nil=>rfl
 |cons x ls ih=>
  rw [List.all_cons,List.any_cons,List.all_cons, ←ih, ←lock_may]
  cases (lockLn x).2.all (fun y=>inS y.2.2 y.2.1)<;>cases untR x<;>simp
theorem lines_may (s:Stp):((linesR s).all (fun l=>l.2.all fun y=>inS y.2.2 y.2.1)&&!(s.2.2.2.1.any untR))=(inS s.1 4&&(inS s.2.1 8&&(s.2.2.1.all (inS · 16)&&s.2.2.2.1.all lkMay))):=by
 unfold linesR
 rw [List.all_append,List.all_append,List.all_map,List.all_map,Bool.and_assoc,Bool.and_assoc]
 rw [show ((fun l:Ln=>l.2.all fun y=>inS y.2.2 y.2.1) ∘ lockLn)=fun x=>(lockLn x).2.all fun y=>inS y.2.2 y.2.1 from rfl,and_any]
 simp [groupLn,Bool.and_assoc,Function.comp_def]
theorem numbers_any (s:Stp) (ag:Option Addr) (bg og cg:Nat) (al:Option Addr) (bl ol cl:Nat) (ap:Option Addr) (bp op cp:Nat) (w:World) (h:SArg w s ag bg og al bl ol ap bp op) (z1:s.2.2.1.length≤100) (z2:s.2.2.2.1.length≤100):
  Calls Tryz.prog 61 #[.agg (stC s.1 s.2.1 ag s.2.2.1.length cg al s.2.2.2.1.length cl ap s.2.2.2.2.length cp)] w fun e w'=>e= .returned (.bool ((linesR s).all (fun l=>l.2.all fun y=>inS y.2.2 y.2.1)&&!(s.2.2.2.1.any untR)))∧Below w.heap.size w w':=by
 have HB0:=xhd ((Below.refl w.heap.size w).alloc (Nat.le_refl _) (.cells (stC s.1 s.2.1 ag s.2.2.1.length cg al s.2.2.2.1.length cl ap s.2.2.2.2.length cp) 26))
 have HX0:=xhd (heap_alloc_new w (.cells (stC s.1 s.2.1 ag s.2.2.1.length cg al s.2.2.2.1.length cl ap s.2.2.2.2.length cp) 26))
 have HLN:=xhd (lines_any s ag bg og cg al bl ol cl ap bp op cp _ (h.below HB0.out) z1 z2)
 have HCU:=xhd (fun V (hV:Below w.heap.size w V)=>containsunt_any al bl ol cl s.2.2.2.1 V (h.ls.below hV) (by omega))
 obtain⟨qu,hqu⟩:∃q,s.2.2.2.1.any untR=q:=⟨_,rfl⟩
 have hlen:(linesR s).length≤300:=by simp [linesR];omega
 obtain⟨LN,hLN⟩:∃L,linesR s=L:=⟨_,rfl⟩
 have hsmall:∀l ∈ LN,l.2.length≤100:=by
  rw [←hLN]
  intro l hl
  simp only [linesR,List.mem_append,List.mem_cons,List.not_mem_nil,or_false,List.mem_map] at hl
  rcases hl with ((rfl|rfl) |⟨x,_,rfl⟩) |⟨x,_,rfl⟩
  ·simp
  ·simp
  ·simp [groupLn]
  ·obtain⟨sh,_⟩:=x
   cases sh<;>simp [lockLn,lkN]
 have HSL:=xhd hsmall
 rw [hLN] at HLN hlen ⊢
 rw [hqu] at HCU ⊢
 obtain⟨c,g,gs,ls,ps⟩:=s
 simp only at HB0 HX0 HLN HCU ⊢
 obtain⟨np,hnp⟩:∃n,ps.length=n:=⟨_,rfl⟩
 obtain⟨nl,hnl⟩:∃n,ls.length=n:=⟨_,rfl⟩
 obtain⟨ng,hng⟩:∃n,gs.length=n:=⟨_,rfl⟩
 rw [hnp,hnl,hng] at HB0 HX0 HLN
 rw [hnl] at HCU
 rw [hnp,hnl,hng]
 clear h z1 z2 hqu hLN hsmall hnp hnl hng
 go_enter Tryz.func61,Tryz.ntmps61
 go_wp2_with fail
 refine HLN.out.mono ?_
 rintro r w1 ⟨lb,n,lc,rfl,hn,hla,hb⟩
 have HLA:=xhd hla
 have HN:=xhd hn
 have HB1:=xhd (HB0.out.trans (hb.mono HB0.out.size))
 have HX1:=xhd ((hb.block _ (lt_of_block HX0.out)).trans HX0.out)
 rw [←hn] at hlen
 clear hn hla hb
 go_wp2_with fail
 go_loopw [8] (fun i' wr=>∃i:Nat,i'= .int .i64 i∧i≤n∧Hid (Below w1.heap.size w1 wr)∧Hid (∀j (hj:j < LN.length),j < i→(LN[j].2.all fun y=>inS y.2.2 y.2.1)=true)) (fun i' _=>n - (intOf i').toNat)
 case atStart=>exact⟨0,rfl,Nat.zero_le _,xhd (Below.refl _ _),xhd (fun j _ hj=>absurd hj (Nat.not_lt_zero _))⟩
 case round=>
  obtain⟨i,rfl,hi,HB,HO⟩:=hrel
  by_cases hlt:i < n
  ·have hiL:i < LN.length:=by rw [←HN.out];exact hlt
   have hA:=HLA.out.below HB.out
   obtain⟨nb,nc,y0,y1,hq⟩:=hA.cells i hiL
   have hbl:=hA.lt
   obtain⟨⟨lf,lm⟩,hx⟩:∃x,LN[i]=x:=⟨_,rfl⟩
   have hsm:=HSL.out _ (List.getElem_mem hiL)
   rw [hx] at y0 y1 hq hsm
   simp only at y0 y1 hq hsm
   have HXX:=xhd hx
   have j0:(0:Int)≤i:=by omega
   have j1:(i:Int) < n:=by omega
   have j2:IntKind.i64.wrap ((i:Int)+1)=(i:Int)+1:=by rw [IntKind.wrap_i64];omega
   have HBA:=xhd ((Below.refl wr.heap.size wr).alloc (Nat.le_refl _) (.cells #[.string lf, .slice (some ⟨nb,0,none⟩) lm.length nc] 86))
   have HMY:=xhd (linemay_any lf nb nc lm _ (hq.below HBA.out) hsm)
   obtain⟨m,hm⟩:∃m,lm.length=m:=⟨_,rfl⟩
   rw [hm] at HBA HMY y1
   obtain⟨q,hq2⟩:∃q,(lm.all fun y=>inS y.2.2 y.2.1)=q:=⟨_,rfl⟩
   rw [hq2] at HMY
   have HQ:=xhd hq2
   clear hx hA hq hsm hm hq2
   cases q with
   |true=>
    have HO2:Hid (∀j (hj:j < LN.length),j < i+1→(LN[j].2.all fun y=>inS y.2.2 y.2.1)=true):=xhd (fun j hj hji=>by
     rcases Nat.lt_or_ge j i with h|h
     ·exact HO.out j hj h
     ·obtain rfl:j=i:=by omega
      rw [HXX.out]
      exact HQ.out)
    go_wp2_with fail
    with_reducible refine HMY.out.mono ?_
    rintro r w2 ⟨rfl,hb⟩
    have HB2:=xhd (HB.out.trans ((HBA.out.trans (hb.mono HBA.out.size)).mono HB.out.size))
    clear hb y0 y1
    go_wp2
    go_roundw
    case rel=>exact⟨i+1,by go_num,by omega,HB2,HO2⟩
    case measure=>simp [intOf];omega
   |false=>
    have HE:Hid ((LN.all fun l=>l.2.all fun y=>inS y.2.2 y.2.1)=false):=xhd (by
     rw [List.all_eq_false]
     exact⟨_,List.getElem_mem hiL,by rw [HXX.out,HQ.out];decide⟩)
    go_wp2_with fail
    with_reducible refine HMY.out.mono ?_
    rintro r w2 ⟨rfl,hb⟩
    have HB2:=xhd (HB.out.trans ((HBA.out.trans (hb.mono HBA.out.size)).mono HB.out.size))
    clear hb y0 y1
    go_wp2
    go_ret
    exact⟨by rw [HE.out];rfl,HB1.out.trans (HB2.out.mono HB1.out.size)⟩
  ·have HE:Hid ((LN.all fun l=>l.2.all fun y=>inS y.2.2 y.2.1)=true):=xhd (by
     rw [List.all_eq_true]
     intro l hl
     obtain⟨j,hj,rfl⟩:=List.getElem_of_mem hl
     exact HO.out j hj (by have:=HN.out;omega))
   have HBE:=xhd (HB1.out.trans (HB.out.mono HB1.out.size))
   obtain⟨x0,x1,x2,x3,x4⟩:=st_cells ((HB.out.block _ (lt_of_block HX1.out)).trans HX1.out)
   go_wp2_with fail
   with_reducible refine (HCU.out _ HBE.out).mono ?_
   rintro r w2 ⟨rfl,hb⟩
   have HB2:=xhd (HBE.out.trans (hb.mono HBE.out.size))
   clear hb x0 x1 x2 x3 x4
   go_wp2
   go_ret
   exact⟨by rw [HE.out];rfl,HB2.out⟩
theorem may_is (s:Stp):mayS s=((inS s.2.2.1.length 4&&(decide (s.2.2.2.1.length≤8)&&inS s.2.2.2.2.length 8))&&(((linesR s).all (fun l=>l.2.all fun y=>inS y.2.2 y.2.1)&&!(s.2.2.2.1.any untR))&&decide ((misS s.2.2.2.1 s.2.2.2.2.length s.2.2.2.2 0).2=0))):=by
 obtain⟨c,g,gs,ls,ps⟩:=s
 rw [mayS_eq,lines_may]
 have h:=mis_all ls ps.length ps 0
 have e:decide ((misS ls ps.length ps 0).2=0)=ps.all (fitS ls ps.length):=by
  rw [Bool.eq_iff_iff,decide_eq_true_eq]
  exact h
 simp only
 rw [e,Bool.eq_iff_iff]
 simp only [Bool.and_eq_true]
 constructor
 ·rintro ⟨a,b,c,d,e,f,g,h⟩
  exact⟨⟨c,d,e⟩,⟨a,b,f,g⟩,h⟩
 ·rintro ⟨⟨c,d,e⟩,⟨a,b,f,g⟩,h⟩
  exact⟨a,b,c,d,e,f,g,h⟩
theorem psmay_any (s:Stp) (ag:Option Addr) (bg og cg:Nat) (al:Option Addr) (bl ol cl:Nat) (ap:Option Addr) (bp op cp:Nat) (w:World) (h:SArg w s ag bg og al bl ol ap bp op):
  Calls Tryz.prog 24 #[.agg (stC s.1 s.2.1 ag s.2.2.1.length cg al s.2.2.2.1.length cl ap s.2.2.2.2.length cp)] w fun e w'=>e= .returned (.bool (mayS s))∧Below w.heap.size w w':=by
 rw [may_is]
 have HB0:=xhd ((Below.refl w.heap.size w).alloc (Nat.le_refl _) (.cells (stC s.1 s.2.1 ag s.2.2.1.length cg al s.2.2.2.1.length cl ap s.2.2.2.2.length cp) 26))
 have HX0:=xhd (heap_alloc_new w (.cells (stC s.1 s.2.1 ag s.2.2.1.length cg al s.2.2.2.1.length cl ap s.2.2.2.2.length cp) 26))
 have HCT:=xhd (counts_any s.1 s.2.1 ag s.2.2.1.length cg al s.2.2.2.1.length cl ap s.2.2.2.2.length cp (w.alloc (.cells (stC s.1 s.2.1 ag s.2.2.1.length cg al s.2.2.2.1.length cl ap s.2.2.2.2.length cp) 26)))
 cases q1:(inS s.2.2.1.length 4&&(decide (s.2.2.2.1.length≤8)&&inS s.2.2.2.2.length 8)) with
 |false=>
  rw [q1] at HCT
  rw [Bool.false_and]
  obtain⟨c,g,gs,ls,ps⟩:=s
  simp only at HB0 HX0 HCT ⊢
  obtain⟨np,hnp⟩:∃n,ps.length=n:=⟨_,rfl⟩
  obtain⟨nl,hnl⟩:∃n,ls.length=n:=⟨_,rfl⟩
  obtain⟨ng,hng⟩:∃n,gs.length=n:=⟨_,rfl⟩
  rw [hnp,hnl,hng] at HB0 HX0 HCT
  rw [hnp,hnl,hng]
  clear h q1 hnp hnl hng
  go_enter Tryz.func24,Tryz.ntmps24
  go_wp2_with fail
  with_reducible refine HCT.out.mono ?_
  rintro r w1 ⟨rfl,hb⟩
  have HB1:=xhd (HB0.out.trans (hb.mono HB0.out.size))
  clear hb
  go_wp2
  go_ret
  exact⟨rfl,HB1.out⟩
 |true=>
  rw [q1] at HCT
  rw [Bool.true_and]
  simp only [Bool.and_eq_true,decide_eq_true_eq,inS] at q1
  have HNU:=xhd (fun V (hV:Below w.heap.size w V)=>numbers_any s ag bg og cg al bl ol cl ap bp op cp V (h.below hV) (by omega) (by omega))
  have HMF:=xhd (fun V (hV:Below w.heap.size w V)=>misfit_any s ag bg og cg al bl ol cl ap bp op cp V (h.below hV) (by omega) (by omega))
  obtain⟨q2,h2⟩:∃q,((linesR s).all (fun l=>l.2.all fun y=>inS y.2.2 y.2.1)&&!(s.2.2.2.1.any untR))=q:=⟨_,rfl⟩
  obtain⟨⟨mi,me⟩,h3⟩:∃m,misS s.2.2.2.1 s.2.2.2.2.length s.2.2.2.2 0=m:=⟨_,rfl⟩
  rw [h2] at HNU
  rw [h3] at HMF
  rw [h2,h3]
  clear h q1 h2 h3
  obtain⟨c,g,gs,ls,ps⟩:=s
  simp only at HB0 HX0 HCT HNU HMF ⊢
  obtain⟨np,hnp⟩:∃n,ps.length=n:=⟨_,rfl⟩
  obtain⟨nl,hnl⟩:∃n,ls.length=n:=⟨_,rfl⟩
  obtain⟨ng,hng⟩:∃n,gs.length=n:=⟨_,rfl⟩
  rw [hnp,hnl,hng] at HB0 HX0 HCT HNU HMF
  rw [hnp,hnl,hng]
  clear hnp hnl hng
  have HXV:=xhd (fun V (hV:Below (w.alloc (.cells (stC c g ag ng cg al nl cl ap np cp) 26)).heap.size (w.alloc (.cells (stC c g ag ng cg al nl cl ap np cp) 26)) V)=>st_cells ((hV.block _ (lt_of_block HX0.out)).trans HX0.out))
  cases q2 with
  |false=>
   rw [Bool.false_and]
   go_enter Tryz.func24,Tryz.ntmps24
   go_wp2_with fail
   with_reducible refine HCT.out.mono ?_
   rintro r w1 ⟨rfl,hb⟩
   have HB1:=xhd (HB0.out.trans (hb.mono HB0.out.size))
   obtain⟨x0,x1,x2,x3,x4⟩:=HXV.out _ hb
   clear hb
   go_wp2_with fail
   with_reducible refine (HNU.out _ HB1.out).mono ?_
   rintro r w2 ⟨rfl,hb⟩
   have HB2:=xhd (HB1.out.trans (hb.mono HB1.out.size))
   clear hb x0 x1 x2 x3 x4
   go_wp2
   go_ret
   exact⟨rfl,HB2.out⟩
  |true=>
   rw [Bool.true_and]
   obtain⟨qm,hqm⟩:∃q,decide (me=0)=q:=⟨_,rfl⟩
   have hq2:(me == 0)=qm:=by
    rw [←hqm,Bool.eq_iff_iff]
    simp
   rw [hqm]
   clear hqm
   go_enter Tryz.func24,Tryz.ntmps24
   go_wp2_with fail
   with_reducible refine HCT.out.mono ?_
   rintro r w1 ⟨rfl,hb⟩
   have HB1:=xhd (HB0.out.trans (hb.mono HB0.out.size))
   have HBX:=xhd hb
   obtain⟨x0,x1,x2,x3,x4⟩:=HXV.out _ hb
   clear hb
   go_wp2_with fail
   with_reducible refine (HNU.out _ HB1.out).mono ?_
   rintro r w2 ⟨rfl,hb⟩
   have HB2:=xhd (HB1.out.trans (hb.mono HB1.out.size))
   clear x0 x1 x2 x3 x4
   obtain⟨x0,x1,x2,x3,x4⟩:=HXV.out _ (HBX.out.trans (hb.mono HBX.out.size))
   clear hb
   go_wp2_with fail
   with_reducible refine (HMF.out _ HB2.out).mono ?_
   rintro r w3 ⟨rfl,hb⟩
   have HB3:=xhd (HB2.out.trans (hb.mono HB2.out.size))
   clear hb x0 x1 x2 x3 x4
   go_wp2
   go_ret
   exact⟨rfl,HB3.out⟩
end Go.Proofs.YtbnhnnccioljhaaGreatDoor
