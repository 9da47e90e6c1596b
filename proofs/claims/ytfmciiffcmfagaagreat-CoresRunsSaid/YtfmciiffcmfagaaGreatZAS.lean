/-
  Move.
-/
import Derived.Test.YtfmciiffcmfagaaGreatZAR
import Derived.Laws.StructEq
import Derived.Test.YtfmciiffcmfagaaGreatZAl
set_option maxRecDepth 100000
set_option maxHeartbeats 25600000
namespace Go.Proofs.YtfmciiffcmfagaaGreat
open Go.RowKit
def tmE (t:Tr Nat) (k kt:Int×Int):Int:=if (t.fnd k).isNone then 4 else if k=kt then 0 else if (t.fnd kt).isSome then 12 else 0
def tmT (t:Tr Nat) (k kt:Int×Int):Tr Nat:=
 match t.fnd k with
 |none=>t
 |some x=>if k=kt then t else if (t.fnd kt).isSome then t else (Tr.ins (kt.1,kt.2,x.2.2) (Tr.del k t).root).root
theorem moveE_any {w:World} {b:Nat} {m:Int} {t:Tr Nat} (h:TAt w b m t) (k1 k2:Int) (hL:t.list.length≤1000000):
  Calls Tryz.prog 75 #[.pointer (some ⟨b,0,none⟩), .agg #[.int .u64 k1, .int .i64 k2], .agg #[.int .u64 k1, .int .i64 k2]] w fun e w'=>
   e= .returned (.int .i64 (tmE t (k1,k2) (k1,k2)))∧TAt w' b m (tmT t (k1,k2) (k1,k2))∧Turned [b] w w':=by
 obtain⟨W,hW⟩:∃W,(w.alloc (.cells #[.int .u64 k1, .int .i64 k2] 84)).alloc (.cells #[.int .u64 k1, .int .i64 k2] 84)=W:=⟨_,rfl⟩
 have TW:Turned [] w W:=hW ▸ ((Turned.refl [] w).alloc _).alloc _
 have BW:W.heap[w.heap.size]?=some (.cells #[.int .u64 k1, .int .i64 k2] 84 (0,0)):=by rw [←hW];exact (Below.heap_alloc _ _ _ (by simp)).trans (heap_alloc_new w _)
 have CW:W.heap[w.heap.size+1]?=some (.cells #[.int .u64 k1, .int .i64 k2] 84 (0,0)):=by
  have e:=heap_alloc_new (w.alloc (.cells #[.int .u64 k1, .int .i64 k2] 84)) (.cells #[.int .u64 k1, .int .i64 k2] 84)
  rw [show (w.alloc (.cells #[.int .u64 k1, .int .i64 k2] 84)).heap.size=w.heap.size+1 by simp] at e
  rw [←hW]
  exact e
 have HB:=xhd BW
 have HC:=xhd CW
 have H:=xhd h
 obtain⟨p,h1,h2,h3⟩:=h
 obtain⟨D,hD⟩:∃D,W.drew=D:=⟨_,rfl⟩
 have TD:Turned [] W D:=hD ▸ (Turned.refl [] W).drew
 have NW:=(TW.join TD).same h1 (by simp)
 have kb:=TD.same BW (by simp)
 obtain⟨c0,c1,c2,_⟩:=tr_cells NW
 have k0:D.cell? ⟨w.heap.size,0,none⟩=some (.int .u64 k1):=by simp [World.cell?,kb]
 have k1':D.cell? ⟨w.heap.size,1,none⟩=some (.int .i64 k2):=by simp [World.cell?,kb]
 have HF:=xhd (find_any (h2.later (TW.join TD)) k1 k2)
 have HT:=xhd (TW.join TD)
 have HD:=xhd TD
 have H1:=xhd h1
 have H2:=xhd h2
 have H3:=xhd h3
 have HL:=xhd hL
 obtain⟨ap,rfl⟩:=h2.shape
 clear TW TD BW CW NW kb h1 h2 h3 hL
 go_enter Tryz.func75,Tryz.ntmps75
 go_wp2_with fail
 refine wp_still_tail_at 5 hD (by kernel_rfl) (by kernel_rfl) ?_
 clear hD
 simp only [List.take_succ_cons,List.take_zero,List.drop_succ_cons,List.drop_zero]
 repeat still_step
 refine wpStill_nil ?_
 go_wp2_with fail
 with_reducible refine HF.out.mono ?_
 rintro e V ⟨q,rfl,hq,t2⟩
 have T2:=xhd (HT.out.join t2)
 have T3:=xhd (HD.out.join t2)
 clear t2 c0 c1 c2 k0 k1'
 cases hf:t.fnd (k1,k2) with
 |none=>
  have HFF:=xhd hf
  rw [hf] at hq
  obtain rfl:q= .pointer none:=hq
  clear hf
  go_wp2
  go_ret
  rw [tmT,tmE,HFF.out]
  exact⟨rfl,H.out.later T2.out,T2.out.mono (fun k hk=>by simp at hk)⟩
 |some x=>
  have HFF:=xhd hf
  rw [hf] at hq
  obtain⟨g,c,pl,pr,rfl,hm⟩:=hq
  have HM:=xhd hm
  have kb:=T3.out.same HB.out (by simp)
  have jb:=T3.out.same HC.out (by simp)
  have k0:V.cell? ⟨w.heap.size,0,none⟩=some (.int .u64 k1):=by simp [World.cell?,kb]
  have k1':V.cell? ⟨w.heap.size,1,none⟩=some (.int .i64 k2):=by simp [World.cell?,kb]
  have j0:V.cell? ⟨w.heap.size+1,0,none⟩=some (.int .u64 k1):=by simp [World.cell?,jb]
  have j1':V.cell? ⟨w.heap.size+1,1,none⟩=some (.int .i64 k2):=by simp [World.cell?,jb]
  clear hm hf kb jb
  go_wp2
  go_ret
  rw [tmT,tmE,HFF.out]
  simp only [if_true,Option.isNone_some]
  exact⟨rfl,H.out.later T2.out,T2.out.mono (fun k hk=>by simp at hk)⟩
theorem moveA_any {w:World} {b:Nat} {m:Int} {t:Tr Nat} (h:TAt w b m t) (k1 k2 j2:Int) (hkj:¬(k1,k2)=(k1,j2)) (hL:t.list.length≤1000000):
  Calls Tryz.prog 75 #[.pointer (some ⟨b,0,none⟩), .agg #[.int .u64 k1, .int .i64 k2], .agg #[.int .u64 k1, .int .i64 j2]] w fun e w'=>
   e= .returned (.int .i64 (tmE t (k1,k2) (k1,j2)))∧TAt w' b m (tmT t (k1,k2) (k1,j2))∧Turned [b] w w':=by
 obtain⟨W,hW⟩:∃W,(w.alloc (.cells #[.int .u64 k1, .int .i64 k2] 84)).alloc (.cells #[.int .u64 k1, .int .i64 j2] 84)=W:=⟨_,rfl⟩
 have TW:Turned [] w W:=hW ▸ ((Turned.refl [] w).alloc _).alloc _
 have BW:W.heap[w.heap.size]?=some (.cells #[.int .u64 k1, .int .i64 k2] 84 (0,0)):=by rw [←hW];exact (Below.heap_alloc _ _ _ (by simp)).trans (heap_alloc_new w _)
 have CW:W.heap[w.heap.size+1]?=some (.cells #[.int .u64 k1, .int .i64 j2] 84 (0,0)):=by
  have e:=heap_alloc_new (w.alloc (.cells #[.int .u64 k1, .int .i64 k2] 84)) (.cells #[.int .u64 k1, .int .i64 j2] 84)
  rw [show (w.alloc (.cells #[.int .u64 k1, .int .i64 k2] 84)).heap.size=w.heap.size+1 by simp] at e
  rw [←hW]
  exact e
 have HB:=xhd BW
 have HC:=xhd CW
 have H:=xhd h
 obtain⟨p,h1,h2,h3⟩:=h
 obtain⟨D,hD⟩:∃D,W.drew=D:=⟨_,rfl⟩
 have TD:Turned [] W D:=hD ▸ (Turned.refl [] W).drew
 have NW:=(TW.join TD).same h1 (by simp)
 have kb:=TD.same BW (by simp)
 obtain⟨c0,c1,c2,_⟩:=tr_cells NW
 have k0:D.cell? ⟨w.heap.size,0,none⟩=some (.int .u64 k1):=by simp [World.cell?,kb]
 have k1':D.cell? ⟨w.heap.size,1,none⟩=some (.int .i64 k2):=by simp [World.cell?,kb]
 have HF:=xhd (find_any (h2.later (TW.join TD)) k1 k2)
 have HT:=xhd (TW.join TD)
 have HD:=xhd TD
 have H1:=xhd h1
 have H2:=xhd h2
 have H3:=xhd h3
 have HL:=xhd hL
 obtain⟨ap,rfl⟩:=h2.shape
 clear TW TD BW CW NW kb h1 h2 h3 hL
 go_enter Tryz.func75,Tryz.ntmps75
 go_wp2_with fail
 refine wp_still_tail_at 5 hD (by kernel_rfl) (by kernel_rfl) ?_
 clear hD
 simp only [List.take_succ_cons,List.take_zero,List.drop_succ_cons,List.drop_zero]
 repeat still_step
 refine wpStill_nil ?_
 go_wp2_with fail
 with_reducible refine HF.out.mono ?_
 rintro e V ⟨q,rfl,hq,t2⟩
 have T2:=xhd (HT.out.join t2)
 have T3:=xhd (HD.out.join t2)
 clear t2 c0 c1 c2 k0 k1'
 cases hf:t.fnd (k1,k2) with
 |none=>
  have HFF:=xhd hf
  rw [hf] at hq
  obtain rfl:q= .pointer none:=hq
  clear hf
  go_wp2
  go_ret
  rw [tmT,tmE,HFF.out]
  exact⟨rfl,H.out.later T2.out,T2.out.mono (fun k hk=>by simp at hk)⟩
 |some x=>
  have HFF:=xhd hf
  rw [hf] at hq
  obtain⟨g,c,pl,pr,rfl,hm⟩:=hq
  have HM:=xhd hm
  have kb:=T3.out.same HB.out (by simp)
  have jb:=T3.out.same HC.out (by simp)
  have k0:V.cell? ⟨w.heap.size,0,none⟩=some (.int .u64 k1):=by simp [World.cell?,kb]
  have k1':V.cell? ⟨w.heap.size,1,none⟩=some (.int .i64 k2):=by simp [World.cell?,kb]
  have j0:V.cell? ⟨w.heap.size+1,0,none⟩=some (.int .u64 k1):=by simp [World.cell?,jb]
  have j1':V.cell? ⟨w.heap.size+1,1,none⟩=some (.int .i64 j2):=by simp [World.cell?,jb]
  clear hm hf kb jb
  have HK:=xhd hkj
  have e1:(k1 == k1)=true:=by simp
  have e2:(k2 == j2)=false:=by rw [beq_eq_false_iff_ne];intro e;exact hkj (by rw [e])
  clear hkj
  go_wp2_with fail
  obtain⟨E,hE⟩:∃E,V.drew=E:=⟨_,rfl⟩
  have TE:Turned [] V E:=hE ▸ (Turned.refl [] V).drew
  have N2:=(T2.out.join TE).same H1.out (by simp)
  obtain⟨c0,c1,c2,_⟩:=tr_cells N2
  have jb:=(T3.out.join TE).same HC.out (by simp)
  have l0:E.cell? ⟨w.heap.size+1,0,none⟩=some (.int .u64 k1):=by simp [World.cell?,jb]
  have l1:E.cell? ⟨w.heap.size+1,1,none⟩=some (.int .i64 j2):=by simp [World.cell?,jb]
  have HF2:=xhd (find_any (H2.out.later (T2.out.join TE)) k1 j2)
  have HE2:=xhd TE
  clear N2 jb TE k0 k1' j0 j1'
  refine wp_still_tail_at 5 hE (by kernel_rfl) (by kernel_rfl) ?_
  clear hE
  simp only [List.take_succ_cons,List.take_zero,List.drop_succ_cons,List.drop_zero]
  repeat still_step
  refine wpStill_nil ?_
  go_wp2_with fail
  with_reducible refine HF2.out.mono ?_
  rintro e V2 ⟨q2,rfl,hq2,t3⟩
  have T4:=xhd (T2.out.join (HE2.out.join t3))
  have T5:=xhd (T3.out.join (HE2.out.join t3))
  have T6:=xhd (HE2.out.join t3)
  clear t3 c0 c1 c2 l0 l1
  cases hf2:t.fnd (k1,j2) with
  |some y=>
   have HF3:=xhd hf2
   rw [hf2] at hq2
   obtain⟨g2,c2,pl2,pr2,rfl,hm2⟩:=hq2
   clear hm2 hf2
   go_wp2
   go_ret
   rw [tmT,tmE,HFF.out,HF3.out,if_neg (by simp),if_neg HK.out,if_pos (by simp)]
   simp only [if_neg HK.out,Option.isSome_some,if_true]
   exact⟨rfl,H.out.later T4.out,T4.out.mono (fun k hk=>by simp at hk)⟩
  |none=>
   have HF3:=xhd hf2
   rw [hf2] at hq2
   obtain rfl:q2= .pointer none:=hq2
   have hx:=fnd_some H3.out HFF.out
   have HR:=xhd (remove_any (H.out.later T4.out) k1 k2 ⟨x,hx⟩ HL.out)
   have kb:=T5.out.same HB.out (by simp)
   have m0:V2.cell? ⟨w.heap.size,0,none⟩=some (.int .u64 k1):=by simp [World.cell?,kb]
   have m1:V2.cell? ⟨w.heap.size,1,none⟩=some (.int .i64 k2):=by simp [World.cell?,kb]
   clear kb hf2
   go_wp2_with fail
   with_reducible refine HR.out.mono ?_
   rintro e V3 ⟨rfl,hA,t4⟩
   have hbl:=H.out.lt
   have jb:=t4.same (T5.out.same HC.out (by simp)) (by simp;omega)
   have hKN:KeepsN V2 V3:=KeepsN.of_turned t4 (by
    intro k hk cs e
    simp at hk
    subst hk
    rw [T4.out.same H1.out (by simp)] at e
    injection e with e
    injection e with _ e2
    exact absurd e2 (by decide))
   have hn2:=hKN _ _ (T6.out.same HM.out (by simp))
   have TB:=xhd ((T4.out.mono (X:=[b]) (fun k hk=>by simp at hk)).trans t4 (Newer.refl _ _))
   clear t4 hKN m0 m1
   go_wp2_with fail
   obtain⟨E2,hE2⟩:∃E2,V3.drew=E2:=⟨_,rfl⟩
   have TE2:Turned [] V3 E2:=hE2 ▸ (Turned.refl [] V3).drew
   have jb2:=TE2.same jb (by simp)
   have l0:E2.cell? ⟨w.heap.size+1,0,none⟩=some (.int .u64 k1):=by simp [World.cell?,jb2]
   have l1:E2.cell? ⟨w.heap.size+1,1,none⟩=some (.int .i64 j2):=by simp [World.cell?,jb2]
   obtain⟨_,_,l2,_,_,_⟩:=nd_cells (TE2.same hn2 (by simp))
   obtain⟨x1,x2,x3⟩:=x
   simp only at l2
   have hdl:(Tr.del (k1,k2) t).root.list=Tr.delL (k1,k2) t.list:=(H3.out.del (k1,k2) ⟨_,hx⟩).2
   have HA:=xhd (tadd_any (hA.later TE2) (k1,j2,x3) (by
    intro y hy
    rw [hdl] at hy
    exact fnd_none H3.out HF3.out y (List.mem_filter.1 (show y ∈ List.filter _ _ from hy)).1) (by
    rw [hdl]
    exact Nat.le_trans (List.length_filter_le _ _) HL.out))
   have TF:=xhd (TB.out.trans (TE2.mono (X:=[b]) (fun k hk=>by simp at hk)) (Newer.refl _ _))
   clear jb jb2 hn2 hA TE2 hx hdl hbl
   refine wp_still_tail_at 8 hE2 (by kernel_rfl) (by kernel_rfl) ?_
   clear hE2
   simp only [List.take_succ_cons,List.take_zero,List.drop_succ_cons,List.drop_zero]
   repeat still_step
   refine wpStill_nil ?_
   go_wp2_with fail
   with_reducible refine HA.out.mono ?_
   rintro e V4 ⟨rfl,hA,t5⟩
   have G:=xhd (And.intro hA (TF.out.trans t5 (Newer.refl _ _)))
   clear hA t5 l0 l1 l2
   go_wp2
   go_ret
   rw [tmT,tmE,HFF.out,HF3.out,if_neg (by simp),if_neg HK.out,if_neg (by simp)]
   simp only [if_neg HK.out]
   exact⟨rfl,G.out⟩
theorem moveB_any {w:World} {b:Nat} {m:Int} {t:Tr Nat} (h:TAt w b m t) (k1 k2 j1 j2:Int) (hn1:¬k1=j1) (hkj:¬(k1,k2)=(j1,j2)) (hL:t.list.length≤1000000):
  Calls Tryz.prog 75 #[.pointer (some ⟨b,0,none⟩), .agg #[.int .u64 k1, .int .i64 k2], .agg #[.int .u64 j1, .int .i64 j2]] w fun e w'=>
   e= .returned (.int .i64 (tmE t (k1,k2) (j1,j2)))∧TAt w' b m (tmT t (k1,k2) (j1,j2))∧Turned [b] w w':=by
 obtain⟨W,hW⟩:∃W,(w.alloc (.cells #[.int .u64 k1, .int .i64 k2] 84)).alloc (.cells #[.int .u64 j1, .int .i64 j2] 84)=W:=⟨_,rfl⟩
 have TW:Turned [] w W:=hW ▸ ((Turned.refl [] w).alloc _).alloc _
 have BW:W.heap[w.heap.size]?=some (.cells #[.int .u64 k1, .int .i64 k2] 84 (0,0)):=by rw [←hW];exact (Below.heap_alloc _ _ _ (by simp)).trans (heap_alloc_new w _)
 have CW:W.heap[w.heap.size+1]?=some (.cells #[.int .u64 j1, .int .i64 j2] 84 (0,0)):=by
  have e:=heap_alloc_new (w.alloc (.cells #[.int .u64 k1, .int .i64 k2] 84)) (.cells #[.int .u64 j1, .int .i64 j2] 84)
  rw [show (w.alloc (.cells #[.int .u64 k1, .int .i64 k2] 84)).heap.size=w.heap.size+1 by simp] at e
  rw [←hW]
  exact e
 have HB:=xhd BW
 have HC:=xhd CW
 have H:=xhd h
 obtain⟨p,h1,h2,h3⟩:=h
 obtain⟨D,hD⟩:∃D,W.drew=D:=⟨_,rfl⟩
 have TD:Turned [] W D:=hD ▸ (Turned.refl [] W).drew
 have NW:=(TW.join TD).same h1 (by simp)
 have kb:=TD.same BW (by simp)
 obtain⟨c0,c1,c2,_⟩:=tr_cells NW
 have k0:D.cell? ⟨w.heap.size,0,none⟩=some (.int .u64 k1):=by simp [World.cell?,kb]
 have k1':D.cell? ⟨w.heap.size,1,none⟩=some (.int .i64 k2):=by simp [World.cell?,kb]
 have HF:=xhd (find_any (h2.later (TW.join TD)) k1 k2)
 have HT:=xhd (TW.join TD)
 have HD:=xhd TD
 have H1:=xhd h1
 have H2:=xhd h2
 have H3:=xhd h3
 have HL:=xhd hL
 obtain⟨ap,rfl⟩:=h2.shape
 clear TW TD BW CW NW kb h1 h2 h3 hL
 go_enter Tryz.func75,Tryz.ntmps75
 go_wp2_with fail
 refine wp_still_tail_at 5 hD (by kernel_rfl) (by kernel_rfl) ?_
 clear hD
 simp only [List.take_succ_cons,List.take_zero,List.drop_succ_cons,List.drop_zero]
 repeat still_step
 refine wpStill_nil ?_
 go_wp2_with fail
 with_reducible refine HF.out.mono ?_
 rintro e V ⟨q,rfl,hq,t2⟩
 have T2:=xhd (HT.out.join t2)
 have T3:=xhd (HD.out.join t2)
 clear t2 c0 c1 c2 k0 k1'
 cases hf:t.fnd (k1,k2) with
 |none=>
  have HFF:=xhd hf
  rw [hf] at hq
  obtain rfl:q= .pointer none:=hq
  clear hf
  go_wp2
  go_ret
  rw [tmT,tmE,HFF.out]
  exact⟨rfl,H.out.later T2.out,T2.out.mono (fun k hk=>by simp at hk)⟩
 |some x=>
  have HFF:=xhd hf
  rw [hf] at hq
  obtain⟨g,c,pl,pr,rfl,hm⟩:=hq
  have HM:=xhd hm
  have kb:=T3.out.same HB.out (by simp)
  have jb:=T3.out.same HC.out (by simp)
  have k0:V.cell? ⟨w.heap.size,0,none⟩=some (.int .u64 k1):=by simp [World.cell?,kb]
  have k1':V.cell? ⟨w.heap.size,1,none⟩=some (.int .i64 k2):=by simp [World.cell?,kb]
  have j0:V.cell? ⟨w.heap.size+1,0,none⟩=some (.int .u64 j1):=by simp [World.cell?,jb]
  have j1':V.cell? ⟨w.heap.size+1,1,none⟩=some (.int .i64 j2):=by simp [World.cell?,jb]
  clear hm hf kb jb
  have HK:=xhd hkj
  have e1:(k1 == j1)=false:=by rw [beq_eq_false_iff_ne];exact hn1
  clear hn1
  clear hkj
  go_wp2_with fail
  obtain⟨E,hE⟩:∃E,V.drew=E:=⟨_,rfl⟩
  have TE:Turned [] V E:=hE ▸ (Turned.refl [] V).drew
  have N2:=(T2.out.join TE).same H1.out (by simp)
  obtain⟨c0,c1,c2,_⟩:=tr_cells N2
  have jb:=(T3.out.join TE).same HC.out (by simp)
  have l0:E.cell? ⟨w.heap.size+1,0,none⟩=some (.int .u64 j1):=by simp [World.cell?,jb]
  have l1:E.cell? ⟨w.heap.size+1,1,none⟩=some (.int .i64 j2):=by simp [World.cell?,jb]
  have HF2:=xhd (find_any (H2.out.later (T2.out.join TE)) j1 j2)
  have HE2:=xhd TE
  clear N2 jb TE k0 k1' j0 j1'
  refine wp_still_tail_at 5 hE (by kernel_rfl) (by kernel_rfl) ?_
  clear hE
  simp only [List.take_succ_cons,List.take_zero,List.drop_succ_cons,List.drop_zero]
  repeat still_step
  refine wpStill_nil ?_
  go_wp2_with fail
  with_reducible refine HF2.out.mono ?_
  rintro e V2 ⟨q2,rfl,hq2,t3⟩
  have T4:=xhd (T2.out.join (HE2.out.join t3))
  have T5:=xhd (T3.out.join (HE2.out.join t3))
  have T6:=xhd (HE2.out.join t3)
  clear t3 c0 c1 c2 l0 l1
  cases hf2:t.fnd (j1,j2) with
  |some y=>
   have HF3:=xhd hf2
   rw [hf2] at hq2
   obtain⟨g2,c2,pl2,pr2,rfl,hm2⟩:=hq2
   clear hm2 hf2
   go_wp2
   go_ret
   rw [tmT,tmE,HFF.out,HF3.out,if_neg (by simp),if_neg HK.out,if_pos (by simp)]
   simp only [if_neg HK.out,Option.isSome_some,if_true]
   exact⟨rfl,H.out.later T4.out,T4.out.mono (fun k hk=>by simp at hk)⟩
  |none=>
   have HF3:=xhd hf2
   rw [hf2] at hq2
   obtain rfl:q2= .pointer none:=hq2
   have hx:=fnd_some H3.out HFF.out
   have HR:=xhd (remove_any (H.out.later T4.out) k1 k2 ⟨x,hx⟩ HL.out)
   have kb:=T5.out.same HB.out (by simp)
   have m0:V2.cell? ⟨w.heap.size,0,none⟩=some (.int .u64 k1):=by simp [World.cell?,kb]
   have m1:V2.cell? ⟨w.heap.size,1,none⟩=some (.int .i64 k2):=by simp [World.cell?,kb]
   clear kb hf2
   go_wp2_with fail
   with_reducible refine HR.out.mono ?_
   rintro e V3 ⟨rfl,hA,t4⟩
   have hbl:=H.out.lt
   have jb:=t4.same (T5.out.same HC.out (by simp)) (by simp;omega)
   have hKN:KeepsN V2 V3:=KeepsN.of_turned t4 (by
    intro k hk cs e
    simp at hk
    subst hk
    rw [T4.out.same H1.out (by simp)] at e
    injection e with e
    injection e with _ e2
    exact absurd e2 (by decide))
   have hn2:=hKN _ _ (T6.out.same HM.out (by simp))
   have TB:=xhd ((T4.out.mono (X:=[b]) (fun k hk=>by simp at hk)).trans t4 (Newer.refl _ _))
   clear t4 hKN m0 m1
   go_wp2_with fail
   obtain⟨E2,hE2⟩:∃E2,V3.drew=E2:=⟨_,rfl⟩
   have TE2:Turned [] V3 E2:=hE2 ▸ (Turned.refl [] V3).drew
   have jb2:=TE2.same jb (by simp)
   have l0:E2.cell? ⟨w.heap.size+1,0,none⟩=some (.int .u64 j1):=by simp [World.cell?,jb2]
   have l1:E2.cell? ⟨w.heap.size+1,1,none⟩=some (.int .i64 j2):=by simp [World.cell?,jb2]
   obtain⟨_,_,l2,_,_,_⟩:=nd_cells (TE2.same hn2 (by simp))
   obtain⟨x1,x2,x3⟩:=x
   simp only at l2
   have hdl:(Tr.del (k1,k2) t).root.list=Tr.delL (k1,k2) t.list:=(H3.out.del (k1,k2) ⟨_,hx⟩).2
   have HA:=xhd (tadd_any (hA.later TE2) (j1,j2,x3) (by
    intro y hy
    rw [hdl] at hy
    exact fnd_none H3.out HF3.out y (List.mem_filter.1 (show y ∈ List.filter _ _ from hy)).1) (by
    rw [hdl]
    exact Nat.le_trans (List.length_filter_le _ _) HL.out))
   have TF:=xhd (TB.out.trans (TE2.mono (X:=[b]) (fun k hk=>by simp at hk)) (Newer.refl _ _))
   clear jb jb2 hn2 hA TE2 hx hdl hbl
   refine wp_still_tail_at 8 hE2 (by kernel_rfl) (by kernel_rfl) ?_
   clear hE2
   simp only [List.take_succ_cons,List.take_zero,List.drop_succ_cons,List.drop_zero]
   repeat still_step
   refine wpStill_nil ?_
   go_wp2_with fail
   with_reducible refine HA.out.mono ?_
   rintro e V4 ⟨rfl,hA,t5⟩
   have G:=xhd (And.intro hA (TF.out.trans t5 (Newer.refl _ _)))
   clear hA t5 l0 l1 l2
   go_wp2
   go_ret
   rw [tmT,tmE,HFF.out,HF3.out,if_neg (by simp),if_neg HK.out,if_neg (by simp)]
   simp only [if_neg HK.out]
   exact⟨rfl,G.out⟩
theorem move_any {w:World} {b:Nat} {m:Int} {t:Tr Nat} (h:TAt w b m t) (k1 k2 j1 j2:Int) (hL:t.list.length≤1000000):
  Calls Tryz.prog 75 #[.pointer (some ⟨b,0,none⟩), .agg #[.int .u64 k1, .int .i64 k2], .agg #[.int .u64 j1, .int .i64 j2]] w fun e w'=>
   e= .returned (.int .i64 (tmE t (k1,k2) (j1,j2)))∧TAt w' b m (tmT t (k1,k2) (j1,j2))∧Turned [b] w w':=by
 by_cases h1:k1=j1
 ·subst h1
  by_cases h2:k2=j2
  ·subst h2
   exact moveE_any h k1 k2 hL
  ·exact moveA_any h k1 k2 j2 (fun e=>h2 (by simpa using e)) hL
 ·exact moveB_any h k1 k2 j1 j2 h1 (fun e=>h1 (by simp at e;exact e.1)) hL
end Go.Proofs.YtfmciiffcmfagaaGreat
