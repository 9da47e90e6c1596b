/-
  The document's Words, forever. (Made by gen_words.py.)
-/
import Derived.Test.YtbnhnnccioljhaaGreatDoorZAH
import Derived.Test.YtbnhnnccioljhaaGreatDoorZAl
set_option maxRecDepth 100000
set_option maxHeartbeats 25600000
namespace Go.Proofs.YtbnhnnccioljhaaGreatDoor
open Go.RowKit
theorem rwords_t (ao:Option Addr) (b off cap:Nat) (L:List Opn) (w:World) (h:OArg w ao b off L) (hm:L.length≤100000) (hs:∀x ∈ L,small x.1):
  Calls Tryz.prog 59 #[prgV true ao L.length cap] w (WordsP (wordsR (true,L)) w):=by
 obtain⟨i0,hi0,hz0,hz1,hz2⟩:=info_parts word_info
 have HA:=xhd h
 have HS:=xhd hs
 rw [words_head]
 obtain⟨R,hR⟩:∃R,headR true++L.flatMap opW++[(3,[125],0,0)]=R:=⟨_,rfl⟩
 have HR:=xhd hR
 rw [hR]
 obtain⟨n,hn⟩:∃n,L.length=n:=⟨_,rfl⟩
 have HN:=xhd hn
 rw [hn] at hm ⊢
 clear h hs hR hn
 have HW0:=xhd (WI.first w (1,progB,0,0) #[.bool true, .slice ao n cap] (.int .i64 1) (.string ⟨#[112,114,111,103]⟩) (.int .i64 0) (.int .i64 0) rfl)
 obtain⟨ws0,hws⟩:∃l:List Wd,[(1,progB,0,0)]=l:=⟨_,rfl⟩
 rw [hws] at HW0
 have hl0:ws0.length≤1:=by rw [←hws];exact Nat.le_refl _
 have HWS0:=xhd hws
 clear hws
 obtain⟨p0,p1⟩:=two_cells HW0.out.box
 go_enter Tryz.func59,Tryz.ntmps59
 go_wp2_with (at_builtin;refine wpList_append_own _ rfl _ _ 50 rfl w.heap.size 95 i0 (.agg #[.int .i64 0, .string ⟨#[]⟩, .int .i64 0, .int .i64 0]) 4 40 Tryz.underlying50 hi0 hz0 hz1 hz2 rfl (by decide) _ _ _ rfl (row_below HW0.out.row ((Below.refl _ _).alloc (Nat.le_refl _) _)) ⟨_,0,none⟩ 1 1 [.int .i64 1, .string ⟨#[102,111,114,101,118,101,114]⟩, .int .i64 0, .int .i64 0] rfl rfl ?c1 ?c2 ?c3 ?c4 ?c5 ?_)
 try (case c1=>first|exact word_new _ _ _ _ _ _|exact word_at (by simp) _ _ _ _ _)
 try (case c2=>exact word_ones _ _ _ _)
 try (case c3=>((try simp only [List.length_append]);(try simp only [List.length_cons]);(try simp only [List.length_nil]);unfold maxLen;omega))
 try (case c4=>((try simp only [List.length_append]);(try simp only [List.length_cons]);(try simp only [List.length_nil]);omega))
 try (case c5=>(have:=HW0.out.siz;simp;omega))
 intro v1 w1 hown hgrow _
 have HW1:=xhd ((HW0.out.more ((Below.refl _ _).alloc (Nat.le_refl _) _)).push (x:=(1,foreverB,0,0)) hown hgrow)
 obtain⟨ws1,hws⟩:∃l,ws0++[(1,foreverB,0,0)]=l:=⟨_,rfl⟩
 rw [hws] at HW1
 have hl1:ws1.length≤ws0.length+1:=by rw [←hws];simp
 have HWS1:=xhd hws
 clear hown hgrow hws
 go_wp2_with (at_builtin;refine wpList_append_own _ rfl _ _ 50 rfl w.heap.size 95 i0 (.agg #[.int .i64 0, .string ⟨#[]⟩, .int .i64 0, .int .i64 0]) 4 40 Tryz.underlying50 hi0 hz0 hz1 hz2 rfl (by decide) _ _ _ rfl (row_below HW1.out.row ((Below.refl _ _).alloc (Nat.le_refl _) _)) ⟨_,0,none⟩ 1 1 [.int .i64 3, .string ⟨#[123]⟩, .int .i64 0, .int .i64 0] rfl rfl ?c1 ?c2 ?c3 ?c4 ?c5 ?_)
 try (case c1=>first|exact word_new _ _ _ _ _ _|exact word_at (by simp) _ _ _ _ _)
 try (case c2=>exact word_ones _ _ _ _)
 try (case c3=>((try simp only [List.length_append]);(try simp only [List.length_cons]);(try simp only [List.length_nil]);unfold maxLen;omega))
 try (case c4=>((try simp only [List.length_append]);(try simp only [List.length_cons]);(try simp only [List.length_nil]);omega))
 try (case c5=>(have:=HW1.out.siz;simp;omega))
 intro v2 w2 hown hgrow _
 have HW2:=xhd ((HW1.out.more ((Below.refl _ _).alloc (Nat.le_refl _) _)).push (x:=(3,[123],0,0)) hown hgrow)
 obtain⟨ws2,hws⟩:∃l,ws1++[(3,[123],0,0)]=l:=⟨_,rfl⟩
 rw [hws] at HW2
 have hl2:ws2.length≤ws1.length+1:=by rw [←hws];simp
 have HWS2:=xhd hws
 clear hown hgrow hws
 go_wp2_with fail
 go_loopw [3,4] (fun v' i' wr=>∃(i:Nat) (v:Value) (ws:List Wd),v'=v∧i'= .int .i64 i∧i≤n∧ws.length≤3+4*i∧Hid (WI w wr v ws #[.bool true, .slice ao n cap])∧Hid (ws=headR true++(L.take i).flatMap opW)) (fun _ i' _=>n - (intOf i').toNat)
 case atStart=>exact⟨0,_,_,rfl,rfl,Nat.zero_le _,by omega,HW2,by unfold Hid;rw [←HWS2.out, ←HWS1.out, ←HWS0.out];simp [headR]⟩
 case round=>
  obtain⟨i,v,ws,rfl,rfl,hi,hlen,HW,HE⟩:=hrel
  rename World=>wr
  clear p0 p1
  obtain⟨p0,p1⟩:=two_cells HW.out.box
  by_cases hlt:i < n
  ·have hlt':i < L.length:=by rw [HN.out];exact hlt
   have ha:=HA.out.below HW.out.bel
   obtain⟨rfl,hbl⟩:=ha.at_ (by omega)
   obtain⟨x0,x1,x2⟩:=ha.cells i hlt'
   have hk:=HS.out L[i] (List.getElem_mem hlt')
   have HNX:Hid (headR true++(L.take (i+1)).flatMap opW=ws++opW L[i]):=xhd (by rw [take_next hlt', ←HE.out])
   obtain⟨⟨k,a,c⟩,hx⟩:∃x,L[i]=x:=⟨_,rfl⟩
   rw [hx] at x0 x1 x2 hk HNX
   simp only at x0 x1 x2 hk
   obtain⟨lo,hi',hl⟩:∃lo hi,limR k=(lo,hi):=⟨_,_,rfl⟩
   have hl2:=fun W=>rlim_any k W
   simp only [hl] at hl2
   have HL:=xhd hl2
   obtain⟨tx,htx⟩:∃tx:ByteArray,⟨(nameR k).toArray⟩=tx:=⟨_,rfl⟩
   have hn1:=fun W=>rname_any k hk.1 hk.2 W
   simp only [htx] at hn1
   have HNM:=xhd hn1
   have HTX:=xhd htx
   have HOP:Hid (opW (k,a,c)=(1,nameR k,0,0)::((if 0≤lo then [(2,[],a,0)] else [])++((if k=5 then [(2,[],c,0)] else [])++[(3,[59],0,0)]))):=by
    unfold Hid opW
    simp only [hl]
   clear hx hk hl2 hn1 htx hl ha
   have HO0:Hid ((wr.alloc (.cells #[.int .i64 k, .int .i64 a, .int .i64 c] 142)).heap[wr.heap.size]?=some (.cells #[.int .i64 k, .int .i64 a, .int .i64 c] 142 (0,0))):=xhd (heap_alloc_new wr _)
   have HWB:=xhd (HW.out.more ((Below.refl _ _).alloc (Nat.le_refl _) (.cells #[.int .i64 k, .int .i64 a, .int .i64 c] 142)))
   go_wp2_with fail
   with_reducible refine (HNM.out _).mono ?_
   rintro e w2 ⟨rfl,hb2⟩
   have HW2:=xhd (HWB.out.more hb2)
   have HO2:=xhd ((hb2.block _ (lt_of_block HO0.out)).trans HO0.out)
   clear hb2
   go_wp2_with (at_builtin;refine wpList_append_own _ rfl _ _ 50 rfl w.heap.size 95 i0 (.agg #[.int .i64 0, .string ⟨#[]⟩, .int .i64 0, .int .i64 0]) 4 40 Tryz.underlying50 hi0 hz0 hz1 hz2 rfl (by decide) _ _ _ rfl (row_below HW2.out.row ((Below.refl _ _).alloc (Nat.le_refl _) _)) ⟨_,0,none⟩ 1 1 [.int .i64 1, .string tx, .int .i64 0, .int .i64 0] rfl rfl ?c1 ?c2 ?c3 ?c4 ?c5 ?_)
   try (case c1=>first|exact word_new _ _ _ _ _ _|exact word_at (by simp) _ _ _ _ _)
   try (case c2=>exact word_ones _ _ _ _)
   try (case c3=>((try simp only [List.length_append]);(try simp only [List.length_cons]);(try simp only [List.length_nil]);unfold maxLen;omega))
   try (case c4=>((try simp only [List.length_append]);(try simp only [List.length_cons]);(try simp only [List.length_nil]);omega))
   try (case c5=>(have:=HW2.out.siz;simp;omega))
   intro v3 w3 hown hgrow _
   have HW3:=xhd ((HW2.out.more ((Below.refl _ _).alloc (Nat.le_refl _) _)).push (x:=(1,nameR k,0,0)) (by rw [show wdC (1,nameR k,0,0)=[.int .i64 1, .string tx, .int .i64 0, .int .i64 0] by rw [←HTX.out];rfl];exact hown) hgrow)
   have HO3:=xhd ((HW2.out.more ((Below.refl _ _).alloc (Nat.le_refl _) _)).kept hgrow ((Below.heap_alloc _ _ _ (lt_of_block HO2.out)).trans HO2.out) (by decide))
   obtain⟨ws3,hws⟩:∃l,ws++[(1,nameR k,0,0)]=l:=⟨_,rfl⟩
   rw [hws] at HW3
   have hl3:ws3.length≤ws.length+1:=by rw [←hws];simp
   have HWS3:=xhd hws
   clear hown hgrow hws
   obtain⟨o0,o1,o2⟩:=op_cells HO3.out
   go_wp2_with fail
   with_reducible refine (HL.out _).mono ?_
   rintro e w5 ⟨rfl,rfl⟩
   by_cases hlo:0≤lo
   ·have HLO:=xhd hlo
    go_wp2_with (at_builtin;refine wpList_append_own _ rfl _ _ 50 rfl w.heap.size 95 i0 (.agg #[.int .i64 0, .string ⟨#[]⟩, .int .i64 0, .int .i64 0]) 4 40 Tryz.underlying50 hi0 hz0 hz1 hz2 rfl (by decide) _ _ _ rfl (row_below HW3.out.row ((Below.refl _ _).alloc (Nat.le_refl _) _)) ⟨_,0,none⟩ 1 1 [.int .i64 2, .string ⟨#[]⟩, .int .i64 a, .int .i64 0] rfl rfl ?c1 ?c2 ?c3 ?c4 ?c5 ?_)
    try (case c1=>first|exact word_new _ _ _ _ _ _|exact word_at (by simp) _ _ _ _ _)
    try (case c2=>exact word_ones _ _ _ _)
    try (case c3=>((try simp only [List.length_append]);(try simp only [List.length_cons]);(try simp only [List.length_nil]);unfold maxLen;omega))
    try (case c4=>((try simp only [List.length_append]);(try simp only [List.length_cons]);(try simp only [List.length_nil]);omega))
    try (case c5=>(have:=HW3.out.siz;simp;omega))
    intro v4 w4 hown hgrow _
    have HW4:=xhd ((HW3.out.more ((Below.refl _ _).alloc (Nat.le_refl _) _)).push (x:=(2,[],a,0)) hown hgrow)
    have HO4:=xhd ((HW3.out.more ((Below.refl _ _).alloc (Nat.le_refl _) _)).kept hgrow ((Below.heap_alloc _ _ _ (lt_of_block HO3.out)).trans HO3.out) (by decide))
    obtain⟨ws4,hws⟩:∃l,ws3++[(2,[],a,0)]=l:=⟨_,rfl⟩
    rw [hws] at HW4
    have hl4:ws4.length≤ws3.length+1:=by rw [←hws];simp
    have HWS4:=xhd hws
    clear hown hgrow hws
    clear o0 o1 o2
    obtain⟨o0,o1,o2⟩:=op_cells HO4.out
    by_cases h5:k=5
    ·have h5b:(k == 5)=true:=by simpa using h5
     have H5:=xhd h5
     clear h5
     go_wp2_with (at_builtin;refine wpList_append_own _ rfl _ _ 50 rfl w.heap.size 95 i0 (.agg #[.int .i64 0, .string ⟨#[]⟩, .int .i64 0, .int .i64 0]) 4 40 Tryz.underlying50 hi0 hz0 hz1 hz2 rfl (by decide) _ _ _ rfl (row_below HW4.out.row ((Below.refl _ _).alloc (Nat.le_refl _) _)) ⟨_,0,none⟩ 1 1 [.int .i64 2, .string ⟨#[]⟩, .int .i64 c, .int .i64 0] rfl rfl ?c1 ?c2 ?c3 ?c4 ?c5 ?_)
     try (case c1=>first|exact word_new _ _ _ _ _ _|exact word_at (by simp) _ _ _ _ _)
     try (case c2=>exact word_ones _ _ _ _)
     try (case c3=>((try simp only [List.length_append]);(try simp only [List.length_cons]);(try simp only [List.length_nil]);unfold maxLen;omega))
     try (case c4=>((try simp only [List.length_append]);(try simp only [List.length_cons]);(try simp only [List.length_nil]);omega))
     try (case c5=>(have:=HW4.out.siz;simp;omega))
     intro v5 w5 hown hgrow _
     have HW5:=xhd ((HW4.out.more ((Below.refl _ _).alloc (Nat.le_refl _) _)).push (x:=(2,[],c,0)) hown hgrow)
     obtain⟨ws5,hws⟩:∃l,ws4++[(2,[],c,0)]=l:=⟨_,rfl⟩
     rw [hws] at HW5
     have hl5:ws5.length≤ws4.length+1:=by rw [←hws];simp
     have HWS5:=xhd hws
     clear hown hgrow hws
     go_wp2_with (at_builtin;refine wpList_append_own _ rfl _ _ 50 rfl w.heap.size 95 i0 (.agg #[.int .i64 0, .string ⟨#[]⟩, .int .i64 0, .int .i64 0]) 4 40 Tryz.underlying50 hi0 hz0 hz1 hz2 rfl (by decide) _ _ _ rfl (row_below HW5.out.row ((Below.refl _ _).alloc (Nat.le_refl _) _)) ⟨_,0,none⟩ 1 1 [.int .i64 3, .string ⟨#[59]⟩, .int .i64 0, .int .i64 0] rfl rfl ?c1 ?c2 ?c3 ?c4 ?c5 ?_)
     try (case c1=>first|exact word_new _ _ _ _ _ _|exact word_at (by simp) _ _ _ _ _)
     try (case c2=>exact word_ones _ _ _ _)
     try (case c3=>((try simp only [List.length_append]);(try simp only [List.length_cons]);(try simp only [List.length_nil]);unfold maxLen;omega))
     try (case c4=>((try simp only [List.length_append]);(try simp only [List.length_cons]);(try simp only [List.length_nil]);omega))
     try (case c5=>(have:=HW5.out.siz;simp;omega))
     intro v6 w6 hown hgrow _
     have HW6:=xhd ((HW5.out.more ((Below.refl _ _).alloc (Nat.le_refl _) _)).push (x:=(3,[59],0,0)) hown hgrow)
     obtain⟨ws6,hws⟩:∃l,ws5++[(3,[59],0,0)]=l:=⟨_,rfl⟩
     rw [hws] at HW6
     have hl6:ws6.length≤ws5.length+1:=by rw [←hws];simp
     have HWS6:=xhd hws
     clear hown hgrow hws
     go_wp2
     go_roundw
     case rel=>exact⟨i+1,_,_,rfl,by go_num,by omega,by omega,HW6,by unfold Hid;rw [HNX.out,HOP.out,if_pos HLO.out,if_pos H5.out, ←HWS6.out, ←HWS5.out, ←HWS4.out, ←HWS3.out];simp⟩
     case measure=>simp [intOf];omega
    ·have h5b:(k == 5)=false:=by simpa using h5
     have H5:=xhd h5
     clear h5
     go_wp2_with (at_builtin;refine wpList_append_own _ rfl _ _ 50 rfl w.heap.size 95 i0 (.agg #[.int .i64 0, .string ⟨#[]⟩, .int .i64 0, .int .i64 0]) 4 40 Tryz.underlying50 hi0 hz0 hz1 hz2 rfl (by decide) _ _ _ rfl (row_below HW4.out.row ((Below.refl _ _).alloc (Nat.le_refl _) _)) ⟨_,0,none⟩ 1 1 [.int .i64 3, .string ⟨#[59]⟩, .int .i64 0, .int .i64 0] rfl rfl ?c1 ?c2 ?c3 ?c4 ?c5 ?_)
     try (case c1=>first|exact word_new _ _ _ _ _ _|exact word_at (by simp) _ _ _ _ _)
     try (case c2=>exact word_ones _ _ _ _)
     try (case c3=>((try simp only [List.length_append]);(try simp only [List.length_cons]);(try simp only [List.length_nil]);unfold maxLen;omega))
     try (case c4=>((try simp only [List.length_append]);(try simp only [List.length_cons]);(try simp only [List.length_nil]);omega))
     try (case c5=>(have:=HW4.out.siz;simp;omega))
     intro v6 w6 hown hgrow _
     have HW6:=xhd ((HW4.out.more ((Below.refl _ _).alloc (Nat.le_refl _) _)).push (x:=(3,[59],0,0)) hown hgrow)
     obtain⟨ws6,hws⟩:∃l,ws4++[(3,[59],0,0)]=l:=⟨_,rfl⟩
     rw [hws] at HW6
     have hl6:ws6.length≤ws4.length+1:=by rw [←hws];simp
     have HWS6:=xhd hws
     clear hown hgrow hws
     go_wp2
     go_roundw
     case rel=>exact⟨i+1,_,_,rfl,by go_num,by omega,by omega,HW6,by unfold Hid;rw [HNX.out,HOP.out,if_pos HLO.out,if_neg H5.out, ←HWS6.out, ←HWS4.out, ←HWS3.out];simp⟩
     case measure=>simp [intOf];omega
   ·have HLO:=xhd hlo
    by_cases h5:k=5
    ·have h5b:(k == 5)=true:=by simpa using h5
     have H5:=xhd h5
     clear h5
     go_wp2_with (at_builtin;refine wpList_append_own _ rfl _ _ 50 rfl w.heap.size 95 i0 (.agg #[.int .i64 0, .string ⟨#[]⟩, .int .i64 0, .int .i64 0]) 4 40 Tryz.underlying50 hi0 hz0 hz1 hz2 rfl (by decide) _ _ _ rfl (row_below HW3.out.row ((Below.refl _ _).alloc (Nat.le_refl _) _)) ⟨_,0,none⟩ 1 1 [.int .i64 2, .string ⟨#[]⟩, .int .i64 c, .int .i64 0] rfl rfl ?c1 ?c2 ?c3 ?c4 ?c5 ?_)
     try (case c1=>first|exact word_new _ _ _ _ _ _|exact word_at (by simp) _ _ _ _ _)
     try (case c2=>exact word_ones _ _ _ _)
     try (case c3=>((try simp only [List.length_append]);(try simp only [List.length_cons]);(try simp only [List.length_nil]);unfold maxLen;omega))
     try (case c4=>((try simp only [List.length_append]);(try simp only [List.length_cons]);(try simp only [List.length_nil]);omega))
     try (case c5=>(have:=HW3.out.siz;simp;omega))
     intro v5 w5 hown hgrow _
     have HW5:=xhd ((HW3.out.more ((Below.refl _ _).alloc (Nat.le_refl _) _)).push (x:=(2,[],c,0)) hown hgrow)
     obtain⟨ws5,hws⟩:∃l,ws3++[(2,[],c,0)]=l:=⟨_,rfl⟩
     rw [hws] at HW5
     have hl5:ws5.length≤ws3.length+1:=by rw [←hws];simp
     have HWS5:=xhd hws
     clear hown hgrow hws
     go_wp2_with (at_builtin;refine wpList_append_own _ rfl _ _ 50 rfl w.heap.size 95 i0 (.agg #[.int .i64 0, .string ⟨#[]⟩, .int .i64 0, .int .i64 0]) 4 40 Tryz.underlying50 hi0 hz0 hz1 hz2 rfl (by decide) _ _ _ rfl (row_below HW5.out.row ((Below.refl _ _).alloc (Nat.le_refl _) _)) ⟨_,0,none⟩ 1 1 [.int .i64 3, .string ⟨#[59]⟩, .int .i64 0, .int .i64 0] rfl rfl ?c1 ?c2 ?c3 ?c4 ?c5 ?_)
     try (case c1=>first|exact word_new _ _ _ _ _ _|exact word_at (by simp) _ _ _ _ _)
     try (case c2=>exact word_ones _ _ _ _)
     try (case c3=>((try simp only [List.length_append]);(try simp only [List.length_cons]);(try simp only [List.length_nil]);unfold maxLen;omega))
     try (case c4=>((try simp only [List.length_append]);(try simp only [List.length_cons]);(try simp only [List.length_nil]);omega))
     try (case c5=>(have:=HW5.out.siz;simp;omega))
     intro v6 w6 hown hgrow _
     have HW6:=xhd ((HW5.out.more ((Below.refl _ _).alloc (Nat.le_refl _) _)).push (x:=(3,[59],0,0)) hown hgrow)
     obtain⟨ws6,hws⟩:∃l,ws5++[(3,[59],0,0)]=l:=⟨_,rfl⟩
     rw [hws] at HW6
     have hl6:ws6.length≤ws5.length+1:=by rw [←hws];simp
     have HWS6:=xhd hws
     clear hown hgrow hws
     go_wp2
     go_roundw
     case rel=>exact⟨i+1,_,_,rfl,by go_num,by omega,by omega,HW6,by unfold Hid;rw [HNX.out,HOP.out,if_neg (c:=0≤lo) (by have:=HLO.out;omega),if_pos H5.out, ←HWS6.out, ←HWS5.out, ←HWS3.out];simp⟩
     case measure=>simp [intOf];omega
    ·have h5b:(k == 5)=false:=by simpa using h5
     have H5:=xhd h5
     clear h5
     go_wp2_with (at_builtin;refine wpList_append_own _ rfl _ _ 50 rfl w.heap.size 95 i0 (.agg #[.int .i64 0, .string ⟨#[]⟩, .int .i64 0, .int .i64 0]) 4 40 Tryz.underlying50 hi0 hz0 hz1 hz2 rfl (by decide) _ _ _ rfl (row_below HW3.out.row ((Below.refl _ _).alloc (Nat.le_refl _) _)) ⟨_,0,none⟩ 1 1 [.int .i64 3, .string ⟨#[59]⟩, .int .i64 0, .int .i64 0] rfl rfl ?c1 ?c2 ?c3 ?c4 ?c5 ?_)
     try (case c1=>first|exact word_new _ _ _ _ _ _|exact word_at (by simp) _ _ _ _ _)
     try (case c2=>exact word_ones _ _ _ _)
     try (case c3=>((try simp only [List.length_append]);(try simp only [List.length_cons]);(try simp only [List.length_nil]);unfold maxLen;omega))
     try (case c4=>((try simp only [List.length_append]);(try simp only [List.length_cons]);(try simp only [List.length_nil]);omega))
     try (case c5=>(have:=HW3.out.siz;simp;omega))
     intro v6 w6 hown hgrow _
     have HW6:=xhd ((HW3.out.more ((Below.refl _ _).alloc (Nat.le_refl _) _)).push (x:=(3,[59],0,0)) hown hgrow)
     obtain⟨ws6,hws⟩:∃l,ws3++[(3,[59],0,0)]=l:=⟨_,rfl⟩
     rw [hws] at HW6
     have hl6:ws6.length≤ws3.length+1:=by rw [←hws];simp
     have HWS6:=xhd hws
     clear hown hgrow hws
     go_wp2
     go_roundw
     case rel=>exact⟨i+1,_,_,rfl,by go_num,by omega,by omega,HW6,by unfold Hid;rw [HNX.out,HOP.out,if_neg (c:=0≤lo) (by have:=HLO.out;omega),if_neg H5.out, ←HWS6.out, ←HWS3.out];simp⟩
     case measure=>simp [intOf];omega
  ·have hin:i=n:=by omega
   have HEND:Hid (ws++[(3,[125],0,0)]=R):=xhd (by
    have e:L.take i=L:=List.take_of_length_le (by rw [HN.out];omega)
    rw [HE.out,e]
    exact HR.out)
   go_wp2_with (at_builtin;refine wpList_append_own _ rfl _ _ 50 rfl w.heap.size 95 i0 (.agg #[.int .i64 0, .string ⟨#[]⟩, .int .i64 0, .int .i64 0]) 4 40 Tryz.underlying50 hi0 hz0 hz1 hz2 rfl (by decide) _ _ _ rfl (row_below HW.out.row ((Below.refl _ _).alloc (Nat.le_refl _) _)) ⟨_,0,none⟩ 1 1 [.int .i64 3, .string ⟨#[125]⟩, .int .i64 0, .int .i64 0] rfl rfl ?c1 ?c2 ?c3 ?c4 ?c5 ?_)
   try (case c1=>first|exact word_new _ _ _ _ _ _|exact word_at (by simp) _ _ _ _ _)
   try (case c2=>exact word_ones _ _ _ _)
   try (case c3=>((try simp only [List.length_append]);(try simp only [List.length_cons]);(try simp only [List.length_nil]);unfold maxLen;omega))
   try (case c4=>((try simp only [List.length_append]);(try simp only [List.length_cons]);(try simp only [List.length_nil]);omega))
   try (case c5=>(have:=HW.out.siz;simp;omega))
   intro v9 w9 hown hgrow _
   have HW9:=xhd ((HW.out.more ((Below.refl _ _).alloc (Nat.le_refl _) _)).push (x:=(3,[125],0,0)) hown hgrow)
   obtain⟨ws9,hws⟩:∃l,ws++[(3,[125],0,0)]=l:=⟨_,rfl⟩
   rw [hws] at HW9
   have hl9:ws9.length≤ws.length+1:=by rw [←hws];simp
   have HWS9:=xhd hws
   clear hown hgrow hws
   go_wp2
   go_ret
   exact⟨_,rfl,(HWS9.out.symm.trans HEND.out) ▸ HW9.out.row,HW9.out.bel⟩
end Go.Proofs.YtbnhnnccioljhaaGreatDoor
