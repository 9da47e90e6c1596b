/-
  The document's Words, not forever. (Made by gen_words.py.)
  The document's Words, Print, of any program.
  Print of acts: the program's and the document's.
  The document's Same of programs.
  The program's Same; slices.Equal of ops.
  The document's Same, where the acts are the same; two acts, held against each other.
-/
import Derived.Test.YtbnhnnccioljhaaGreatDoorZAH
import Derived.Test.YtbnhnnccioljhaaGreatDoorZAR
import Derived.Test.YtbnhnnccioljhaaGreatDoorZAQ
import Derived.Test.YtbnhnnccioljhaaGreatDoorZAK
import Derived.Test.YtbnhnnccioljhaaGreatDoorZAO
import Derived.Test.YtbnhnnccioljhaaGreatDoorZAM
import Derived.Test.YtbnhnnccioljhaaGreatDoorZAB
import Derived.Deep.QuietTactic
import Derived.BigQuiet
import Derived.Laws.StructEq
import Derived.Test.YtbnhnnccioljhaaGreatDoorZAD
import Derived.Test.YtbnhnnccioljhaaGreatDoorZAl
set_option maxRecDepth 100000
set_option maxHeartbeats 25600000
namespace Go.Proofs.YtbnhnnccioljhaaGreatDoor
open Go.RowKit
theorem rwords_f (ao:Option Addr) (b off cap:Nat) (L:List Opn) (w:World) (h:OArg w ao b off L) (hm:L.length≤100000) (hs:∀x ∈ L,small x.1):
  Calls Tryz.prog 59 #[prgV false ao L.length cap] w (WordsP (wordsR (false,L)) w):=by
 obtain⟨i0,hi0,hz0,hz1,hz2⟩:=info_parts word_info
 have HA:=xhd h
 have HS:=xhd hs
 rw [words_head]
 obtain⟨R,hR⟩:∃R,headR false++L.flatMap opW++[(3,[125],0,0)]=R:=⟨_,rfl⟩
 have HR:=xhd hR
 rw [hR]
 obtain⟨n,hn⟩:∃n,L.length=n:=⟨_,rfl⟩
 have HN:=xhd hn
 rw [hn] at hm ⊢
 clear h hs hR hn
 have HW0:=xhd (WI.first w (1,progB,0,0) #[.bool false, .slice ao n cap] (.int .i64 1) (.string ⟨#[112,114,111,103]⟩) (.int .i64 0) (.int .i64 0) rfl)
 obtain⟨ws0,hws⟩:∃l:List Wd,[(1,progB,0,0)]=l:=⟨_,rfl⟩
 rw [hws] at HW0
 have hl0:ws0.length≤1:=by rw [←hws];exact Nat.le_refl _
 have HWS0:=xhd hws
 clear hws
 obtain⟨p0,p1⟩:=two_cells HW0.out.box
 go_enter Tryz.func59,Tryz.ntmps59
 go_wp2_with (at_builtin;refine wpList_append_own _ rfl _ _ 50 rfl w.heap.size 95 i0 (.agg #[.int .i64 0, .string ⟨#[]⟩, .int .i64 0, .int .i64 0]) 4 40 Tryz.underlying50 hi0 hz0 hz1 hz2 rfl (by decide) _ _ _ rfl (row_below HW0.out.row ((Below.refl _ _).alloc (Nat.le_refl _) _)) ⟨_,0,none⟩ 1 1 [.int .i64 3, .string ⟨#[123]⟩, .int .i64 0, .int .i64 0] rfl rfl ?c1 ?c2 ?c3 ?c4 ?c5 ?_)
 try (case c1=>first|exact word_new _ _ _ _ _ _|exact word_at (by simp) _ _ _ _ _)
 try (case c2=>exact word_ones _ _ _ _)
 try (case c3=>((try simp only [List.length_append]);(try simp only [List.length_cons]);(try simp only [List.length_nil]);unfold maxLen;omega))
 try (case c4=>((try simp only [List.length_append]);(try simp only [List.length_cons]);(try simp only [List.length_nil]);omega))
 try (case c5=>(have:=HW0.out.siz;simp;omega))
 intro v2 w2 hown hgrow _
 have HW2:=xhd ((HW0.out.more ((Below.refl _ _).alloc (Nat.le_refl _) _)).push (x:=(3,[123],0,0)) hown hgrow)
 obtain⟨ws2,hws⟩:∃l,ws0++[(3,[123],0,0)]=l:=⟨_,rfl⟩
 rw [hws] at HW2
 have hl2:ws2.length≤ws0.length+1:=by rw [←hws];simp
 have HWS2:=xhd hws
 clear hown hgrow hws
 go_wp2_with fail
 go_loopw [3,4] (fun v' i' wr=>∃(i:Nat) (v:Value) (ws:List Wd),v'=v∧i'= .int .i64 i∧i≤n∧ws.length≤3+4*i∧Hid (WI w wr v ws #[.bool false, .slice ao n cap])∧Hid (ws=headR false++(L.take i).flatMap opW)) (fun _ i' _=>n - (intOf i').toNat)
 case atStart=>exact⟨0,_,_,rfl,rfl,Nat.zero_le _,by omega,HW2,by unfold Hid;rw [←HWS2.out, ←HWS0.out];simp [headR]⟩
 case round=>
  obtain⟨i,v,ws,rfl,rfl,hi,hlen,HW,HE⟩:=hrel
  rename World=>wr
  clear p0 p1
  obtain⟨p0,p1⟩:=two_cells HW.out.box
  by_cases hlt:i < n
  ·have hlt':i < L.length:=by rw [HN.out];exact hlt
   have ha:=HA.out.below HW.out.bel
   obtain⟨rfl,hbl⟩:=ha.at_ (by omega)
   obtain⟨x0,x1,x2⟩:=ha.cells i hlt'
   have hk:=HS.out L[i] (List.getElem_mem hlt')
   have HNX:Hid (headR false++(L.take (i+1)).flatMap opW=ws++opW L[i]):=xhd (by rw [take_next hlt', ←HE.out])
   obtain⟨⟨k,a,c⟩,hx⟩:∃x,L[i]=x:=⟨_,rfl⟩
   rw [hx] at x0 x1 x2 hk HNX
   simp only at x0 x1 x2 hk
   obtain⟨lo,hi',hl⟩:∃lo hi,limR k=(lo,hi):=⟨_,_,rfl⟩
   have hl2:=fun W=>rlim_any k W
   simp only [hl] at hl2
   have HL:=xhd hl2
   obtain⟨tx,htx⟩:∃tx:ByteArray,⟨(nameR k).toArray⟩=tx:=⟨_,rfl⟩
   have hn1:=fun W=>rname_any k hk.1 hk.2 W
   simp only [htx] at hn1
   have HNM:=xhd hn1
   have HTX:=xhd htx
   have HOP:Hid (opW (k,a,c)=(1,nameR k,0,0)::((if 0≤lo then [(2,[],a,0)] else [])++((if k=5 then [(2,[],c,0)] else [])++[(3,[59],0,0)]))):=by
    unfold Hid opW
    simp only [hl]
   clear hx hk hl2 hn1 htx hl ha
   have HO0:Hid ((wr.alloc (.cells #[.int .i64 k, .int .i64 a, .int .i64 c] 142)).heap[wr.heap.size]?=some (.cells #[.int .i64 k, .int .i64 a, .int .i64 c] 142 (0,0))):=xhd (heap_alloc_new wr _)
   have HWB:=xhd (HW.out.more ((Below.refl _ _).alloc (Nat.le_refl _) (.cells #[.int .i64 k, .int .i64 a, .int .i64 c] 142)))
   go_wp2_with fail
   with_reducible refine (HNM.out _).mono ?_
   rintro e w2 ⟨rfl,hb2⟩
   have HW2:=xhd (HWB.out.more hb2)
   have HO2:=xhd ((hb2.block _ (lt_of_block HO0.out)).trans HO0.out)
   clear hb2
   go_wp2_with (at_builtin;refine wpList_append_own _ rfl _ _ 50 rfl w.heap.size 95 i0 (.agg #[.int .i64 0, .string ⟨#[]⟩, .int .i64 0, .int .i64 0]) 4 40 Tryz.underlying50 hi0 hz0 hz1 hz2 rfl (by decide) _ _ _ rfl (row_below HW2.out.row ((Below.refl _ _).alloc (Nat.le_refl _) _)) ⟨_,0,none⟩ 1 1 [.int .i64 1, .string tx, .int .i64 0, .int .i64 0] rfl rfl ?c1 ?c2 ?c3 ?c4 ?c5 ?_)
   try (case c1=>first|exact word_new _ _ _ _ _ _|exact word_at (by simp) _ _ _ _ _)
   try (case c2=>exact word_ones _ _ _ _)
   try (case c3=>((try simp only [List.length_append]);(try simp only [List.length_cons]);(try simp only [List.length_nil]);unfold maxLen;omega))
   try (case c4=>((try simp only [List.length_append]);(try simp only [List.length_cons]);(try simp only [List.length_nil]);omega))
   try (case c5=>(have:=HW2.out.siz;simp;omega))
   intro v3 w3 hown hgrow _
   have HW3:=xhd ((HW2.out.more ((Below.refl _ _).alloc (Nat.le_refl _) _)).push (x:=(1,nameR k,0,0)) (by rw [show wdC (1,nameR k,0,0)=[.int .i64 1, .string tx, .int .i64 0, .int .i64 0] by rw [←HTX.out];rfl];exact hown) hgrow)
   have HO3:=xhd ((HW2.out.more ((Below.refl _ _).alloc (Nat.le_refl _) _)).kept hgrow ((Below.heap_alloc _ _ _ (lt_of_block HO2.out)).trans HO2.out) (by decide))
   obtain⟨ws3,hws⟩:∃l,ws++[(1,nameR k,0,0)]=l:=⟨_,rfl⟩
   rw [hws] at HW3
   have hl3:ws3.length≤ws.length+1:=by rw [←hws];simp
   have HWS3:=xhd hws
   clear hown hgrow hws
   obtain⟨o0,o1,o2⟩:=op_cells HO3.out
   go_wp2_with fail
   with_reducible refine (HL.out _).mono ?_
   rintro e w5 ⟨rfl,rfl⟩
   by_cases hlo:0≤lo
   ·have HLO:=xhd hlo
    go_wp2_with (at_builtin;refine wpList_append_own _ rfl _ _ 50 rfl w.heap.size 95 i0 (.agg #[.int .i64 0, .string ⟨#[]⟩, .int .i64 0, .int .i64 0]) 4 40 Tryz.underlying50 hi0 hz0 hz1 hz2 rfl (by decide) _ _ _ rfl (row_below HW3.out.row ((Below.refl _ _).alloc (Nat.le_refl _) _)) ⟨_,0,none⟩ 1 1 [.int .i64 2, .string ⟨#[]⟩, .int .i64 a, .int .i64 0] rfl rfl ?c1 ?c2 ?c3 ?c4 ?c5 ?_)
    try (case c1=>first|exact word_new _ _ _ _ _ _|exact word_at (by simp) _ _ _ _ _)
    try (case c2=>exact word_ones _ _ _ _)
    try (case c3=>((try simp only [List.length_append]);(try simp only [List.length_cons]);(try simp only [List.length_nil]);unfold maxLen;omega))
    try (case c4=>((try simp only [List.length_append]);(try simp only [List.length_cons]);(try simp only [List.length_nil]);omega))
    try (case c5=>(have:=HW3.out.siz;simp;omega))
    intro v4 w4 hown hgrow _
    have HW4:=xhd ((HW3.out.more ((Below.refl _ _).alloc (Nat.le_refl _) _)).push (x:=(2,[],a,0)) hown hgrow)
    have HO4:=xhd ((HW3.out.more ((Below.refl _ _).alloc (Nat.le_refl _) _)).kept hgrow ((Below.heap_alloc _ _ _ (lt_of_block HO3.out)).trans HO3.out) (by decide))
    obtain⟨ws4,hws⟩:∃l,ws3++[(2,[],a,0)]=l:=⟨_,rfl⟩
    rw [hws] at HW4
    have hl4:ws4.length≤ws3.length+1:=by rw [←hws];simp
    have HWS4:=xhd hws
    clear hown hgrow hws
    clear o0 o1 o2
    obtain⟨o0,o1,o2⟩:=op_cells HO4.out
    by_cases h5:k=5
    ·have h5b:(k == 5)=true:=by simpa using h5
     have H5:=xhd h5
     clear h5
     go_wp2_with (at_builtin;refine wpList_append_own _ rfl _ _ 50 rfl w.heap.size 95 i0 (.agg #[.int .i64 0, .string ⟨#[]⟩, .int .i64 0, .int .i64 0]) 4 40 Tryz.underlying50 hi0 hz0 hz1 hz2 rfl (by decide) _ _ _ rfl (row_below HW4.out.row ((Below.refl _ _).alloc (Nat.le_refl _) _)) ⟨_,0,none⟩ 1 1 [.int .i64 2, .string ⟨#[]⟩, .int .i64 c, .int .i64 0] rfl rfl ?c1 ?c2 ?c3 ?c4 ?c5 ?_)
     try (case c1=>first|exact word_new _ _ _ _ _ _|exact word_at (by simp) _ _ _ _ _)
     try (case c2=>exact word_ones _ _ _ _)
     try (case c3=>((try simp only [List.length_append]);(try simp only [List.length_cons]);(try simp only [List.length_nil]);unfold maxLen;omega))
     try (case c4=>((try simp only [List.length_append]);(try simp only [List.length_cons]);(try simp only [List.length_nil]);omega))
     try (case c5=>(have:=HW4.out.siz;simp;omega))
     intro v5 w5 hown hgrow _
     have HW5:=xhd ((HW4.out.more ((Below.refl _ _).alloc (Nat.le_refl _) _)).push (x:=(2,[],c,0)) hown hgrow)
     obtain⟨ws5,hws⟩:∃l,ws4++[(2,[],c,0)]=l:=⟨_,rfl⟩
     rw [hws] at HW5
     have hl5:ws5.length≤ws4.length+1:=by rw [←hws];simp
     have HWS5:=xhd hws
     clear hown hgrow hws
     go_wp2_with (at_builtin;refine wpList_append_own _ rfl _ _ 50 rfl w.heap.size 95 i0 (.agg #[.int .i64 0, .string ⟨#[]⟩, .int .i64 0, .int .i64 0]) 4 40 Tryz.underlying50 hi0 hz0 hz1 hz2 rfl (by decide) _ _ _ rfl (row_below HW5.out.row ((Below.refl _ _).alloc (Nat.le_refl _) _)) ⟨_,0,none⟩ 1 1 [.int .i64 3, .string ⟨#[59]⟩, .int .i64 0, .int .i64 0] rfl rfl ?c1 ?c2 ?c3 ?c4 ?c5 ?_)
     try (case c1=>first|exact word_new _ _ _ _ _ _|exact word_at (by simp) _ _ _ _ _)
     try (case c2=>exact word_ones _ _ _ _)
     try (case c3=>((try simp only [List.length_append]);(try simp only [List.length_cons]);(try simp only [List.length_nil]);unfold maxLen;omega))
     try (case c4=>((try simp only [List.length_append]);(try simp only [List.length_cons]);(try simp only [List.length_nil]);omega))
     try (case c5=>(have:=HW5.out.siz;simp;omega))
     intro v6 w6 hown hgrow _
     have HW6:=xhd ((HW5.out.more ((Below.refl _ _).alloc (Nat.le_refl _) _)).push (x:=(3,[59],0,0)) hown hgrow)
     obtain⟨ws6,hws⟩:∃l,ws5++[(3,[59],0,0)]=l:=⟨_,rfl⟩
     rw [hws] at HW6
     have hl6:ws6.length≤ws5.length+1:=by rw [←hws];simp
     have HWS6:=xhd hws
     clear hown hgrow hws
     go_wp2
     go_roundw
     case rel=>exact⟨i+1,_,_,rfl,by go_num,by omega,by omega,HW6,by unfold Hid;rw [HNX.out,HOP.out,if_pos HLO.out,if_pos H5.out, ←HWS6.out, ←HWS5.out, ←HWS4.out, ←HWS3.out];simp⟩
     case measure=>simp [intOf];omega
    ·have h5b:(k == 5)=false:=by simpa using h5
     have H5:=xhd h5
     clear h5
     go_wp2_with (at_builtin;refine wpList_append_own _ rfl _ _ 50 rfl w.heap.size 95 i0 (.agg #[.int .i64 0, .string ⟨#[]⟩, .int .i64 0, .int .i64 0]) 4 40 Tryz.underlying50 hi0 hz0 hz1 hz2 rfl (by decide) _ _ _ rfl (row_below HW4.out.row ((Below.refl _ _).alloc (Nat.le_refl _) _)) ⟨_,0,none⟩ 1 1 [.int .i64 3, .string ⟨#[59]⟩, .int .i64 0, .int .i64 0] rfl rfl ?c1 ?c2 ?c3 ?c4 ?c5 ?_)
     try (case c1=>first|exact word_new _ _ _ _ _ _|exact word_at (by simp) _ _ _ _ _)
     try (case c2=>exact word_ones _ _ _ _)
     try (case c3=>((try simp only [List.length_append]);(try simp only [List.length_cons]);(try simp only [List.length_nil]);unfold maxLen;omega))
     try (case c4=>((try simp only [List.length_append]);(try simp only [List.length_cons]);(try simp only [List.length_nil]);omega))
     try (case c5=>(have:=HW4.out.siz;simp;omega))
     intro v6 w6 hown hgrow _
     have HW6:=xhd ((HW4.out.more ((Below.refl _ _).alloc (Nat.le_refl _) _)).push (x:=(3,[59],0,0)) hown hgrow)
     obtain⟨ws6,hws⟩:∃l,ws4++[(3,[59],0,0)]=l:=⟨_,rfl⟩
     rw [hws] at HW6
     have hl6:ws6.length≤ws4.length+1:=by rw [←hws];simp
     have HWS6:=xhd hws
     clear hown hgrow hws
     go_wp2
     go_roundw
     case rel=>exact⟨i+1,_,_,rfl,by go_num,by omega,by omega,HW6,by unfold Hid;rw [HNX.out,HOP.out,if_pos HLO.out,if_neg H5.out, ←HWS6.out, ←HWS4.out, ←HWS3.out];simp⟩
     case measure=>simp [intOf];omega
   ·have HLO:=xhd hlo
    by_cases h5:k=5
    ·have h5b:(k == 5)=true:=by simpa using h5
     have H5:=xhd h5
     clear h5
     go_wp2_with (at_builtin;refine wpList_append_own _ rfl _ _ 50 rfl w.heap.size 95 i0 (.agg #[.int .i64 0, .string ⟨#[]⟩, .int .i64 0, .int .i64 0]) 4 40 Tryz.underlying50 hi0 hz0 hz1 hz2 rfl (by decide) _ _ _ rfl (row_below HW3.out.row ((Below.refl _ _).alloc (Nat.le_refl _) _)) ⟨_,0,none⟩ 1 1 [.int .i64 2, .string ⟨#[]⟩, .int .i64 c, .int .i64 0] rfl rfl ?c1 ?c2 ?c3 ?c4 ?c5 ?_)
     try (case c1=>first|exact word_new _ _ _ _ _ _|exact word_at (by simp) _ _ _ _ _)
     try (case c2=>exact word_ones _ _ _ _)
     try (case c3=>((try simp only [List.length_append]);(try simp only [List.length_cons]);(try simp only [List.length_nil]);unfold maxLen;omega))
     try (case c4=>((try simp only [List.length_append]);(try simp only [List.length_cons]);(try simp only [List.length_nil]);omega))
     try (case c5=>(have:=HW3.out.siz;simp;omega))
     intro v5 w5 hown hgrow _
     have HW5:=xhd ((HW3.out.more ((Below.refl _ _).alloc (Nat.le_refl _) _)).push (x:=(2,[],c,0)) hown hgrow)
     obtain⟨ws5,hws⟩:∃l,ws3++[(2,[],c,0)]=l:=⟨_,rfl⟩
     rw [hws] at HW5
     have hl5:ws5.length≤ws3.length+1:=by rw [←hws];simp
     have HWS5:=xhd hws
     clear hown hgrow hws
     go_wp2_with (at_builtin;refine wpList_append_own _ rfl _ _ 50 rfl w.heap.size 95 i0 (.agg #[.int .i64 0, .string ⟨#[]⟩, .int .i64 0, .int .i64 0]) 4 40 Tryz.underlying50 hi0 hz0 hz1 hz2 rfl (by decide) _ _ _ rfl (row_below HW5.out.row ((Below.refl _ _).alloc (Nat.le_refl _) _)) ⟨_,0,none⟩ 1 1 [.int .i64 3, .string ⟨#[59]⟩, .int .i64 0, .int .i64 0] rfl rfl ?c1 ?c2 ?c3 ?c4 ?c5 ?_)
     try (case c1=>first|exact word_new _ _ _ _ _ _|exact word_at (by simp) _ _ _ _ _)
     try (case c2=>exact word_ones _ _ _ _)
     try (case c3=>((try simp only [List.length_append]);(try simp only [List.length_cons]);(try simp only [List.length_nil]);unfold maxLen;omega))
     try (case c4=>((try simp only [List.length_append]);(try simp only [List.length_cons]);(try simp only [List.length_nil]);omega))
     try (case c5=>(have:=HW5.out.siz;simp;omega))
     intro v6 w6 hown hgrow _
     have HW6:=xhd ((HW5.out.more ((Below.refl _ _).alloc (Nat.le_refl _) _)).push (x:=(3,[59],0,0)) hown hgrow)
     obtain⟨ws6,hws⟩:∃l,ws5++[(3,[59],0,0)]=l:=⟨_,rfl⟩
     rw [hws] at HW6
     have hl6:ws6.length≤ws5.length+1:=by rw [←hws];simp
     have HWS6:=xhd hws
     clear hown hgrow hws
     go_wp2
     go_roundw
     case rel=>exact⟨i+1,_,_,rfl,by go_num,by omega,by omega,HW6,by unfold Hid;rw [HNX.out,HOP.out,if_neg (c:=0≤lo) (by have:=HLO.out;omega),if_pos H5.out, ←HWS6.out, ←HWS5.out, ←HWS3.out];simp⟩
     case measure=>simp [intOf];omega
    ·have h5b:(k == 5)=false:=by simpa using h5
     have H5:=xhd h5
     clear h5
     go_wp2_with (at_builtin;refine wpList_append_own _ rfl _ _ 50 rfl w.heap.size 95 i0 (.agg #[.int .i64 0, .string ⟨#[]⟩, .int .i64 0, .int .i64 0]) 4 40 Tryz.underlying50 hi0 hz0 hz1 hz2 rfl (by decide) _ _ _ rfl (row_below HW3.out.row ((Below.refl _ _).alloc (Nat.le_refl _) _)) ⟨_,0,none⟩ 1 1 [.int .i64 3, .string ⟨#[59]⟩, .int .i64 0, .int .i64 0] rfl rfl ?c1 ?c2 ?c3 ?c4 ?c5 ?_)
     try (case c1=>first|exact word_new _ _ _ _ _ _|exact word_at (by simp) _ _ _ _ _)
     try (case c2=>exact word_ones _ _ _ _)
     try (case c3=>((try simp only [List.length_append]);(try simp only [List.length_cons]);(try simp only [List.length_nil]);unfold maxLen;omega))
     try (case c4=>((try simp only [List.length_append]);(try simp only [List.length_cons]);(try simp only [List.length_nil]);omega))
     try (case c5=>(have:=HW3.out.siz;simp;omega))
     intro v6 w6 hown hgrow _
     have HW6:=xhd ((HW3.out.more ((Below.refl _ _).alloc (Nat.le_refl _) _)).push (x:=(3,[59],0,0)) hown hgrow)
     obtain⟨ws6,hws⟩:∃l,ws3++[(3,[59],0,0)]=l:=⟨_,rfl⟩
     rw [hws] at HW6
     have hl6:ws6.length≤ws3.length+1:=by rw [←hws];simp
     have HWS6:=xhd hws
     clear hown hgrow hws
     go_wp2
     go_roundw
     case rel=>exact⟨i+1,_,_,rfl,by go_num,by omega,by omega,HW6,by unfold Hid;rw [HNX.out,HOP.out,if_neg (c:=0≤lo) (by have:=HLO.out;omega),if_neg H5.out, ←HWS6.out, ←HWS3.out];simp⟩
     case measure=>simp [intOf];omega
  ·have hin:i=n:=by omega
   have HEND:Hid (ws++[(3,[125],0,0)]=R):=xhd (by
    have e:L.take i=L:=List.take_of_length_le (by rw [HN.out];omega)
    rw [HE.out,e]
    exact HR.out)
   go_wp2_with (at_builtin;refine wpList_append_own _ rfl _ _ 50 rfl w.heap.size 95 i0 (.agg #[.int .i64 0, .string ⟨#[]⟩, .int .i64 0, .int .i64 0]) 4 40 Tryz.underlying50 hi0 hz0 hz1 hz2 rfl (by decide) _ _ _ rfl (row_below HW.out.row ((Below.refl _ _).alloc (Nat.le_refl _) _)) ⟨_,0,none⟩ 1 1 [.int .i64 3, .string ⟨#[125]⟩, .int .i64 0, .int .i64 0] rfl rfl ?c1 ?c2 ?c3 ?c4 ?c5 ?_)
   try (case c1=>first|exact word_new _ _ _ _ _ _|exact word_at (by simp) _ _ _ _ _)
   try (case c2=>exact word_ones _ _ _ _)
   try (case c3=>((try simp only [List.length_append]);(try simp only [List.length_cons]);(try simp only [List.length_nil]);unfold maxLen;omega))
   try (case c4=>((try simp only [List.length_append]);(try simp only [List.length_cons]);(try simp only [List.length_nil]);omega))
   try (case c5=>(have:=HW.out.siz;simp;omega))
   intro v9 w9 hown hgrow _
   have HW9:=xhd ((HW.out.more ((Below.refl _ _).alloc (Nat.le_refl _) _)).push (x:=(3,[125],0,0)) hown hgrow)
   obtain⟨ws9,hws⟩:∃l,ws++[(3,[125],0,0)]=l:=⟨_,rfl⟩
   rw [hws] at HW9
   have hl9:ws9.length≤ws.length+1:=by rw [←hws];simp
   have HWS9:=xhd hws
   clear hown hgrow hws
   go_wp2
   go_ret
   exact⟨_,rfl,(HWS9.out.symm.trans HEND.out) ▸ HW9.out.row,HW9.out.bel⟩
theorem rwords_any (f:Bool) (ao:Option Addr) (b off cap:Nat) (L:List Opn) (w:World) (h:OArg w ao b off L) (hm:L.length≤100000) (hs:∀x ∈ L,small x.1):
  Calls Tryz.prog 59 #[prgV f ao L.length cap] w (WordsP (wordsR (f,L)) w):=by
 cases f with
 |true=>exact rwords_t ao b off cap L w h hm hs
 |false=>exact rwords_f ao b off cap L w h hm hs
theorem acname_short (k:Int):(acName k).length≤40:=by
 by_cases h:acName k=[]
 ·rw [h];decide
 ·rcases ac_kinds h with h|h|h|h|h|h|h|h<;>subst h<;>decide
theorem acw_short (a:Ac):∀x ∈ acW a,x.2.1.length≤40:=by
 intro x hx
 unfold acW acTail at hx
 simp only [List.mem_cons,List.mem_append,List.mem_map,List.not_mem_nil,or_false] at hx
 rcases hx with rfl|⟨n,_,rfl⟩ |rfl
 ·exact acname_short a.1
 ·simp [numW]
 ·simp
theorem neq_ops (a1 b1 c1 a2 b2 c2:Int):((a1,b1,c1):Opn)≠(a2,b2,c2)→¬(a1=a2∧b1=b2∧c1=c2):=by
 rintro h ⟨rfl,rfl,rfl⟩
 exact h rfl
theorem ops_eq {A B:List Opn} (hl:A.length=B.length) (h:∀i (h1:i < A.length) (h2:i < B.length),A[i]=B[i]):A=B:=List.ext_getElem hl h
def eqR (p q:Prg):Bool:=decide (p=q)
theorem rsame_any (f g:Bool) (ao1 ao2:Option Addr) (b1 o1 b2 o2 c1 c2:Nat) (A B:List Opn) (w:World) (hA:OArg w ao1 b1 o1 A) (hB:OArg w ao2 b2 o2 B) (hm:A.length≤100000) (hm2:B.length≤100000):
  Calls Tryz.prog 69 #[prgV f ao1 A.length c1,prgV g ao2 B.length c2] w fun e w'=>e= .returned (.bool (eqR (f,A) (g,B)))∧Below w.heap.size w w':=by
 have HA:=xhd hA
 have HB:=xhd hB
 obtain⟨n,hn⟩:∃n,A.length=n:=⟨_,rfl⟩
 obtain⟨m,hm'⟩:∃m,B.length=m:=⟨_,rfl⟩
 have HN:=xhd hn
 have HM:=xhd hm'
 rw [hn] at hm ⊢
 rw [hm'] at hm2 ⊢
 clear hA hB hn hm'
 by_cases hfg:f=g
 ·subst hfg
  by_cases hnm:n=m
  ·subst hnm
   obtain⟨r,hr⟩:∃r,eqR (f,A) (f,B)=r:=⟨_,rfl⟩
   have HR:=xhd hr
   rw [hr]
   clear hr
   have hff:(f != f)=false:=by simp
   go_enter Tryz.func69,Tryz.ntmps69
   go_wp2
   go_loopw [5] (fun i' wr=>∃i:Nat,i≤n∧i'= .int .i64 i∧Hid (Below w.heap.size w wr)∧wr.cell? ⟨w.heap.size,1,none⟩=some (.slice ao1 n c1)∧wr.cell? ⟨w.heap.size+1,1,none⟩=some (.slice ao2 n c2)∧Hid (∀j (h1:j < A.length) (h2:j < B.length),j < i→A[j]=B[j])) (fun i' _=>n - (intOf i').toNat)
   case atStart=>exact⟨0,Nat.zero_le _,rfl,((Below.refl _ w).alloc (Nat.le_refl _) _).alloc (by simp) _,by simp,by simp,fun j _ _ hj=>absurd hj (Nat.not_lt_zero _)⟩
   case round=>
    obtain⟨i,hi,rfl,HW,d1,d2,HO⟩:=hrel
    by_cases hlt:i < n
    ·have h1:i < A.length:=by rw [HN.out];exact hlt
     have h2:i < B.length:=by rw [HM.out];exact hlt
     have hA:=HA.out.below HW.out
     have hB:=HB.out.below HW.out
     obtain⟨rfl,hb1⟩:=hA.at_ (by omega)
     obtain⟨rfl,hb2⟩:=hB.at_ (by omega)
     obtain⟨x0,x1,x2⟩:=hA.cells i h1
     obtain⟨y0,y1,y2⟩:=hB.cells i h2
     by_cases heq:A[i]=B[i]
     ·have HO2:Hid (∀j (h1:j < A.length) (h2:j < B.length),j < i+1→A[j]=B[j]):=xhd (fun j k1 k2 hji=>by
        rcases Nat.lt_or_ge j i with h|h
        ·exact HO.out j k1 k2 h
        ·have:j=i:=by omega
         subst this
         exact heq)
      rw [←heq] at y0 y1 y2
      obtain⟨⟨k,a,c⟩,hx⟩:∃x,A[i]=x:=⟨_,rfl⟩
      rw [hx] at x0 x1 x2 y0 y1 y2
      simp only at x0 x1 x2 y0 y1 y2
      clear hx heq hA hB
      go_wp2_with fail
      go_quiet (fail)
      go_wp2
      go_roundw
      case rel=>exact⟨i+1,by omega,by go_num,xhd (below_drewN HW.out _),d1,d2,HO2⟩
      case measure=>simp [intOf];omega
     ·have HE:Hid (r=false):=xhd (HR.out.symm.trans (by
        unfold eqR
        simp only [decide_eq_false_iff_not,Prod.mk.injEq,true_and]
        intro h
        apply heq
        have:∀(C:List Opn) (h:A=C) (h2:i < C.length),A[i]=C[i]:=by rintro C rfl h2;rfl
        exact this B h h2))
      obtain⟨⟨k,a,c⟩,hx⟩:∃x,A[i]=x:=⟨_,rfl⟩
      obtain⟨⟨k2,a2,c2'⟩,hy⟩:∃x,B[i]=x:=⟨_,rfl⟩
      rw [hx] at x0 x1 x2 heq
      rw [hy] at y0 y1 y2 heq
      simp only at x0 x1 x2 y0 y1 y2
      have hne:=neq_ops _ _ _ _ _ _ heq
      clear hx hy heq hA hB
      have hw:k≠k2∨(k=k2∧a≠a2)∨(k=k2∧a=a2∧c≠c2'):=by omega
      clear hne
      rcases hw with hw|⟨rfl,hw⟩ |⟨rfl,rfl,hw⟩
      ·have hwb:(k == k2)=false:=by simpa using hw
       go_wp2_with fail
       go_quiet (fail)
       go_wp2
       go_ret
       exact⟨congrArg (fun x=>Ending.returned (.bool x)) HE.out.symm,below_drewN HW.out _⟩
      ·have hwb:(a == a2)=false:=by simpa using hw
       go_wp2_with fail
       go_quiet (fail)
       go_wp2
       go_ret
       exact⟨congrArg (fun x=>Ending.returned (.bool x)) HE.out.symm,below_drewN HW.out _⟩
      ·have hwb:(c == c2')=false:=by simpa using hw
       go_wp2_with fail
       go_quiet (fail)
       go_wp2
       go_ret
       exact⟨congrArg (fun x=>Ending.returned (.bool x)) HE.out.symm,below_drewN HW.out _⟩
    ·have HE:Hid (r=true):=xhd (HR.out.symm.trans (by
       unfold eqR
       simp only [decide_eq_true_eq,Prod.mk.injEq,true_and]
       exact ops_eq (HN.out.trans HM.out.symm) (fun j k1 k2=>HO.out j k1 k2 (by have:=HN.out;omega))))
     go_wp2
     go_ret
     exact⟨congrArg (fun x=>Ending.returned (.bool x)) HE.out.symm,HW.out⟩
  ·have e:eqR (f,A) (f,B)=false:=by
     unfold eqR
     simp only [decide_eq_false_iff_not,Prod.mk.injEq,true_and]
     rintro rfl
     exact hnm (HN.out.symm.trans HM.out)
   rw [e]
   have hnb:((n:Int) == m)=false:=by simp;omega
   have hff:(f != f)=false:=by simp
   go_enter Tryz.func69,Tryz.ntmps69
   go_wp2
   go_ret
   refine⟨rfl,?_⟩
   exact ((Below.refl _ w).alloc (Nat.le_refl _) _).alloc (by simp) _
 ·have e:eqR (f,A) (g,B)=false:=by
    unfold eqR
    simp only [decide_eq_false_iff_not,Prod.mk.injEq]
    exact fun h=>hfg h.1
  rw [e]
  have hfg2:(f != g)=true:=by simpa using hfg
  go_enter Tryz.func69,Tryz.ntmps69
  go_wp2
  go_ret
  refine⟨rfl,?_⟩
  exact ((Below.refl _ w).alloc (Nat.le_refl _) _).alloc (by simp) _
theorem neq_opv (x y:Opn) (W:World):(binOp .neq 142 (.agg #[.int .i64 x.1, .int .i64 x.2.1, .int .i64 x.2.2]) (.agg #[.int .i64 y.1, .int .i64 y.2.1, .int .i64 y.2.2])).run Tryz.prog W= .ok (.bool (!decide (x=y))) W:=by
 obtain⟨a,b,c⟩:=x
 obtain⟨a',b',c'⟩:=y
 simp only
 by_cases h1:a=a'
 ·subst h1
  by_cases h2:b=b'
  ·subst h2
   by_cases h3:c=c'
   ·subst h3
    rw [decide_eq_true rfl]
    go_simp
   ·have e:decide ((a,b,c)=((a,b,c'):Opn))=false:=by simp [h3]
    rw [e]
    have q:(c == c')=false:=by simpa using h3
    go_simp
  ·have e:decide ((a,b,c)=((a,b',c'):Opn))=false:=by simp [h2]
   rw [e]
   have q:(b == b')=false:=by simpa using h2
   go_simp
 ·have e:decide ((a,b,c)=((a',b',c'):Opn))=false:=by simp [h1]
  rw [e]
  have q:(a == a')=false:=by simpa using h1
  go_simp
theorem equal_any (ao1 ao2:Option Addr) (b1 o1 b2 o2 c1 c2:Nat) (A B:List Opn) (w:World) (hA:OArg w ao1 b1 o1 A) (hB:OArg w ao2 b2 o2 B) (hm:A.length≤100000) (hm2:B.length≤100000):
  Calls Tryz.prog 140 #[.slice ao1 A.length c1, .slice ao2 B.length c2] w fun e w'=>e= .returned (.bool (decide (A=B)))∧Below w.heap.size w w':=by
 have HA:=xhd hA
 have HB:=xhd hB
 obtain⟨n,hn⟩:∃n,A.length=n:=⟨_,rfl⟩
 obtain⟨m,hm'⟩:∃m,B.length=m:=⟨_,rfl⟩
 have HN:=xhd hn
 have HM:=xhd hm'
 rw [hn] at hm ⊢
 rw [hm'] at hm2 ⊢
 clear hA hB hn hm'
 by_cases hnm:n=m
 ·subst hnm
  obtain⟨r,hr⟩:∃r,decide (A=B)=r:=⟨_,rfl⟩
  have HR:=xhd hr
  rw [hr]
  clear hr
  go_enter Tryz.func140,Tryz.ntmps140
  go_wp2
  go_loopw [13] (fun i' wr=>∃i:Nat,i≤n∧i'= .int .i64 i∧Hid (Below w.heap.size w wr)∧Hid (∀j (h1:j < A.length) (h2:j < B.length),j < i→A[j]=B[j])) (fun i' _=>n - (intOf i').toNat)
  case atStart=>exact⟨0,Nat.zero_le _,rfl,Below.refl _ w,fun j _ _ hj=>absurd hj (Nat.not_lt_zero _)⟩
  case round=>
   obtain⟨i,hi,rfl,HW,HO⟩:=hrel
   by_cases hlt:i < n
   ·have h1:i < A.length:=by rw [HN.out];exact hlt
    have h2:i < B.length:=by rw [HM.out];exact hlt
    have hA:=HA.out.below HW.out
    have hB:=HB.out.below HW.out
    obtain⟨rfl,hb1⟩:=hA.at_ (by omega)
    obtain⟨rfl,hb2⟩:=hB.at_ (by omega)
    obtain⟨x0,x1,x2⟩:=hA.cells i h1
    obtain⟨y0,y1,y2⟩:=hB.cells i h2
    have hne:=fun W=>neq_opv A[i] B[i] W
    obtain⟨q,hq⟩:∃q,decide (A[i]=B[i])=q:=⟨_,rfl⟩
    rw [hq] at hne
    have HQ:=xhd hq
    obtain⟨⟨k,a,c⟩,hx⟩:∃x,A[i]=x:=⟨_,rfl⟩
    obtain⟨⟨k2,a2,c2'⟩,hy⟩:∃x,B[i]=x:=⟨_,rfl⟩
    rw [hx] at x0 x1 x2 hne
    rw [hy] at y0 y1 y2 hne
    simp only at x0 x1 x2 y0 y1 y2 hne
    clear hx hy hA hB hq
    cases q with
    |true=>
     have HO2:Hid (∀j (h1:j < A.length) (h2:j < B.length),j < i+1→A[j]=B[j]):=xhd (fun j k1 k2 hji=>by
      rcases Nat.lt_or_ge j i with h|h
      ·exact HO.out j k1 k2 h
      ·have:j=i:=by omega
       subst this
       exact of_decide_eq_true HQ.out)
     go_wp2_with fail
     go_quiet (fail)
     go_wp2
     go_roundw
     case rel=>exact⟨i+1,by omega,by go_num,xhd (below_drewN HW.out _),HO2⟩
     case measure=>simp [intOf];omega
    |false=>
     have HE:Hid (r=false):=xhd (HR.out.symm.trans (by
      simp only [decide_eq_false_iff_not]
      intro h
      have:∀(C:List Opn) (h:A=C) (h2:i < C.length),A[i]=C[i]:=by rintro C rfl h2;rfl
      exact of_decide_eq_false HQ.out (this B h h2)))
     go_wp2_with fail
     go_quiet (fail)
     go_wp2
     go_ret
     exact⟨congrArg (fun x=>Ending.returned (.bool x)) HE.out.symm,below_drewN HW.out _⟩
   ·have HE:Hid (r=true):=xhd (HR.out.symm.trans (by
      simp only [decide_eq_true_eq]
      exact ops_eq (HN.out.trans HM.out.symm) (fun j k1 k2=>HO.out j k1 k2 (by have:=HN.out;omega))))
    go_wp2
    go_ret
    exact⟨congrArg (fun x=>Ending.returned (.bool x)) HE.out.symm,HW.out⟩
 ·have e:decide (A=B)=false:=by
    simp only [decide_eq_false_iff_not]
    rintro rfl
    exact hnm (HN.out.symm.trans HM.out)
  rw [e]
  have hnb:((n:Int) == m)=false:=by simp;omega
  go_enter Tryz.func140,Tryz.ntmps140
  go_wp2
  go_ret
  exact⟨rfl,Below.refl _ w⟩
theorem psame_any (f g:Bool) (ao1 ao2:Option Addr) (b1 o1 b2 o2 c1 c2:Nat) (A B:List Opn) (w:World) (hA:OArg w ao1 b1 o1 A) (hB:OArg w ao2 b2 o2 B) (hm:A.length≤100000) (hm2:B.length≤100000):
  Calls Tryz.prog 73 #[prgV f ao1 A.length c1,prgV g ao2 B.length c2] w fun e w'=>e= .returned (.bool (eqR (f,A) (g,B)))∧Below w.heap.size w w':=by
 have hb0:Below w.heap.size w ((w.alloc (.cells #[.bool f, .slice ao1 A.length c1] 49)).alloc (.cells #[.bool g, .slice ao2 B.length c2] 49)):=((Below.refl _ w).alloc (Nat.le_refl _) _).alloc (by simp) _
 have he:=equal_any ao1 ao2 b1 o1 b2 o2 c1 c2 A B _ (hA.below hb0) (hB.below hb0) hm hm2
 have HB0:=xhd hb0
 have e:eqR (f,A) (g,B)=((f == g)&&decide (A=B)):=by
  unfold eqR
  rw [Bool.eq_iff_iff]
  simp
 rw [e]
 obtain⟨r,hr⟩:∃r,decide (A=B)=r:=⟨_,rfl⟩
 rw [hr] at he ⊢
 obtain⟨n,hn⟩:∃n,A.length=n:=⟨_,rfl⟩
 obtain⟨m,hm'⟩:∃m,B.length=m:=⟨_,rfl⟩
 rw [hn,hm'] at he HB0 ⊢
 have HE:=xhd he
 clear he hA hB e hr hn hm' hm hm2 hb0
 cases hfg:(f == g) with
 |true=>
  go_enter Tryz.func73,Tryz.ntmps73
  go_wp2_with fail
  with_reducible refine HE.out.mono ?_
  rintro e w1 ⟨rfl,hb1⟩
  have HB1:=xhd (HB0.out.trans (hb1.mono HB0.out.size))
  clear hb1
  go_wp2
  go_ret
  exact⟨by simp,HB1.out⟩
 |false=>
  go_enter Tryz.func73,Tryz.ntmps73
  go_wp2
  go_ret
  exact⟨rfl,HB0.out⟩
theorem eql_act_self (k x0 x1 x2 x3:Int) (W:World):(Op.equalIn 10000 73 (.agg #[.int .i64 k, .int .i64 x0, .int .i64 x1, .int .i64 x2, .int .i64 x3]) (.agg #[.int .i64 k, .int .i64 x0, .int .i64 x1, .int .i64 x2, .int .i64 x3])).run Tryz.prog W= .ok true W:=by
 have h0:(k == k)=true:=by simp
 have h1:(x0 == x0)=true:=by simp
 have h2:(x1 == x1)=true:=by simp
 have h3:(x2 == x2)=true:=by simp
 have h4:(x3 == x3)=true:=by simp
 go_simp
theorem neq_act_self (k x0 x1 x2 x3:Int) (W:World):(binOp .neq 73 (.agg #[.int .i64 k, .int .i64 x0, .int .i64 x1, .int .i64 x2, .int .i64 x3]) (.agg #[.int .i64 k, .int .i64 x0, .int .i64 x1, .int .i64 x2, .int .i64 x3])).run Tryz.prog W= .ok (.bool false) W:=by
 rw [run_neq_struct,eql_act_self]
 rfl
theorem rasame_any (ao1 ao2:Option Addr) (b1 o1 b2 o2 c1 c2:Nat) (L:List Ac) (w:World) (hA:AArg w ao1 b1 o1 L) (hB:AArg w ao2 b2 o2 L) (hm:L.length≤1000000):
  Calls Tryz.prog 16 #[.slice ao1 L.length c1, .slice ao2 L.length c2] w fun e w'=>e= .returned (.bool true)∧∃n,w'=w.drewN n:=by
 have HA:=xhd hA
 have HB:=xhd hB
 obtain⟨n,hn⟩:∃n,L.length=n:=⟨_,rfl⟩
 have HN:=xhd hn
 rw [hn] at hm ⊢
 clear hA hB hn
 go_enter Tryz.func16,Tryz.ntmps16
 go_wp2
 go_loopw [5] (fun i' wr=>∃i d:Nat,i≤n∧i'= .int .i64 i∧wr=w.drewN d) (fun i' _=>n - (intOf i').toNat)
 case atStart=>exact⟨0,0,Nat.zero_le _,rfl,rfl⟩
 case round=>
  obtain⟨i,d,hi,rfl,rfl⟩:=hrel
  by_cases hlt:i < n
  ·have h1:i < L.length:=by rw [HN.out];exact hlt
   obtain⟨rfl,hb1⟩:=HA.out.at_ (by omega)
   obtain⟨rfl,hb2⟩:=HB.out.at_ (by omega)
   obtain⟨x0,x1,x2,x3,x4⟩:=HA.out.cells i h1
   obtain⟨y0,y1,y2,y3,y4⟩:=HB.out.cells i h1
   obtain⟨⟨k,z0,z1,z2,z3⟩,hz⟩:∃x,L[i]=x:=⟨_,rfl⟩
   simp only [hz] at x0 x1 x2 x3 x4 y0 y1 y2 y3 y4
   have hq:=fun W=>neq_act_self k z0 z1 z2 z3 W
   clear hz
   go_wp2_with fail
   go_quiet (fail)
   go_wp2
   go_roundw
   case rel=>exact⟨i+1,_,by omega,by go_num,rfl⟩
   case measure=>simp [intOf];omega
  ·go_wp2
   go_ret
   exact⟨rfl,d,rfl⟩
end Go.Proofs.YtbnhnnccioljhaaGreatDoor
