/-
  The document's Words of setups. (Made by gen_ruwords.py.)
-/
import Derived.Test.YtbnhnnccioljhaaGreatDoorZAW
import Derived.Test.YtbnhnnccioljhaaGreatDoorZAX
import Derived.Test.YtbnhnnccioljhaaGreatDoorZAE
import Derived.Test.YtbnhnnccioljhaaGreatDoorZAS
import Derived.Test.YtbnhnnccioljhaaGreatDoorZAK
import Derived.Deep.CutRange
import Derived.Deep.CutBlock
import Derived.Deep.RegionHeld3
import Derived.Test.YtbnhnnccioljhaaGreatDoorZAl
set_option maxRecDepth 100000
set_option maxHeartbeats 25600000
namespace Go.Proofs.YtbnhnnccioljhaaGreatDoor
open Go.RowKit Go.Maps
structure WsI (w wr:World) (cs:Array Value) (v:Value) (ws:List Wd):Prop where
 row:WRow (w.heap.size+2) wr v ws
 bx:wr.heap[w.heap.size]?=some (.cells cs 26 (0,0))
 en:wr.heap[w.heap.size+1]?=some (.cells #[.int .i64 3, .string ⟨#[59]⟩, .int .i64 0, .int .i64 0] 95 (0,0))
 bel:Below w.heap.size w wr
section
variable {w wr wr':World} {cs:Array Value} {v v':Value} {ws ws':List Wd}
theorem WsI.siz (h:WsI w wr cs v ws):w.heap.size+2≤wr.heap.size:=lt_of_block h.en
theorem WsI.below (h:WsI w wr cs v ws) (hb:Below wr.heap.size wr wr'):WsI w wr' cs v ws:=
 ⟨row_below h.row hb,(hb.block _ (lt_of_block h.bx)).trans h.bx,(hb.block _ (lt_of_block h.en)).trans h.en,h.bel.trans (hb.mono h.bel.size)⟩
theorem WsI.own (h:WsI w wr cs v ws):∀k,v.ownBlock=some k→w.heap.size+2≤k:=fun k hk=>(h.row.lt k (by simp [hk])).1
theorem WsI.grown (h:WsI w wr cs v ws) (hr:WRow (w.heap.size+2) wr' v' ws') (hg:wr.grownBy wr' v.ownBlock):WsI w wr' cs v' ws':=by
 have hz:=h.siz
 exact⟨hr,(hg.block _ (lt_of_block h.bx) (fun e=>by have:=h.own _ e.symm;omega)).trans h.bx,(hg.block _ (lt_of_block h.en) (fun e=>by have:=h.own _ e.symm;omega)).trans h.en,h.bel.grown hg h.bel.size (fun k hk=>by have:=h.own k hk;omega)⟩
theorem WsI.push (h:WsI w wr cs v ws) {x:Wd} (hown:wr'.ownsRow 0 95 4 v' (ws.length+1) (wdsC ws++wdC x)) (hg:wr.grownBy wr' v.ownBlock) (hnew:∀q ∈ v'.ownBlock.toList,q ∈ v.ownBlock.toList∨wr.heap.size≤q):WsI w wr' cs v' (ws++[x]):=by
 refine h.grown ?_ hg
 unfold WRow
 rw [wdsC_snoc,List.length_append,List.length_singleton]
 refine⟨hown.1,?_⟩
 rcases hown.2 with h2|⟨q,cap,cur,rfl,_,hq,rest⟩
 ·exact .inl h2
 ·refine .inr ⟨q,cap,cur,rfl,?_,hq,rest⟩
  rcases hnew q (by simp [Value.ownBlock]) with h1|h1
  ·exact h.own q (by simpa using h1)
  ·have:=h.siz
   omega
theorem WsI.pushl (h:WsI w wr cs v ws) {xs:List Wd} (hown:wr'.ownsRow 0 95 4 v' (ws.length+xs.length) (wdsC ws++wdsC xs)) (hg:wr.grownBy wr' v.ownBlock) (hnew:∀q ∈ v'.ownBlock.toList,q ∈ v.ownBlock.toList∨wr.heap.size≤q):WsI w wr' cs v' (ws++xs):=by
 refine h.grown ?_ hg
 unfold WRow
 rw [wdsC,List.flatMap_append,List.length_append]
 refine⟨hown.1,?_⟩
 rcases hown.2 with h2|⟨q,cap,cur,rfl,_,hq,rest⟩
 ·exact .inl h2
 ·refine .inr ⟨q,cap,cur,rfl,?_,hq,rest⟩
  rcases hnew q (by simp [Value.ownBlock]) with h1|h1
  ·exact h.own q (by simpa using h1)
  ·have:=h.siz
   omega
theorem WsI.end_ (h:WsI w wr cs v ws):wr.cell? ⟨w.heap.size+1,0,none⟩=some (.int .i64 3)∧wr.cell? ⟨w.heap.size+1,1,none⟩=some (.string ⟨#[59]⟩)∧wr.cell? ⟨w.heap.size+1,2,none⟩=some (.int .i64 0)∧wr.cell? ⟨w.heap.size+1,3,none⟩=some (.int .i64 0):=word_cells h.en
end
structure WlI (w wr:World) (cs:Array Value) (K:Nat) (x:Lk) (v:Value) (ws:List Wd):Prop where
 i:WsI w wr cs v ws
 k:wr.heap[K]?=some (.cells #[.bool x.1, .int .i64 x.2.1, .int .i64 x.2.2.1, .int .i64 x.2.2.2.1, .int .i64 x.2.2.2.2] 100 (0,0))
section
variable {w wr wr':World} {cs:Array Value} {K:Nat} {y:Lk} {v v':Value} {ws ws':List Wd}
theorem WlI.below (h:WlI w wr cs K y v ws) (hb:Below wr.heap.size wr wr'):WlI w wr' cs K y v ws:=⟨h.i.below hb,(hb.block _ (lt_of_block h.k)).trans h.k⟩
theorem WlI.grown (h:WlI w wr cs K y v ws) (hr:WRow (w.heap.size+2) wr' v' ws') (hg:wr.grownBy wr' v.ownBlock):WlI w wr' cs K y v' ws':=
 ⟨h.i.grown hr hg,(hg.block _ (lt_of_block h.k) (block_off h.k h.i.row (by decide))).trans h.k⟩
theorem WlI.push (h:WlI w wr cs K y v ws) {x:Wd} (hown:wr'.ownsRow 0 95 4 v' (ws.length+1) (wdsC ws++wdC x)) (hg:wr.grownBy wr' v.ownBlock) (hnew:∀q ∈ v'.ownBlock.toList,q ∈ v.ownBlock.toList∨wr.heap.size≤q):WlI w wr' cs K y v' (ws++[x]):=
 ⟨h.i.push hown hg hnew,(hg.block _ (lt_of_block h.k) (block_off h.k h.i.row (by decide))).trans h.k⟩
theorem WlI.cell (h:WlI w wr cs K y v ws) (o:Nat) (_ho:o < 5):wr.cell? ⟨K,o,none⟩=(#[.bool y.1, .int .i64 y.2.1, .int .i64 y.2.2.1, .int .i64 y.2.2.2.1, .int .i64 y.2.2.2.2]:Array Value)[o]?:=by
 simp [World.cell?,h.k]
end
theorem word_atk {W:World} {a b c d:Value} {t:TypeId} {k:Nat} (hk:W.heap.size=k):∀(j:Nat) (u:Value),[a,b,c,d][j]?=some u→(W.alloc (.cells #[a,b,c,d] t)).cell? ((⟨k,0,none⟩:Addr).add j)=some u:=by
 subst hk
 exact word_new W a b c d t
theorem wsi_start (w:World) (cs:Array Value):WsI w ((w.alloc (.cells cs 26)).alloc (.cells #[.int .i64 3, .string ⟨#[59]⟩, .int .i64 0, .int .i64 0] 95)) cs (.slice none 0 0) []:=by
 have h1:=heap_alloc_new w (.cells cs 26)
 have h2:=heap_alloc_new (w.alloc (.cells cs 26)) (.cells #[.int .i64 3, .string ⟨#[59]⟩, .int .i64 0, .int .i64 0] 95)
 rw [World.size_alloc] at h2
 exact⟨World.ownsRow_nil _ _ _ _,(Below.heap_alloc _ _ _ (by simp)).trans h1,h2,((Below.refl _ w).alloc (Nat.le_refl _) _).alloc (by simp) _⟩
theorem new_kept {w V:World} {base:Nat} {v:Value} {ws:List Wd} {a b c d:Value} (h:WRow base w v ws) (hg:(w.alloc (.cells #[a,b,c,d] 95)).grownBy V v.ownBlock):∀(j:Nat) (u:Value),[a,b,c,d][j]?=some u→V.cell? ((⟨w.heap.size,0,none⟩:Addr).add j)=some u:=by
 intro j u hj
 have h1:=word_new w a b c d 95 j u hj
 rw [Addr.add_lit] at h1 ⊢
 refine hg.cell h1 (fun e=>?_)
 have:=ownsRow_lt h w.heap.size (by simp [←e])
 omega
theorem take_more {α β:Type} {L:List α} {i:Nat} (f:α→List β) (h:i < L.length):(L.take (i+1)).flatMap f=(L.take i).flatMap f++f L[i]:=by
 rw [←List.take_append_getElem h,List.flatMap_append]
 simp
theorem flatW_len {α β:Type} {f:α→List β} {k:Nat} (h:∀x,(f x).length≤k) (L:List α):(L.flatMap f).length≤k*L.length:=by
 induction L with
 |nil=>simp
 |cons x L ih=>
  rw [List.flatMap_cons,List.length_append,List.length_cons,Nat.mul_add]
  have:=h x
  omega
theorem flat_in {α β:Type} {f:α→List β} {k:Nat} :∀ {L:List α},(∀x ∈ L,(f x).length≤k)→(L.flatMap f).length≤k*L.length
 |[],_=>by simp
 |x::L,h=>by
  have h1:=flat_in (f:=f) (k:=k) (L:=L) (fun y hy=>h y (by simp [hy]))
  have h2:=h x (by simp)
  rw [List.flatMap_cons,List.length_append,List.length_cons,Nat.mul_add]
  omega
theorem words_le {p:Prg} (h:p.2.length≤12):(wordsR p).length≤60:=by
 obtain⟨f,L⟩:=p
 have:=opsW_len L
 rw [words_head]
 simp only [List.length_append,List.length_cons,List.length_nil]
 have:(headR f).length≤3:=by cases f<;>decide
 simp only at h
 omega
theorem rswords_any (s:Stp) (ag:Option Addr) (bg og cg:Nat) (al:Option Addr) (bl ol cl:Nat) (ap:Option Addr) (bp op cp:Nat) (w:World) (h:SArg w s ag bg og al bl ol ap bp op) (zg:s.2.2.1.length≤4) (zl:s.2.2.2.1.length≤8) (zp:s.2.2.2.2.length≤8) (zo:∀x ∈ s.2.2.2.2,x.2.length≤12∧∀o ∈ x.2,small o.1):
  Calls Tryz.prog 23 #[.agg (stC s.1 s.2.1 ag s.2.2.1.length cg al s.2.2.2.1.length cl ap s.2.2.2.2.length cp)] w (WordsP (wordsS s) w):=by
 obtain⟨i0,hi0,hz0,hz1,hz2⟩:=info_parts word_info
 obtain⟨c,g,gs,ls,ps⟩:=s
 have HG:=xhd h.gs
 have HL:=xhd h.ls
 have HP:=xhd h.ps
 have HZO:=xhd zo
 simp only at HG HL HP HZO zg zl zp ⊢
 obtain⟨ng,hng⟩:∃n,gs.length=n:=⟨_,rfl⟩
 obtain⟨nl,hnl⟩:∃n,ls.length=n:=⟨_,rfl⟩
 obtain⟨np,hnp⟩:∃n,ps.length=n:=⟨_,rfl⟩
 have HNG:=xhd hng
 have HNL:=xhd hnl
 have HNP:=xhd hnp
 rw [hng] at zg ⊢
 rw [hnl] at zl ⊢
 rw [hnp] at zp ⊢
 obtain⟨R,hR⟩:∃R,wordsS (c,g,gs,ls,ps)=R:=⟨_,rfl⟩
 rw [hR]
 have HR:=xhd hR
 have HFW:=xhd (fun V v ws (hr:WRow (w.heap.size+2) V v ws) (hb:w.heap.size+2≤V.heap.size) (hl:ws.length≤100000) (name:ByteArray) (n:Int)=>rfieldw_any hr hb hl name n)
 obtain⟨W0,hW0⟩:∃W0,(w.alloc (.cells (stC c g ag ng cg al nl cl ap np cp) 26)).alloc (.cells #[.int .i64 3, .string ⟨#[59]⟩, .int .i64 0, .int .i64 0] 95)=W0:=⟨_,rfl⟩
 have HI0:=xhd (wsi_start w (stC c g ag ng cg al nl cl ap np cp))
 rw [hW0] at HI0
 have HW0:=xhd hW0
 clear h zo hng hnl hnp hR hW0
 go_enter Tryz.func23,Tryz.ntmps23
 go_upto_region 2 with (fail)
 rw [HW0.out]
 go_cut [4] from 11 to 16 (fun v4 wx=>Hid (WsI w wx (stC c g ag ng cg al nl cl ap np cp) v4 (fieldW coresB c++[semiW])))
 case first=>
  have HD:=xhd (HI0.out.below ((Below.refl _ _).drew))
  refine wp_region_noPanic ?_
  refine wp_region_held_drew (S:=fun V=>V.cell? ⟨w.heap.size,0,none⟩=some (.int .i64 c)∧V.cell? ⟨w.heap.size+1,0,none⟩=some (.int .i64 3)∧V.cell? ⟨w.heap.size+1,1,none⟩=some (.string ⟨#[59]⟩)∧V.cell? ⟨w.heap.size+1,2,none⟩=some (.int .i64 0)∧V.cell? ⟨w.heap.size+1,3,none⟩=some (.int .i64 0)) (by kernel_rfl) (by exact⟨(st_cells HD.out.bx).1,HD.out.end_⟩) (fun hHeld=>?_)
  refine wpAnyH_take (i:=0) (v:=?_) rfl (by kernel_rfl) (by kernel_rfl) (by kernel_rfl) (fun _ _ _ h=>h) (Or.inl ⟨by rfl,?hy⟩) (by assumption) ?_
  case hy=>
   intro w hSw
   (try dsimp only at hSw)
   obtain⟨s0,s1,s2,s3,s4⟩:=hSw
   go_simp
   try with_reducible rfl
  try simp only [xga];try simp only [xgs];try simp only [xgz];try simp only [Act.put];try simp only [xsa];try simp only [xss];try simp only [xsz]
  refine wpAnyH_take (i:=1) (v:=?_) rfl (by kernel_rfl) (by kernel_rfl) (by kernel_rfl) (fun _ _ _ h=>h) (Or.inl ⟨by rfl,?hy⟩) (by assumption) ?_
  case hy=>
   intro w hSw
   (try dsimp only at hSw)
   obtain⟨s0,s1,s2,s3,s4⟩:=hSw
   go_simp
   try with_reducible rfl
  try simp only [xga];try simp only [xgs];try simp only [xgz];try simp only [Act.put];try simp only [xsa];try simp only [xss];try simp only [xsz]
  refine wpAnyH_take (i:=3) (v:=?_) rfl (by kernel_rfl) (by kernel_rfl) (by kernel_rfl) (fun _ _ _ h=>h) (Or.inl ⟨by rfl,?hy⟩) (by assumption) ?_
  case hy=>
   intro w hSw
   (try dsimp only at hSw)
   obtain⟨s0,s1,s2,s3,s4⟩:=hSw
   go_simp
   try with_reducible rfl
  try simp only [xga];try simp only [xgs];try simp only [xgz];try simp only [Act.put];try simp only [xsa];try simp only [xss];try simp only [xsz]
  refine wpAnyH_ready (rs:=[2,4]) (by kernel_rfl) (by simp) ?_
  refine AllReadyH.cons rfl (fun K' hK=>?_) (AllReadyH.cons rfl (fun K' hK=>?_) AllReadyH.nil)
  ·go_simp
   have hm:=HFW.out _ _ _ HD.out.row HD.out.siz (by decide) ⟨#[99,111,114,101,115]⟩ c
   unfold MoreW at hm
   rw [show (⟨#[99,111,114,101,115]⟩:ByteArray).data.toList=coresB from rfl] at hm
   refine hm.mono ?_
   rintro e V1 ⟨v1,rfl,hr1,hg1⟩
   have H1:=xhd (HD.out.grown hr1 hg1)
   clear hm hr1 hg1
   refine hK.out _ _ ?_ (fun hHeld=>?_)
   ·exact⟨(st_cells H1.out.bx).1,H1.out.end_⟩
   clear hK K'
   try simp only [xga];try simp only [xgs];try simp only [xgz];try simp only [Act.put];try simp only [xsa];try simp only [xss];try simp only [xsz]
   refine wpAnyH_ready (rs:=[4]) (by kernel_rfl) (by simp) ?_
   refine AllReadyH.cons rfl (fun K' hK=>?_) AllReadyH.nil
   go_simp
   have HA:=xhd (H1.out.below ((Below.refl _ _).alloc (Nat.le_refl _) (.cells #[.int .i64 3, .string ⟨#[59]⟩, .int .i64 0, .int .i64 0] 95)))
   refine hK.out _ _ ?_ (fun hHeld=>?_)
   ·exact⟨(st_cells HA.out.bx).1,HA.out.end_⟩
   clear hK K'
   try simp only [xga];try simp only [xgs];try simp only [xgz];try simp only [Act.put];try simp only [xsa];try simp only [xss];try simp only [xsz]
   refine wpAnyH_ready (rs:=[5]) (by kernel_rfl) (by simp) ?_
   refine AllReadyH.cons rfl (fun K' hK=>?_) AllReadyH.nil
   refine step_append_any _ rfl (.tmp 13) (.tmp 15) 50 rfl 95 i0 (.agg #[.int .i64 0, .string ⟨#[]⟩, .int .i64 0, .int .i64 0]) 4 40 Tryz.underlying50 hi0 hz0 hz1 hz2 rfl (by decide) v1 (([]:List Wd)++fieldW coresB c).length (wdsC (([]:List Wd)++fieldW coresB c)) rfl (row_base HA.out.row (Nat.zero_le _)) (some ⟨V1.heap.size,0,none⟩) 1 1 [.int .i64 3, .string ⟨#[59]⟩, .int .i64 0, .int .i64 0] rfl rfl (by intro h;cases h) (by intro ad had;cases had;exact word_new _ _ _ _ _ _) (word_ones _ _ _ _) (by simp [fieldW,maxLen]) (by simp [fieldW]) ?_
   intro a5 c5 w5 hown hg hnew
   have HQ:=xhd (HA.out.push (x:=semiW) hown hg hnew)
   refine hK.out _ _ ?_ (fun hHeld=>?_)
   ·exact⟨(st_cells HQ.out.bx).1,HQ.out.end_⟩
   clear hK K' hown hg hnew
   try simp only [xga];try simp only [xgs];try simp only [xgz];try simp only [Act.put];try simp only [xsa];try simp only [xss];try simp only [xsz]
   refine wpAnyH_take (i:=6) (v:=?_) rfl (by kernel_rfl) (by kernel_rfl) (by kernel_rfl) (fun _ _ _ h=>h) (Or.inl ⟨by rfl,?hy⟩) (by assumption) ?_
   case hy=>
    intro w hSw
    (try dsimp only at hSw)
    obtain⟨s0,s1,s2,s3,s4⟩:=hSw
    go_simp
    try with_reducible rfl
   try simp only [xga];try simp only [xgs];try simp only [xgz];try simp only [Act.put];try simp only [xsa];try simp only [xss];try simp only [xsz]
   refine wpAnyH_done (by kernel_rfl) ?_ _
   refine NoPanic.normal ?_
   try simp only [xga];try simp only [xgs];try simp only [xgz];try simp only [Act.put];try simp only [xsa];try simp only [xss];try simp only [xsz]
   go_wp2_with fail
   go_meet
   exact HQ
  ·go_simp
   have HA:=xhd (HD.out.below ((Below.refl _ _).alloc (Nat.le_refl _) (.cells #[.int .i64 3, .string ⟨#[59]⟩, .int .i64 0, .int .i64 0] 95)))
   refine hK.out _ _ ?_ (fun hHeld=>?_)
   ·exact⟨(st_cells HA.out.bx).1,HA.out.end_⟩
   clear hK K'
   try simp only [xga];try simp only [xgs];try simp only [xgz];try simp only [Act.put];try simp only [xsa];try simp only [xss];try simp only [xsz]
   refine wpAnyH_ready (rs:=[2]) (by kernel_rfl) (by simp) ?_
   refine AllReadyH.cons rfl (fun K' hK=>?_) AllReadyH.nil
   go_simp
   have hm:=HFW.out _ _ _ HA.out.row HA.out.siz (by decide) ⟨#[99,111,114,101,115]⟩ c
   unfold MoreW at hm
   rw [show (⟨#[99,111,114,101,115]⟩:ByteArray).data.toList=coresB from rfl] at hm
   refine hm.mono ?_
   rintro e V1 ⟨v1,rfl,hr1,hg1⟩
   have H1:=xhd (HA.out.grown hr1 hg1)
   have HNB:=xhd (new_kept HD.out.row hg1)
   clear hm hr1 hg1
   refine hK.out _ _ ?_ (fun hHeld=>?_)
   ·exact⟨(st_cells H1.out.bx).1,H1.out.end_⟩
   clear hK K'
   try simp only [xga];try simp only [xgs];try simp only [xgz];try simp only [Act.put];try simp only [xsa];try simp only [xss];try simp only [xsz]
   refine wpAnyH_ready (rs:=[5]) (by kernel_rfl) (by simp) ?_
   refine AllReadyH.cons rfl (fun K' hK=>?_) AllReadyH.nil
   refine step_append_any _ rfl (.tmp 13) (.tmp 15) 50 rfl 95 i0 (.agg #[.int .i64 0, .string ⟨#[]⟩, .int .i64 0, .int .i64 0]) 4 40 Tryz.underlying50 hi0 hz0 hz1 hz2 rfl (by decide) v1 (([]:List Wd)++fieldW coresB c).length (wdsC (([]:List Wd)++fieldW coresB c)) rfl (row_base H1.out.row (Nat.zero_le _)) (some ⟨W0.heap.size,0,none⟩) 1 1 [.int .i64 3, .string ⟨#[59]⟩, .int .i64 0, .int .i64 0] rfl rfl (by intro h;cases h) (by intro ad had;cases had;exact HNB.out) (word_ones _ _ _ _) (by simp [fieldW,maxLen]) (by simp [fieldW]) ?_
   intro a5 c5 w5 hown hg hnew
   have HQ:=xhd (H1.out.push (x:=semiW) hown hg hnew)
   refine hK.out _ _ ?_ (fun hHeld=>?_)
   ·exact⟨(st_cells HQ.out.bx).1,HQ.out.end_⟩
   clear hK K' hown hg hnew
   try simp only [xga];try simp only [xgs];try simp only [xgz];try simp only [Act.put];try simp only [xsa];try simp only [xss];try simp only [xsz]
   refine wpAnyH_take (i:=6) (v:=?_) rfl (by kernel_rfl) (by kernel_rfl) (by kernel_rfl) (fun _ _ _ h=>h) (Or.inl ⟨by rfl,?hy⟩) (by assumption) ?_
   case hy=>
    intro w hSw
    (try dsimp only at hSw)
    obtain⟨s0,s1,s2,s3,s4⟩:=hSw
    go_simp
    try with_reducible rfl
   try simp only [xga];try simp only [xgs];try simp only [xgz];try simp only [Act.put];try simp only [xsa];try simp only [xss];try simp only [xsz]
   refine wpAnyH_done (by kernel_rfl) ?_ _
   refine NoPanic.normal ?_
   try simp only [xga];try simp only [xgs];try simp only [xgz];try simp only [Act.put];try simp only [xsa];try simp only [xss];try simp only [xsz]
   go_wp2_with fail
   go_meet
   exact HQ
 case rest=>
  have HC0:=hcut
  clear HI0 HW0
  go_upto_region 3 with (fail)
  go_cut [4] from 17 to 23 (fun v4 wx=>Hid (WsI w wx (stC c g ag ng cg al nl cl ap np cp) v4 ((fieldW coresB c++[semiW])++fieldW grainB g++[semiW])))
  case first=>
   have HD:=xhd (HC0.out.below ((Below.refl _ _).drew))
   refine wp_region_noPanic ?_
   refine wp_region_held_drew (S:=fun V=>V.cell? ⟨w.heap.size,1,none⟩=some (.int .i64 g)∧V.cell? ⟨w.heap.size+1,0,none⟩=some (.int .i64 3)∧V.cell? ⟨w.heap.size+1,1,none⟩=some (.string ⟨#[59]⟩)∧V.cell? ⟨w.heap.size+1,2,none⟩=some (.int .i64 0)∧V.cell? ⟨w.heap.size+1,3,none⟩=some (.int .i64 0)) (by kernel_rfl) (by exact⟨(st_cells HD.out.bx).2.1,HD.out.end_⟩) (fun hHeld=>?_)
   refine wpAnyH_take (i:=0) (v:=?_) rfl (by kernel_rfl) (by kernel_rfl) (by kernel_rfl) (fun _ _ _ h=>h) (Or.inl ⟨by rfl,?hy⟩) (by assumption) ?_
   case hy=>
    intro w hSw
    (try dsimp only at hSw)
    obtain⟨s0,s1,s2,s3,s4⟩:=hSw
    go_simp
    try with_reducible rfl
   try simp only [xga];try simp only [xgs];try simp only [xgz];try simp only [Act.put];try simp only [xsa];try simp only [xss];try simp only [xsz]
   refine wpAnyH_take (i:=1) (v:=?_) rfl (by kernel_rfl) (by kernel_rfl) (by kernel_rfl) (fun _ _ _ h=>h) (Or.inl ⟨by rfl,?hy⟩) (by assumption) ?_
   case hy=>
    intro w hSw
    (try dsimp only at hSw)
    obtain⟨s0,s1,s2,s3,s4⟩:=hSw
    go_simp
    try with_reducible rfl
   try simp only [xga];try simp only [xgs];try simp only [xgz];try simp only [Act.put];try simp only [xsa];try simp only [xss];try simp only [xsz]
   refine wpAnyH_take (i:=2) (v:=?_) rfl (by kernel_rfl) (by kernel_rfl) (by kernel_rfl) (fun _ _ _ h=>h) (Or.inl ⟨by rfl,?hy⟩) (by assumption) ?_
   case hy=>
    intro w hSw
    (try dsimp only at hSw)
    obtain⟨s0,s1,s2,s3,s4⟩:=hSw
    go_simp
    try with_reducible rfl
   try simp only [xga];try simp only [xgs];try simp only [xgz];try simp only [Act.put];try simp only [xsa];try simp only [xss];try simp only [xsz]
   refine wpAnyH_take (i:=4) (v:=?_) rfl (by kernel_rfl) (by kernel_rfl) (by kernel_rfl) (fun _ _ _ h=>h) (Or.inl ⟨by rfl,?hy⟩) (by assumption) ?_
   case hy=>
    intro w hSw
    (try dsimp only at hSw)
    obtain⟨s0,s1,s2,s3,s4⟩:=hSw
    go_simp
    try with_reducible rfl
   try simp only [xga];try simp only [xgs];try simp only [xgz];try simp only [Act.put];try simp only [xsa];try simp only [xss];try simp only [xsz]
   refine wpAnyH_ready (rs:=[3,5]) (by kernel_rfl) (by simp) ?_
   refine AllReadyH.cons rfl (fun K' hK=>?_) (AllReadyH.cons rfl (fun K' hK=>?_) AllReadyH.nil)
   ·go_simp
    have hm:=HFW.out _ _ _ HD.out.row HD.out.siz (by simp [fieldW]) ⟨#[103,114,97,105,110]⟩ g
    unfold MoreW at hm
    rw [show (⟨#[103,114,97,105,110]⟩:ByteArray).data.toList=grainB from rfl] at hm
    refine hm.mono ?_
    rintro e V1 ⟨v1,rfl,hr1,hg1⟩
    have H1:=xhd (HD.out.grown hr1 hg1)
    clear hm hr1 hg1
    refine hK.out _ _ ?_ (fun hHeld=>?_)
    ·exact⟨(st_cells H1.out.bx).2.1,H1.out.end_⟩
    clear hK K'
    try simp only [xga];try simp only [xgs];try simp only [xgz];try simp only [Act.put];try simp only [xsa];try simp only [xss];try simp only [xsz]
    refine wpAnyH_ready (rs:=[5]) (by kernel_rfl) (by simp) ?_
    refine AllReadyH.cons rfl (fun K' hK=>?_) AllReadyH.nil
    go_simp
    have HA:=xhd (H1.out.below ((Below.refl _ _).alloc (Nat.le_refl _) (.cells #[.int .i64 3, .string ⟨#[59]⟩, .int .i64 0, .int .i64 0] 95)))
    refine hK.out _ _ ?_ (fun hHeld=>?_)
    ·exact⟨(st_cells HA.out.bx).2.1,HA.out.end_⟩
    clear hK K'
    try simp only [xga];try simp only [xgs];try simp only [xgz];try simp only [Act.put];try simp only [xsa];try simp only [xss];try simp only [xsz]
    refine wpAnyH_ready (rs:=[6]) (by kernel_rfl) (by simp) ?_
    refine AllReadyH.cons rfl (fun K' hK=>?_) AllReadyH.nil
    refine step_append_any _ rfl (.tmp 20) (.tmp 22) 50 rfl 95 i0 (.agg #[.int .i64 0, .string ⟨#[]⟩, .int .i64 0, .int .i64 0]) 4 40 Tryz.underlying50 hi0 hz0 hz1 hz2 rfl (by decide) v1 ((fieldW coresB c++[semiW])++fieldW grainB g).length (wdsC ((fieldW coresB c++[semiW])++fieldW grainB g)) rfl (row_base HA.out.row (Nat.zero_le _)) (some ⟨V1.heap.size,0,none⟩) 1 1 [.int .i64 3, .string ⟨#[59]⟩, .int .i64 0, .int .i64 0] rfl rfl (by intro h;cases h) (by intro ad had;cases had;exact word_new _ _ _ _ _ _) (word_ones _ _ _ _) (by simp [fieldW,maxLen]) (by simp [fieldW]) ?_
    intro a5 c5 w5 hown hg hnew
    have HQ:=xhd (HA.out.push (x:=semiW) hown hg hnew)
    refine hK.out _ _ ?_ (fun hHeld=>?_)
    ·exact⟨(st_cells HQ.out.bx).2.1,HQ.out.end_⟩
    clear hK K' hown hg hnew
    try simp only [xga];try simp only [xgs];try simp only [xgz];try simp only [Act.put];try simp only [xsa];try simp only [xss];try simp only [xsz]
    refine wpAnyH_take (i:=7) (v:=?_) rfl (by kernel_rfl) (by kernel_rfl) (by kernel_rfl) (fun _ _ _ h=>h) (Or.inl ⟨by rfl,?hy⟩) (by assumption) ?_
    case hy=>
     intro w hSw
     (try dsimp only at hSw)
     obtain⟨s0,s1,s2,s3,s4⟩:=hSw
     go_simp
     try with_reducible rfl
    try simp only [xga];try simp only [xgs];try simp only [xgz];try simp only [Act.put];try simp only [xsa];try simp only [xss];try simp only [xsz]
    refine wpAnyH_done (by kernel_rfl) ?_ _
    refine NoPanic.normal ?_
    try simp only [xga];try simp only [xgs];try simp only [xgz];try simp only [Act.put];try simp only [xsa];try simp only [xss];try simp only [xsz]
    go_wp2_with fail
    go_meet
    exact HQ
   ·go_simp
    have HA:=xhd (HD.out.below ((Below.refl _ _).alloc (Nat.le_refl _) (.cells #[.int .i64 3, .string ⟨#[59]⟩, .int .i64 0, .int .i64 0] 95)))
    refine hK.out _ _ ?_ (fun hHeld=>?_)
    ·exact⟨(st_cells HA.out.bx).2.1,HA.out.end_⟩
    clear hK K'
    try simp only [xga];try simp only [xgs];try simp only [xgz];try simp only [Act.put];try simp only [xsa];try simp only [xss];try simp only [xsz]
    refine wpAnyH_ready (rs:=[3]) (by kernel_rfl) (by simp) ?_
    refine AllReadyH.cons rfl (fun K' hK=>?_) AllReadyH.nil
    go_simp
    have hm:=HFW.out _ _ _ HA.out.row HA.out.siz (by simp [fieldW]) ⟨#[103,114,97,105,110]⟩ g
    unfold MoreW at hm
    rw [show (⟨#[103,114,97,105,110]⟩:ByteArray).data.toList=grainB from rfl] at hm
    refine hm.mono ?_
    rintro e V1 ⟨v1,rfl,hr1,hg1⟩
    have H1:=xhd (HA.out.grown hr1 hg1)
    have HNB:=xhd (new_kept HD.out.row hg1)
    clear hm hr1 hg1
    refine hK.out _ _ ?_ (fun hHeld=>?_)
    ·exact⟨(st_cells H1.out.bx).2.1,H1.out.end_⟩
    clear hK K'
    try simp only [xga];try simp only [xgs];try simp only [xgz];try simp only [Act.put];try simp only [xsa];try simp only [xss];try simp only [xsz]
    refine wpAnyH_ready (rs:=[6]) (by kernel_rfl) (by simp) ?_
    refine AllReadyH.cons rfl (fun K' hK=>?_) AllReadyH.nil
    refine step_append_any _ rfl (.tmp 20) (.tmp 22) 50 rfl 95 i0 (.agg #[.int .i64 0, .string ⟨#[]⟩, .int .i64 0, .int .i64 0]) 4 40 Tryz.underlying50 hi0 hz0 hz1 hz2 rfl (by decide) v1 ((fieldW coresB c++[semiW])++fieldW grainB g).length (wdsC ((fieldW coresB c++[semiW])++fieldW grainB g)) rfl (row_base H1.out.row (Nat.zero_le _)) (some ⟨wc.heap.size,0,none⟩) 1 1 [.int .i64 3, .string ⟨#[59]⟩, .int .i64 0, .int .i64 0] rfl rfl (by intro h;cases h) (by intro ad had;cases had;exact HNB.out) (word_ones _ _ _ _) (by simp [fieldW,maxLen]) (by simp [fieldW]) ?_
    intro a5 c5 w5 hown hg hnew
    have HQ:=xhd (H1.out.push (x:=semiW) hown hg hnew)
    refine hK.out _ _ ?_ (fun hHeld=>?_)
    ·exact⟨(st_cells HQ.out.bx).2.1,HQ.out.end_⟩
    clear hK K' hown hg hnew
    try simp only [xga];try simp only [xgs];try simp only [xgz];try simp only [Act.put];try simp only [xsa];try simp only [xss];try simp only [xsz]
    refine wpAnyH_take (i:=7) (v:=?_) rfl (by kernel_rfl) (by kernel_rfl) (by kernel_rfl) (fun _ _ _ h=>h) (Or.inl ⟨by rfl,?hy⟩) (by assumption) ?_
    case hy=>
     intro w hSw
     (try dsimp only at hSw)
     obtain⟨s0,s1,s2,s3,s4⟩:=hSw
     go_simp
     try with_reducible rfl
    try simp only [xga];try simp only [xgs];try simp only [xgz];try simp only [Act.put];try simp only [xsa];try simp only [xss];try simp only [xsz]
    refine wpAnyH_done (by kernel_rfl) ?_ _
    refine NoPanic.normal ?_
    try simp only [xga];try simp only [xgs];try simp only [xgz];try simp only [Act.put];try simp only [xsa];try simp only [xss];try simp only [xsz]
    go_wp2_with fail
    go_meet
    exact HQ
  case rest=>
   have HC1:=hcut
   clear HC0
   go_upto_block 0 with (fail)
   go_cut [4,5] from 24 to 40 (fun v4 v5 wx=>Hid (WsI w wx (stC c g ag ng cg al nl cl ap np cp) v4 (((fieldW coresB c++[semiW])++fieldW grainB g++[semiW])++gs.flatMap groupW)))
   case first=>
    go_wp2_with fail
    go_loopg [4,5] ng (fun m v4 v5 wr=>∃i:Nat,i≤ng∧m=ng - i∧v5= .int .i64 (i:Nat)∧Hid (WsI w wr (stC c g ag ng cg al nl cl ap np cp) v4 (((fieldW coresB c++[semiW])++fieldW grainB g++[semiW])++(gs.take i).flatMap groupW)))
    case atStart=>exact⟨0,Nat.zero_le _,rfl,rfl,xhd (by simpa using HC1.out)⟩
    case round=>
     obtain⟨i,hi,rfl,rfl,HI⟩:=hrel
     obtain⟨-, -,c2, -, -⟩:=st_cells HI.out.bx
     by_cases hlt:i < ng
     ·have hiL:i < gs.length:=by rw [HNG.out];exact hlt
      have j0:(0:Int)≤i:=by omega
      have j1:(i:Int) < ng:=by omega
      have j2:IntKind.i64.wrap ((i:Int)+1)=(i:Int)+1:=by rw [IntKind.wrap_i64];omega
      obtain⟨rfl,hbl⟩:=HG.out.at_ (by omega)
      obtain⟨ws,hws⟩:∃z,((fieldW coresB c++[semiW])++fieldW grainB g++[semiW])++(gs.take i).flatMap groupW=z:=⟨_,rfl⟩
      have hwl:ws.length≤1000:=by
       have h1:=flatW_len (f:=groupW) (k:=3) (fun x=>by simp [groupW,fieldW]) (gs.take i)
       rw [List.length_take] at h1
       rw [←hws]
       simp only [List.length_append,fieldW,List.length_cons,List.length_nil]
       omega
      have HWS:Hid (ws++fieldW groupB gs[i]++[semiW]=((fieldW coresB c++[semiW])++fieldW grainB g++[semiW])++(gs.take (i+1)).flatMap groupW):=xhd (by
       rw [take_more groupW hiL, ←hws]
       simp [groupW])
      rw [hws] at HI
      clear hws
      go_upto_region 7 with (fail)
      have HD:=xhd (HI.out.below ((Below.refl _ _).drew))
      refine wp_region_noPanic ?_
      refine wp_region_held_drew (S:=fun V=>V.cell? ⟨w.heap.size,2,none⟩=some (.slice (some ⟨bg,og,none⟩) ng cg)∧V.cell? ⟨bg,og+i,none⟩=some (.int .i64 gs[i])∧V.cell? ⟨w.heap.size+1,0,none⟩=some (.int .i64 3)∧V.cell? ⟨w.heap.size+1,1,none⟩=some (.string ⟨#[59]⟩)∧V.cell? ⟨w.heap.size+1,2,none⟩=some (.int .i64 0)∧V.cell? ⟨w.heap.size+1,3,none⟩=some (.int .i64 0)) (by kernel_rfl) (by exact⟨(st_cells HD.out.bx).2.2.1,(HG.out.below HD.out.bel).cells i hiL,HD.out.end_⟩) (fun hHeld=>?_)
      refine wpAnyH_take (i:=0) (v:=?_) rfl (by kernel_rfl) (by kernel_rfl) (by kernel_rfl) (fun _ _ _ h=>h) (Or.inl ⟨by rfl,?hy⟩) (by assumption) ?_
      case hy=>
       intro w hSw
       (try dsimp only at hSw)
       obtain⟨s0,s1,s2,s3,s4,s5⟩:=hSw
       go_simp
       try with_reducible rfl
      try simp only [xga];try simp only [xgs];try simp only [xgz];try simp only [Act.put];try simp only [xsa];try simp only [xss];try simp only [xsz]
      refine wpAnyH_take (i:=1) (v:=?_) rfl (by kernel_rfl) (by kernel_rfl) (by kernel_rfl) (fun _ _ _ h=>h) (Or.inl ⟨by rfl,?hy⟩) (by assumption) ?_
      case hy=>
       intro w hSw
       (try dsimp only at hSw)
       obtain⟨s0,s1,s2,s3,s4,s5⟩:=hSw
       go_simp
       try with_reducible rfl
      try simp only [xga];try simp only [xgs];try simp only [xgz];try simp only [Act.put];try simp only [xsa];try simp only [xss];try simp only [xsz]
      refine wpAnyH_take (i:=2) (v:=?_) rfl (by kernel_rfl) (by kernel_rfl) (by kernel_rfl) (fun _ _ _ h=>h) (Or.inl ⟨by rfl,?hy⟩) (by assumption) ?_
      case hy=>
       intro w hSw
       (try dsimp only at hSw)
       obtain⟨s0,s1,s2,s3,s4,s5⟩:=hSw
       go_simp
       try with_reducible rfl
      try simp only [xga];try simp only [xgs];try simp only [xgz];try simp only [Act.put];try simp only [xsa];try simp only [xss];try simp only [xsz]
      refine wpAnyH_take (i:=3) (v:=?_) rfl (by kernel_rfl) (by kernel_rfl) (by kernel_rfl) (fun _ _ _ h=>h) (Or.inl ⟨by rfl,?hy⟩) (by assumption) ?_
      case hy=>
       intro w hSw
       (try dsimp only at hSw)
       obtain⟨s0,s1,s2,s3,s4,s5⟩:=hSw
       go_simp
       try with_reducible rfl
      try simp only [xga];try simp only [xgs];try simp only [xgz];try simp only [Act.put];try simp only [xsa];try simp only [xss];try simp only [xsz]
      refine wpAnyH_take (i:=4) (v:=?_) rfl (by kernel_rfl) (by kernel_rfl) (by kernel_rfl) (fun _ _ _ h=>h) (Or.inl ⟨by rfl,?hy⟩) (by assumption) ?_
      case hy=>
       intro w hSw
       (try dsimp only at hSw)
       obtain⟨s0,s1,s2,s3,s4,s5⟩:=hSw
       go_simp
       try with_reducible rfl
      try simp only [xga];try simp only [xgs];try simp only [xgz];try simp only [Act.put];try simp only [xsa];try simp only [xss];try simp only [xsz]
      refine wpAnyH_take (i:=5) (v:=?_) rfl (by kernel_rfl) (by kernel_rfl) (by kernel_rfl) (fun _ _ _ h=>h) (Or.inl ⟨by rfl,?hy⟩) (by assumption) ?_
      case hy=>
       intro w hSw
       (try dsimp only at hSw)
       obtain⟨s0,s1,s2,s3,s4,s5⟩:=hSw
       go_simp
       try with_reducible rfl
      try simp only [xga];try simp only [xgs];try simp only [xgz];try simp only [Act.put];try simp only [xsa];try simp only [xss];try simp only [xsz]
      refine wpAnyH_take (i:=7) (v:=?_) rfl (by kernel_rfl) (by kernel_rfl) (by kernel_rfl) (fun _ _ _ h=>h) (Or.inl ⟨by rfl,?hy⟩) (by assumption) ?_
      case hy=>
       intro w hSw
       (try dsimp only at hSw)
       obtain⟨s0,s1,s2,s3,s4,s5⟩:=hSw
       go_simp
       try with_reducible rfl
      try simp only [xga];try simp only [xgs];try simp only [xgz];try simp only [Act.put];try simp only [xsa];try simp only [xss];try simp only [xsz]
      refine wpAnyH_ready (rs:=[6,8]) (by kernel_rfl) (by simp) ?_
      refine AllReadyH.cons rfl (fun K' hK=>?_) (AllReadyH.cons rfl (fun K' hK=>?_) AllReadyH.nil)
      ·go_simp
       have hm:=HFW.out _ _ _ HD.out.row HD.out.siz (by omega) ⟨#[103,114,111,117,112]⟩ gs[i]
       unfold MoreW at hm
       rw [show (⟨#[103,114,111,117,112]⟩:ByteArray).data.toList=groupB from rfl] at hm
       refine hm.mono ?_
       rintro e V1 ⟨v1,rfl,hr1,hg1⟩
       have H1:=xhd (HD.out.grown hr1 hg1)
       clear hm hr1 hg1
       refine hK.out _ _ ?_ (fun hHeld=>?_)
       ·exact⟨(st_cells H1.out.bx).2.2.1,(HG.out.below H1.out.bel).cells i hiL,H1.out.end_⟩
       clear hK K'
       try simp only [xga];try simp only [xgs];try simp only [xgz];try simp only [Act.put];try simp only [xsa];try simp only [xss];try simp only [xsz]
       refine wpAnyH_ready (rs:=[8]) (by kernel_rfl) (by simp) ?_
       refine AllReadyH.cons rfl (fun K' hK=>?_) AllReadyH.nil
       go_simp
       have HA:=xhd (H1.out.below ((Below.refl _ _).alloc (Nat.le_refl _) (.cells #[.int .i64 3, .string ⟨#[59]⟩, .int .i64 0, .int .i64 0] 95)))
       refine hK.out _ _ ?_ (fun hHeld=>?_)
       ·exact⟨(st_cells HA.out.bx).2.2.1,(HG.out.below HA.out.bel).cells i hiL,HA.out.end_⟩
       clear hK K'
       try simp only [xga];try simp only [xgs];try simp only [xgz];try simp only [Act.put];try simp only [xsa];try simp only [xss];try simp only [xsz]
       refine wpAnyH_ready (rs:=[9]) (by kernel_rfl) (by simp) ?_
       refine AllReadyH.cons rfl (fun K' hK=>?_) AllReadyH.nil
       refine step_append_any _ rfl (.tmp 37) (.tmp 39) 50 rfl 95 i0 (.agg #[.int .i64 0, .string ⟨#[]⟩, .int .i64 0, .int .i64 0]) 4 40 Tryz.underlying50 hi0 hz0 hz1 hz2 rfl (by decide) v1 (ws++fieldW groupB gs[i]).length (wdsC (ws++fieldW groupB gs[i])) rfl (row_base HA.out.row (Nat.zero_le _)) (some ⟨V1.heap.size,0,none⟩) 1 1 [.int .i64 3, .string ⟨#[59]⟩, .int .i64 0, .int .i64 0] rfl rfl (by intro h;cases h) (by intro ad had;cases had;exact word_new _ _ _ _ _ _) (word_ones _ _ _ _) (by rw [List.length_append,show (fieldW groupB gs[i]).length=2 from rfl];unfold maxLen;omega) (by rw [List.length_append,show (fieldW groupB gs[i]).length=2 from rfl];omega) ?_
       intro a5 c5 w5 hown hg hnew
       have HQ:=xhd (HA.out.push (x:=semiW) hown hg hnew)
       refine hK.out _ _ ?_ (fun hHeld=>?_)
       ·exact⟨(st_cells HQ.out.bx).2.2.1,(HG.out.below HQ.out.bel).cells i hiL,HQ.out.end_⟩
       clear hK K' hown hg hnew
       try simp only [xga];try simp only [xgs];try simp only [xgz];try simp only [Act.put];try simp only [xsa];try simp only [xss];try simp only [xsz]
       refine wpAnyH_take (i:=10) (v:=?_) rfl (by kernel_rfl) (by kernel_rfl) (by kernel_rfl) (fun _ _ _ h=>h) (Or.inl ⟨by rfl,?hy⟩) (by assumption) ?_
       case hy=>
        intro w hSw
        (try dsimp only at hSw)
        obtain⟨s0,s1,s2,s3,s4,s5⟩:=hSw
        go_simp
        try with_reducible rfl
       try simp only [xga];try simp only [xgs];try simp only [xgz];try simp only [Act.put];try simp only [xsa];try simp only [xss];try simp only [xsz]
       refine wpAnyH_done (by kernel_rfl) ?_ _
       refine NoPanic.normal ?_
       try simp only [xga];try simp only [xgs];try simp only [xgz];try simp only [Act.put];try simp only [xsa];try simp only [xss];try simp only [xsz]
       rw [HWS.out,List.length_append] at HQ
       go_wp2
       go_roundg (ng - (i+1))
       case measure=>omega
       case rel=>exact⟨i+1,by omega,rfl,by go_num,HQ⟩
      ·go_simp
       have HA:=xhd (HD.out.below ((Below.refl _ _).alloc (Nat.le_refl _) (.cells #[.int .i64 3, .string ⟨#[59]⟩, .int .i64 0, .int .i64 0] 95)))
       refine hK.out _ _ ?_ (fun hHeld=>?_)
       ·exact⟨(st_cells HA.out.bx).2.2.1,(HG.out.below HA.out.bel).cells i hiL,HA.out.end_⟩
       clear hK K'
       try simp only [xga];try simp only [xgs];try simp only [xgz];try simp only [Act.put];try simp only [xsa];try simp only [xss];try simp only [xsz]
       refine wpAnyH_ready (rs:=[6]) (by kernel_rfl) (by simp) ?_
       refine AllReadyH.cons rfl (fun K' hK=>?_) AllReadyH.nil
       go_simp
       have hm:=HFW.out _ _ _ HA.out.row HA.out.siz (by omega) ⟨#[103,114,111,117,112]⟩ gs[i]
       unfold MoreW at hm
       rw [show (⟨#[103,114,111,117,112]⟩:ByteArray).data.toList=groupB from rfl] at hm
       refine hm.mono ?_
       rintro e V1 ⟨v1,rfl,hr1,hg1⟩
       have H1:=xhd (HA.out.grown hr1 hg1)
       have HNB:=xhd (new_kept HD.out.row hg1)
       clear hm hr1 hg1
       refine hK.out _ _ ?_ (fun hHeld=>?_)
       ·exact⟨(st_cells H1.out.bx).2.2.1,(HG.out.below H1.out.bel).cells i hiL,H1.out.end_⟩
       clear hK K'
       try simp only [xga];try simp only [xgs];try simp only [xgz];try simp only [Act.put];try simp only [xsa];try simp only [xss];try simp only [xsz]
       refine wpAnyH_ready (rs:=[9]) (by kernel_rfl) (by simp) ?_
       refine AllReadyH.cons rfl (fun K' hK=>?_) AllReadyH.nil
       refine step_append_any _ rfl (.tmp 37) (.tmp 39) 50 rfl 95 i0 (.agg #[.int .i64 0, .string ⟨#[]⟩, .int .i64 0, .int .i64 0]) 4 40 Tryz.underlying50 hi0 hz0 hz1 hz2 rfl (by decide) v1 (ws++fieldW groupB gs[i]).length (wdsC (ws++fieldW groupB gs[i])) rfl (row_base H1.out.row (Nat.zero_le _)) (some ⟨wr.heap.size,0,none⟩) 1 1 [.int .i64 3, .string ⟨#[59]⟩, .int .i64 0, .int .i64 0] rfl rfl (by intro h;cases h) (by intro ad had;cases had;exact HNB.out) (word_ones _ _ _ _) (by rw [List.length_append,show (fieldW groupB gs[i]).length=2 from rfl];unfold maxLen;omega) (by rw [List.length_append,show (fieldW groupB gs[i]).length=2 from rfl];omega) ?_
       intro a5 c5 w5 hown hg hnew
       have HQ:=xhd (H1.out.push (x:=semiW) hown hg hnew)
       refine hK.out _ _ ?_ (fun hHeld=>?_)
       ·exact⟨(st_cells HQ.out.bx).2.2.1,(HG.out.below HQ.out.bel).cells i hiL,HQ.out.end_⟩
       clear hK K' hown hg hnew
       try simp only [xga];try simp only [xgs];try simp only [xgz];try simp only [Act.put];try simp only [xsa];try simp only [xss];try simp only [xsz]
       refine wpAnyH_take (i:=10) (v:=?_) rfl (by kernel_rfl) (by kernel_rfl) (by kernel_rfl) (fun _ _ _ h=>h) (Or.inl ⟨by rfl,?hy⟩) (by assumption) ?_
       case hy=>
        intro w hSw
        (try dsimp only at hSw)
        obtain⟨s0,s1,s2,s3,s4,s5⟩:=hSw
        go_simp
        try with_reducible rfl
       try simp only [xga];try simp only [xgs];try simp only [xgz];try simp only [Act.put];try simp only [xsa];try simp only [xss];try simp only [xsz]
       refine wpAnyH_done (by kernel_rfl) ?_ _
       refine NoPanic.normal ?_
       try simp only [xga];try simp only [xgs];try simp only [xgz];try simp only [Act.put];try simp only [xsa];try simp only [xss];try simp only [xsz]
       rw [HWS.out,List.length_append] at HQ
       go_wp2
       go_roundg (ng - (i+1))
       case measure=>omega
       case rel=>exact⟨i+1,by omega,rfl,by go_num,HQ⟩
     ·have HE:Hid ((gs.take i)=gs):=xhd (List.take_of_length_le (by have:=HNG.out;omega))
      have ni:¬(i:Int) < ng:=by omega
      rw [HE.out] at HI
      go_wp2_with fail
      go_meet
      exact HI
   case rest=>
    have HC2:=hcut
    clear HC1
    go_upto_block 2 with (fail)
    go_cut [4,6,7,8] from 41 to 79 (fun v4 v6 v7 v8 wx=>Hid (WsI w wx (stC c g ag ng cg al nl cl ap np cp) v4 ((((fieldW coresB c++[semiW])++fieldW grainB g++[semiW])++gs.flatMap groupW)++ls.flatMap lockW)))
    case first=>
     go_wp2_with fail
     go_loopg [4,6,7,8] nl (fun m v4 v6 v7 v8 wr=>∃i:Nat,i≤nl∧m=nl - i∧v6= .int .i64 (i:Nat)∧Hid (WsI w wr (stC c g ag ng cg al nl cl ap np cp) v4 ((((fieldW coresB c++[semiW])++fieldW grainB g++[semiW])++gs.flatMap groupW)++(ls.take i).flatMap lockW)))
     case atStart=>exact⟨0,Nat.zero_le _,rfl,rfl,xhd (by simpa using HC2.out)⟩
     case round=>
      obtain⟨i,hi,rfl,rfl,HI⟩:=hrel
      obtain⟨-, -, -,c3, -⟩:=st_cells HI.out.bx
      by_cases hlt:i < nl
      ·have hiL:i < ls.length:=by rw [HNL.out];exact hlt
       have j0:(0:Int)≤i:=by omega
       have j1:(i:Int) < nl:=by omega
       have j2:IntKind.i64.wrap ((i:Int)+1)=(i:Int)+1:=by rw [IntKind.wrap_i64];omega
       obtain⟨rfl,hbl0⟩:=HL.out.at_ (by omega)
       have hbl:=Nat.lt_of_lt_of_le hbl0 HI.out.bel.size
       have hcells:=(HL.out.below HI.out.bel).cells i hiL
       obtain⟨⟨sh,sl,cr,rd,wt⟩,hx⟩:∃x,ls[i]=x:=⟨_,rfl⟩
       rw [hx] at hcells
       obtain⟨y0,y1,y2,y3,y4⟩:=hcells
       simp only at y0 y1 y2 y3 y4
       obtain⟨ws,hws⟩:∃z,(((fieldW coresB c++[semiW])++fieldW grainB g++[semiW])++gs.flatMap groupW)++(ls.take i).flatMap lockW=z:=⟨_,rfl⟩
       have hwl:ws.length≤1000:=by
        have h1:=flatW_len (f:=groupW) (k:=3) (fun x=>by simp [groupW,fieldW]) gs
        have h2:=flatW_len (f:=lockW) (k:=10) (fun x=>by obtain⟨sh,a,b,c,d⟩:=x;cases sh<;>simp [lockW,fieldW]) (ls.take i)
        have h3:=HNG.out
        rw [List.length_take] at h2
        rw [←hws]
        simp only [List.length_append,fieldW,List.length_cons,List.length_nil]
        omega
       have HWS:Hid ((((fieldW coresB c++[semiW])++fieldW grainB g++[semiW])++gs.flatMap groupW)++(ls.take (i+1)).flatMap lockW=ws++lockW (sh,sl,cr,rd,wt)):=xhd (by
        rw [take_more lockW hiL, ←hws,hx]
        simp only [List.append_assoc])
       rw [hws] at HI
       have HK1:Hid (WlI w (wr.alloc (.cells #[.bool sh, .int .i64 sl, .int .i64 cr, .int .i64 rd, .int .i64 wt] 100)) _ wr.heap.size (sh,sl,cr,rd,wt) _ ws):=xhd ⟨HI.out.below ((Below.refl _ _).alloc (Nat.le_refl _) _),heap_alloc_new _ _⟩
       clear hws hx
       cases sh with
       |true=>
        have HP15:=xhd (HK1.out.below ((Below.refl _ _).alloc (Nat.le_refl _) (.cells #[.int .i64 1, .string ⟨#[115,104,97,114,101,100]⟩, .int .i64 0, .int .i64 0] 95)))
        go_wp2_with (at_builtin
                     refine wpList_append_any _ rfl _ _ 50 rfl 95 i0 (.agg #[.int .i64 0, .string ⟨#[]⟩, .int .i64 0, .int .i64 0]) 4 40 Tryz.underlying50 hi0 hz0 hz1 hz2 rfl (by decide) _ ws.length (wdsC ws) rfl (row_base HP15.out.i.row (Nat.zero_le _)) (some ⟨_,0,none⟩) 1 1 [.int .i64 1, .string ⟨#[115,104,97,114,101,100]⟩, .int .i64 0, .int .i64 0] rfl rfl (by intro h;cases h) (by intro ad had;cases had;exact word_atk (by simp)) (word_ones _ _ _ _) (by unfold maxLen;omega) (by omega) ?_
                     intro a15 c15 w15 hown hgrow hnew
                     have H15:=xhd (HP15.out.push (x:=(1,sharedB,0,0)) hown hgrow hnew)
                     clear hown hgrow hnew)
        have HD16:=xhd (H15.out.below ((Below.refl _ _).drew))
        refine wp_region_noPanic ?_
        refine wp_region_held_drew (S:=fun V=>V.cell? ⟨wr.heap.size,1,none⟩=some (.int .i64 sl)∧V.cell? ⟨wr.heap.size,2,none⟩=some (.int .i64 cr)) (by kernel_rfl) (by exact⟨(HD16.out.cell 1 (by decide)),(HD16.out.cell 2 (by decide))⟩) (fun hHeld=>?_)
        refine wpAnyH_take (i:=0) (v:=?_) rfl (by kernel_rfl) (by kernel_rfl) (by kernel_rfl) (fun _ _ _ h=>h) (Or.inl ⟨by rfl,?hy⟩) (by assumption) ?_
        case hy=>
         intro w hSw
         (try dsimp only at hSw)
         obtain⟨s0,s1⟩:=hSw
         go_simp
         try with_reducible rfl
        try simp only [xga];try simp only [xgs];try simp only [xgz];try simp only [Act.put];try simp only [xsa];try simp only [xss];try simp only [xsz]
        refine wpAnyH_take (i:=1) (v:=?_) rfl (by kernel_rfl) (by kernel_rfl) (by kernel_rfl) (fun _ _ _ h=>h) (Or.inl ⟨by rfl,?hy⟩) (by assumption) ?_
        case hy=>
         intro w hSw
         (try dsimp only at hSw)
         obtain⟨s0,s1⟩:=hSw
         go_simp
         try with_reducible rfl
        try simp only [xga];try simp only [xgs];try simp only [xgz];try simp only [Act.put];try simp only [xsa];try simp only [xss];try simp only [xsz]
        refine wpAnyH_take (i:=2) (v:=?_) rfl (by kernel_rfl) (by kernel_rfl) (by kernel_rfl) (fun _ _ _ h=>h) (Or.inl ⟨by rfl,?hy⟩) (by assumption) ?_
        case hy=>
         intro w hSw
         (try dsimp only at hSw)
         obtain⟨s0,s1⟩:=hSw
         go_simp
         try with_reducible rfl
        try simp only [xga];try simp only [xgs];try simp only [xgz];try simp only [Act.put];try simp only [xsa];try simp only [xss];try simp only [xsz]
        refine wpAnyH_take (i:=4) (v:=?_) rfl (by kernel_rfl) (by kernel_rfl) (by kernel_rfl) (fun _ _ _ h=>h) (Or.inl ⟨by rfl,?hy⟩) (by assumption) ?_
        case hy=>
         intro w hSw
         (try dsimp only at hSw)
         obtain⟨s0,s1⟩:=hSw
         go_simp
         try with_reducible rfl
        try simp only [xga];try simp only [xgs];try simp only [xgz];try simp only [Act.put];try simp only [xsa];try simp only [xss];try simp only [xsz]
        refine wpAnyH_take (i:=5) (v:=?_) rfl (by kernel_rfl) (by kernel_rfl) (by kernel_rfl) (fun _ _ _ h=>h) (Or.inl ⟨by rfl,?hy⟩) (by assumption) ?_
        case hy=>
         intro w hSw
         (try dsimp only at hSw)
         obtain⟨s0,s1⟩:=hSw
         go_simp
         try with_reducible rfl
        try simp only [xga];try simp only [xgs];try simp only [xgz];try simp only [Act.put];try simp only [xsa];try simp only [xss];try simp only [xsz]
        refine wpAnyH_ready (rs:=[3]) (by kernel_rfl) (by simp) ?_
        refine AllReadyH.cons rfl (fun K' hK=>?_) AllReadyH.nil
        go_simp
        have hm:=HFW.out _ _ _ HD16.out.i.row HD16.out.i.siz (by simp only [List.length_append,List.length_cons,List.length_nil];omega) ⟨#[115,108,105,99,101]⟩ sl
        unfold MoreW at hm
        rw [show (⟨#[115,108,105,99,101]⟩:ByteArray).data.toList=sliceB from rfl] at hm
        refine hm.mono ?_
        rintro e V1 ⟨v1,rfl,hr1,hg1⟩
        have HM16:=xhd (HD16.out.grown hr1 hg1)
        clear hm hr1 hg1
        refine hK.out _ _ ?_ (fun hHeld=>?_)
        ·exact⟨(HM16.out.cell 1 (by decide)),(HM16.out.cell 2 (by decide))⟩
        clear hK K'
        try simp only [xga];try simp only [xgs];try simp only [xgz];try simp only [Act.put];try simp only [xsa];try simp only [xss];try simp only [xsz]
        refine wpAnyH_ready (rs:=[6]) (by kernel_rfl) (by simp) ?_
        refine AllReadyH.cons rfl (fun K' hK=>?_) AllReadyH.nil
        go_simp
        have hm:=HFW.out _ _ _ HM16.out.i.row HM16.out.i.siz (by simp only [List.length_append,List.length_cons,List.length_nil,fieldW];omega) ⟨#[99,114,105,116]⟩ cr
        unfold MoreW at hm
        rw [show (⟨#[99,114,105,116]⟩:ByteArray).data.toList=critB from rfl] at hm
        refine hm.mono ?_
        rintro e V2 ⟨v2,rfl,hr2,hg2⟩
        have H16:=xhd (HM16.out.grown hr2 hg2)
        clear hm hr2 hg2
        refine hK.out _ _ ?_ (fun hHeld=>?_)
        ·exact⟨(H16.out.cell 1 (by decide)),(H16.out.cell 2 (by decide))⟩
        clear hK K'
        try simp only [xga];try simp only [xgs];try simp only [xgz];try simp only [Act.put];try simp only [xsa];try simp only [xss];try simp only [xsz]
        refine wpAnyH_take (i:=7) (v:=?_) rfl (by kernel_rfl) (by kernel_rfl) (by kernel_rfl) (fun _ _ _ h=>h) (Or.inl ⟨by rfl,?hy⟩) (by assumption) ?_
        case hy=>
         intro w hSw
         (try dsimp only at hSw)
         obtain⟨s0,s1⟩:=hSw
         go_simp
         try with_reducible rfl
        try simp only [xga];try simp only [xgs];try simp only [xgz];try simp only [Act.put];try simp only [xsa];try simp only [xss];try simp only [xsz]
        refine wpAnyH_done (by kernel_rfl) ?_ _
        refine NoPanic.normal ?_
        try simp only [xga];try simp only [xgs];try simp only [xgz];try simp only [Act.put];try simp only [xsa];try simp only [xss];try simp only [xsz]
        have y16:=H16.out.cell 0 (by decide)
        simp only [List.getElem?_toArray,List.getElem?_cons_zero] at y16
        go_wp2_with fail
        have HD18:=xhd (H16.out.below ((Below.refl _ _).drew))
        refine wp_region_noPanic ?_
        refine wp_region_held_drew (S:=fun V=>V.cell? ⟨wr.heap.size,3,none⟩=some (.int .i64 rd)∧V.cell? ⟨wr.heap.size,4,none⟩=some (.int .i64 wt)) (by kernel_rfl) (by exact⟨(HD18.out.cell 3 (by decide)),(HD18.out.cell 4 (by decide))⟩) (fun hHeld=>?_)
        refine wpAnyH_take (i:=0) (v:=?_) rfl (by kernel_rfl) (by kernel_rfl) (by kernel_rfl) (fun _ _ _ h=>h) (Or.inl ⟨by rfl,?hy⟩) (by assumption) ?_
        case hy=>
         intro w hSw
         (try dsimp only at hSw)
         obtain⟨s0,s1⟩:=hSw
         go_simp
         try with_reducible rfl
        try simp only [xga];try simp only [xgs];try simp only [xgz];try simp only [Act.put];try simp only [xsa];try simp only [xss];try simp only [xsz]
        refine wpAnyH_take (i:=1) (v:=?_) rfl (by kernel_rfl) (by kernel_rfl) (by kernel_rfl) (fun _ _ _ h=>h) (Or.inl ⟨by rfl,?hy⟩) (by assumption) ?_
        case hy=>
         intro w hSw
         (try dsimp only at hSw)
         obtain⟨s0,s1⟩:=hSw
         go_simp
         try with_reducible rfl
        try simp only [xga];try simp only [xgs];try simp only [xgz];try simp only [Act.put];try simp only [xsa];try simp only [xss];try simp only [xsz]
        refine wpAnyH_take (i:=2) (v:=?_) rfl (by kernel_rfl) (by kernel_rfl) (by kernel_rfl) (fun _ _ _ h=>h) (Or.inl ⟨by rfl,?hy⟩) (by assumption) ?_
        case hy=>
         intro w hSw
         (try dsimp only at hSw)
         obtain⟨s0,s1⟩:=hSw
         go_simp
         try with_reducible rfl
        try simp only [xga];try simp only [xgs];try simp only [xgz];try simp only [Act.put];try simp only [xsa];try simp only [xss];try simp only [xsz]
        refine wpAnyH_take (i:=4) (v:=?_) rfl (by kernel_rfl) (by kernel_rfl) (by kernel_rfl) (fun _ _ _ h=>h) (Or.inl ⟨by rfl,?hy⟩) (by assumption) ?_
        case hy=>
         intro w hSw
         (try dsimp only at hSw)
         obtain⟨s0,s1⟩:=hSw
         go_simp
         try with_reducible rfl
        try simp only [xga];try simp only [xgs];try simp only [xgz];try simp only [Act.put];try simp only [xsa];try simp only [xss];try simp only [xsz]
        refine wpAnyH_take (i:=5) (v:=?_) rfl (by kernel_rfl) (by kernel_rfl) (by kernel_rfl) (fun _ _ _ h=>h) (Or.inl ⟨by rfl,?hy⟩) (by assumption) ?_
        case hy=>
         intro w hSw
         (try dsimp only at hSw)
         obtain⟨s0,s1⟩:=hSw
         go_simp
         try with_reducible rfl
        try simp only [xga];try simp only [xgs];try simp only [xgz];try simp only [Act.put];try simp only [xsa];try simp only [xss];try simp only [xsz]
        refine wpAnyH_ready (rs:=[3]) (by kernel_rfl) (by simp) ?_
        refine AllReadyH.cons rfl (fun K' hK=>?_) AllReadyH.nil
        go_simp
        have hm:=HFW.out _ _ _ HD18.out.i.row HD18.out.i.siz (by simp only [List.length_append,List.length_cons,List.length_nil,fieldW];omega) ⟨#[114,101,97,100]⟩ rd
        unfold MoreW at hm
        rw [show (⟨#[114,101,97,100]⟩:ByteArray).data.toList=readB from rfl] at hm
        refine hm.mono ?_
        rintro e V1 ⟨v1,rfl,hr1,hg1⟩
        have HM18:=xhd (HD18.out.grown hr1 hg1)
        clear hm hr1 hg1
        refine hK.out _ _ ?_ (fun hHeld=>?_)
        ·exact⟨(HM18.out.cell 3 (by decide)),(HM18.out.cell 4 (by decide))⟩
        clear hK K'
        try simp only [xga];try simp only [xgs];try simp only [xgz];try simp only [Act.put];try simp only [xsa];try simp only [xss];try simp only [xsz]
        refine wpAnyH_ready (rs:=[6]) (by kernel_rfl) (by simp) ?_
        refine AllReadyH.cons rfl (fun K' hK=>?_) AllReadyH.nil
        go_simp
        have hm:=HFW.out _ _ _ HM18.out.i.row HM18.out.i.siz (by simp only [List.length_append,List.length_cons,List.length_nil,fieldW];omega) ⟨#[119,114,105,116,101]⟩ wt
        unfold MoreW at hm
        rw [show (⟨#[119,114,105,116,101]⟩:ByteArray).data.toList=writeB from rfl] at hm
        refine hm.mono ?_
        rintro e V2 ⟨v2,rfl,hr2,hg2⟩
        have H18:=xhd (HM18.out.grown hr2 hg2)
        clear hm hr2 hg2
        refine hK.out _ _ ?_ (fun hHeld=>?_)
        ·exact⟨(H18.out.cell 3 (by decide)),(H18.out.cell 4 (by decide))⟩
        clear hK K'
        try simp only [xga];try simp only [xgs];try simp only [xgz];try simp only [Act.put];try simp only [xsa];try simp only [xss];try simp only [xsz]
        refine wpAnyH_take (i:=7) (v:=?_) rfl (by kernel_rfl) (by kernel_rfl) (by kernel_rfl) (fun _ _ _ h=>h) (Or.inl ⟨by rfl,?hy⟩) (by assumption) ?_
        case hy=>
         intro w hSw
         (try dsimp only at hSw)
         obtain⟨s0,s1⟩:=hSw
         go_simp
         try with_reducible rfl
        try simp only [xga];try simp only [xgs];try simp only [xgz];try simp only [Act.put];try simp only [xsa];try simp only [xss];try simp only [xsz]
        refine wpAnyH_done (by kernel_rfl) ?_ _
        refine NoPanic.normal ?_
        try simp only [xga];try simp only [xgs];try simp only [xgz];try simp only [Act.put];try simp only [xsa];try simp only [xss];try simp only [xsz]
        obtain⟨e0,e1,e2,e3⟩:=H18.out.i.end_
        have hel:=lt_of_block H18.out.i.en
        obtain⟨zs,hzs⟩:∃z,(((ws++[((1,sharedB,0,0):Wd)])++fieldW sliceB sl++fieldW critB cr)++fieldW readB rd++fieldW writeB wt)=z:=⟨_,rfl⟩
        have hzl:zs.length≤1100:=by
         rw [←hzs]
         simp only [List.length_append,List.length_cons,List.length_nil,fieldW]
         omega
        rw [hzs] at H18
        have HZ:Hid (zs++[semiW]=(((fieldW coresB c++[semiW])++fieldW grainB g++[semiW])++gs.flatMap groupW)++(ls.take (i+1)).flatMap lockW):=xhd (by rw [←hzs,HWS.out];simp [lockW])
        clear hzs
        have HP19:=xhd (H18.out.below ((Below.refl _ _).alloc (Nat.le_refl _) (.cells #[.int .i64 3, .string ⟨#[59]⟩, .int .i64 0, .int .i64 0] 95)))
        go_wp2_with (at_builtin
                     refine wpList_append_any _ rfl _ _ 50 rfl 95 i0 (.agg #[.int .i64 0, .string ⟨#[]⟩, .int .i64 0, .int .i64 0]) 4 40 Tryz.underlying50 hi0 hz0 hz1 hz2 rfl (by decide) _ zs.length (wdsC zs) rfl (row_base HP19.out.i.row (Nat.zero_le _)) (some ⟨_,0,none⟩) 1 1 [.int .i64 3, .string ⟨#[59]⟩, .int .i64 0, .int .i64 0] rfl rfl (by intro h;cases h) (by intro ad had;cases had;exact word_new _ _ _ _ _ _) (word_ones _ _ _ _) (by unfold maxLen;omega) (by omega) ?_
                     intro a19 c19 w19 hown hgrow hnew
                     have H19:=xhd (HP19.out.push (x:=semiW) hown hgrow hnew)
                     clear hown hgrow hnew)
        have HQ:=xhd H19.out.i
        rw [HZ.out] at HQ
        go_wp2
        go_roundg (nl - (i+1))
        case measure=>omega
        case rel=>exact⟨i+1,by omega,rfl,by go_num,HQ⟩
       |false=>
        have HP15:=xhd (HK1.out.below ((Below.refl _ _).alloc (Nat.le_refl _) (.cells #[.int .i64 1, .string ⟨#[108,111,99,107]⟩, .int .i64 0, .int .i64 0] 95)))
        go_wp2_with (at_builtin
                     refine wpList_append_any _ rfl _ _ 50 rfl 95 i0 (.agg #[.int .i64 0, .string ⟨#[]⟩, .int .i64 0, .int .i64 0]) 4 40 Tryz.underlying50 hi0 hz0 hz1 hz2 rfl (by decide) _ ws.length (wdsC ws) rfl (row_base HP15.out.i.row (Nat.zero_le _)) (some ⟨_,0,none⟩) 1 1 [.int .i64 1, .string ⟨#[108,111,99,107]⟩, .int .i64 0, .int .i64 0] rfl rfl (by intro h;cases h) (by intro ad had;cases had;exact word_atk (by simp)) (word_ones _ _ _ _) (by unfold maxLen;omega) (by omega) ?_
                     intro a15 c15 w15 hown hgrow hnew
                     have H15:=xhd (HP15.out.push (x:=(1,lockB,0,0)) hown hgrow hnew)
                     clear hown hgrow hnew)
        have HD16:=xhd (H15.out.below ((Below.refl _ _).drew))
        refine wp_region_noPanic ?_
        refine wp_region_held_drew (S:=fun V=>V.cell? ⟨wr.heap.size,1,none⟩=some (.int .i64 sl)∧V.cell? ⟨wr.heap.size,2,none⟩=some (.int .i64 cr)) (by kernel_rfl) (by exact⟨(HD16.out.cell 1 (by decide)),(HD16.out.cell 2 (by decide))⟩) (fun hHeld=>?_)
        refine wpAnyH_take (i:=0) (v:=?_) rfl (by kernel_rfl) (by kernel_rfl) (by kernel_rfl) (fun _ _ _ h=>h) (Or.inl ⟨by rfl,?hy⟩) (by assumption) ?_
        case hy=>
         intro w hSw
         (try dsimp only at hSw)
         obtain⟨s0,s1⟩:=hSw
         go_simp
         try with_reducible rfl
        try simp only [xga];try simp only [xgs];try simp only [xgz];try simp only [Act.put];try simp only [xsa];try simp only [xss];try simp only [xsz]
        refine wpAnyH_take (i:=1) (v:=?_) rfl (by kernel_rfl) (by kernel_rfl) (by kernel_rfl) (fun _ _ _ h=>h) (Or.inl ⟨by rfl,?hy⟩) (by assumption) ?_
        case hy=>
         intro w hSw
         (try dsimp only at hSw)
         obtain⟨s0,s1⟩:=hSw
         go_simp
         try with_reducible rfl
        try simp only [xga];try simp only [xgs];try simp only [xgz];try simp only [Act.put];try simp only [xsa];try simp only [xss];try simp only [xsz]
        refine wpAnyH_take (i:=2) (v:=?_) rfl (by kernel_rfl) (by kernel_rfl) (by kernel_rfl) (fun _ _ _ h=>h) (Or.inl ⟨by rfl,?hy⟩) (by assumption) ?_
        case hy=>
         intro w hSw
         (try dsimp only at hSw)
         obtain⟨s0,s1⟩:=hSw
         go_simp
         try with_reducible rfl
        try simp only [xga];try simp only [xgs];try simp only [xgz];try simp only [Act.put];try simp only [xsa];try simp only [xss];try simp only [xsz]
        refine wpAnyH_take (i:=4) (v:=?_) rfl (by kernel_rfl) (by kernel_rfl) (by kernel_rfl) (fun _ _ _ h=>h) (Or.inl ⟨by rfl,?hy⟩) (by assumption) ?_
        case hy=>
         intro w hSw
         (try dsimp only at hSw)
         obtain⟨s0,s1⟩:=hSw
         go_simp
         try with_reducible rfl
        try simp only [xga];try simp only [xgs];try simp only [xgz];try simp only [Act.put];try simp only [xsa];try simp only [xss];try simp only [xsz]
        refine wpAnyH_take (i:=5) (v:=?_) rfl (by kernel_rfl) (by kernel_rfl) (by kernel_rfl) (fun _ _ _ h=>h) (Or.inl ⟨by rfl,?hy⟩) (by assumption) ?_
        case hy=>
         intro w hSw
         (try dsimp only at hSw)
         obtain⟨s0,s1⟩:=hSw
         go_simp
         try with_reducible rfl
        try simp only [xga];try simp only [xgs];try simp only [xgz];try simp only [Act.put];try simp only [xsa];try simp only [xss];try simp only [xsz]
        refine wpAnyH_ready (rs:=[3]) (by kernel_rfl) (by simp) ?_
        refine AllReadyH.cons rfl (fun K' hK=>?_) AllReadyH.nil
        go_simp
        have hm:=HFW.out _ _ _ HD16.out.i.row HD16.out.i.siz (by simp only [List.length_append,List.length_cons,List.length_nil];omega) ⟨#[115,108,105,99,101]⟩ sl
        unfold MoreW at hm
        rw [show (⟨#[115,108,105,99,101]⟩:ByteArray).data.toList=sliceB from rfl] at hm
        refine hm.mono ?_
        rintro e V1 ⟨v1,rfl,hr1,hg1⟩
        have HM16:=xhd (HD16.out.grown hr1 hg1)
        clear hm hr1 hg1
        refine hK.out _ _ ?_ (fun hHeld=>?_)
        ·exact⟨(HM16.out.cell 1 (by decide)),(HM16.out.cell 2 (by decide))⟩
        clear hK K'
        try simp only [xga];try simp only [xgs];try simp only [xgz];try simp only [Act.put];try simp only [xsa];try simp only [xss];try simp only [xsz]
        refine wpAnyH_ready (rs:=[6]) (by kernel_rfl) (by simp) ?_
        refine AllReadyH.cons rfl (fun K' hK=>?_) AllReadyH.nil
        go_simp
        have hm:=HFW.out _ _ _ HM16.out.i.row HM16.out.i.siz (by simp only [List.length_append,List.length_cons,List.length_nil,fieldW];omega) ⟨#[99,114,105,116]⟩ cr
        unfold MoreW at hm
        rw [show (⟨#[99,114,105,116]⟩:ByteArray).data.toList=critB from rfl] at hm
        refine hm.mono ?_
        rintro e V2 ⟨v2,rfl,hr2,hg2⟩
        have H16:=xhd (HM16.out.grown hr2 hg2)
        clear hm hr2 hg2
        refine hK.out _ _ ?_ (fun hHeld=>?_)
        ·exact⟨(H16.out.cell 1 (by decide)),(H16.out.cell 2 (by decide))⟩
        clear hK K'
        try simp only [xga];try simp only [xgs];try simp only [xgz];try simp only [Act.put];try simp only [xsa];try simp only [xss];try simp only [xsz]
        refine wpAnyH_take (i:=7) (v:=?_) rfl (by kernel_rfl) (by kernel_rfl) (by kernel_rfl) (fun _ _ _ h=>h) (Or.inl ⟨by rfl,?hy⟩) (by assumption) ?_
        case hy=>
         intro w hSw
         (try dsimp only at hSw)
         obtain⟨s0,s1⟩:=hSw
         go_simp
         try with_reducible rfl
        try simp only [xga];try simp only [xgs];try simp only [xgz];try simp only [Act.put];try simp only [xsa];try simp only [xss];try simp only [xsz]
        refine wpAnyH_done (by kernel_rfl) ?_ _
        refine NoPanic.normal ?_
        try simp only [xga];try simp only [xgs];try simp only [xgz];try simp only [Act.put];try simp only [xsa];try simp only [xss];try simp only [xsz]
        have y16:=H16.out.cell 0 (by decide)
        simp only [List.getElem?_toArray,List.getElem?_cons_zero] at y16
        obtain⟨e0,e1,e2,e3⟩:=H16.out.i.end_
        have hel:=lt_of_block H16.out.i.en
        obtain⟨zs,hzs⟩:∃z,((ws++[((1,lockB,0,0):Wd)])++fieldW sliceB sl++fieldW critB cr)=z:=⟨_,rfl⟩
        have hzl:zs.length≤1100:=by
         rw [←hzs]
         simp only [List.length_append,List.length_cons,List.length_nil,fieldW]
         omega
        rw [hzs] at H16
        have HZ:Hid (zs++[semiW]=(((fieldW coresB c++[semiW])++fieldW grainB g++[semiW])++gs.flatMap groupW)++(ls.take (i+1)).flatMap lockW):=xhd (by rw [←hzs,HWS.out];simp [lockW])
        clear hzs
        have HP19:=xhd (H16.out.below ((Below.refl _ _).alloc (Nat.le_refl _) (.cells #[.int .i64 3, .string ⟨#[59]⟩, .int .i64 0, .int .i64 0] 95)))
        go_wp2_with (at_builtin
                     refine wpList_append_any _ rfl _ _ 50 rfl 95 i0 (.agg #[.int .i64 0, .string ⟨#[]⟩, .int .i64 0, .int .i64 0]) 4 40 Tryz.underlying50 hi0 hz0 hz1 hz2 rfl (by decide) _ zs.length (wdsC zs) rfl (row_base HP19.out.i.row (Nat.zero_le _)) (some ⟨_,0,none⟩) 1 1 [.int .i64 3, .string ⟨#[59]⟩, .int .i64 0, .int .i64 0] rfl rfl (by intro h;cases h) (by intro ad had;cases had;exact word_new _ _ _ _ _ _) (word_ones _ _ _ _) (by unfold maxLen;omega) (by omega) ?_
                     intro a19 c19 w19 hown hgrow hnew
                     have H19:=xhd (HP19.out.push (x:=semiW) hown hgrow hnew)
                     clear hown hgrow hnew)
        have HQ:=xhd H19.out.i
        rw [HZ.out] at HQ
        go_wp2
        go_roundg (nl - (i+1))
        case measure=>omega
        case rel=>exact⟨i+1,by omega,rfl,by go_num,HQ⟩
      ·have HE:Hid ((ls.take i)=ls):=xhd (List.take_of_length_le (by have:=HNL.out;omega))
       have ni:¬(i:Int) < nl:=by omega
       rw [HE.out] at HI
       go_wp2_with fail
       go_meet
       exact HI
    case rest=>
     have HC3:=hcut
     clear HC2
     go_upto_block 4 with (fail)
     go_cut [4,9] from 80 to 94 (fun v4 v9 wx=>Hid (WsI w wx (stC c g ag ng cg al nl cl ap np cp) v4 (((((fieldW coresB c++[semiW])++fieldW grainB g++[semiW])++gs.flatMap groupW)++ls.flatMap lockW)++ps.flatMap wordsR)))
     case first=>
      go_wp2_with fail
      go_loopg [4,9] np (fun m v4 v9 wr=>∃i:Nat,i≤np∧m=np - i∧v9= .int .i64 (i:Nat)∧Hid (WsI w wr (stC c g ag ng cg al nl cl ap np cp) v4 (((((fieldW coresB c++[semiW])++fieldW grainB g++[semiW])++gs.flatMap groupW)++ls.flatMap lockW)++(ps.take i).flatMap wordsR)))
      case atStart=>exact⟨0,Nat.zero_le _,rfl,rfl,xhd (by simpa using HC3.out)⟩
      case round=>
       obtain⟨i,hi,rfl,rfl,HI⟩:=hrel
       obtain⟨-, -, -, -,c4⟩:=st_cells HI.out.bx
       by_cases hlt:i < np
       ·have hiL:i < ps.length:=by rw [HNP.out];exact hlt
        have j0:(0:Int)≤i:=by omega
        have j1:(i:Int) < np:=by omega
        have j2:IntKind.i64.wrap ((i:Int)+1)=(i:Int)+1:=by rw [IntKind.wrap_i64];omega
        obtain⟨rfl,hbl0⟩:=HP.out.at_ (by omega)
        have hbl:=Nat.lt_of_lt_of_le hbl0 HI.out.bel.size
        obtain⟨ai,bi,oi,ci,y0,y1,hoa⟩:=(HP.out.below HI.out.bel).cells i hiL
        obtain⟨hq1,hq2⟩:=HZO.out _ (List.getElem_mem hiL)
        obtain⟨⟨f,P⟩,hx⟩:∃x,ps[i]=x:=⟨_,rfl⟩
        rw [hx] at y0 y1 hoa hq1 hq2
        simp only at y0 y1 hoa hq1 hq2
        obtain⟨ws,hws⟩:∃z,((((fieldW coresB c++[semiW])++fieldW grainB g++[semiW])++gs.flatMap groupW)++ls.flatMap lockW)++(ps.take i).flatMap wordsR=z:=⟨_,rfl⟩
        have hwl:ws.length≤2000:=by
         have h1:=flatW_len (f:=groupW) (k:=3) (fun x=>by simp [groupW,fieldW]) gs
         have h2:=flatW_len (f:=lockW) (k:=10) (fun x=>by obtain⟨sh,a,b,c,d⟩:=x;cases sh<;>simp [lockW,fieldW]) ls
         have h3:((ps.take i).flatMap wordsR).length≤60*(ps.take i).length:=flat_in (fun x hx=>by
          have:=HZO.out x (List.mem_of_mem_take hx)
          exact words_le this.1)
         have h4:=HNG.out
         have h5:=HNL.out
         rw [List.length_take] at h3
         rw [←hws]
         simp only [List.length_append,fieldW,List.length_cons,List.length_nil]
         omega
        have hw60:=words_le (p:=(f,P)) hq1
        have HWS:Hid (((((fieldW coresB c++[semiW])++fieldW grainB g++[semiW])++gs.flatMap groupW)++ls.flatMap lockW)++(ps.take (i+1)).flatMap wordsR=ws++wordsR (f,P)):=xhd (by
         rw [take_more wordsR hiL, ←hws,hx]
         simp only [List.append_assoc])
        rw [hws] at HI
        have HPW:=xhd (rwords_any f ai bi oi ci P wr hoa (by omega) hq2)
        have hwp:0 < (wordsR (f,P)).length:=by
         obtain⟨l,hl⟩:=words_pos (f,P)
         rw [hl]
         simp
        obtain⟨xs,hxs⟩:∃xs,wordsR (f,P)=xs:=⟨_,rfl⟩
        rw [hxs] at HPW HWS hw60 hwp
        clear hws hx hxs hoa
        go_wp2_with fail
        refine HPW.out.mono ?_
        rintro r w3 ⟨v3,rfl,hrow3,hb⟩
        have HI3:=xhd (HI.out.below hb)
        obtain⟨go,co,rfl,_,_⟩:=ownsRow_pos hrow3 hwp
        have HR3:=xhd hrow3
        clear hb hrow3 hwp
        go_wp2_with (at_builtin
                     refine wpList_append_any _ rfl _ _ 50 rfl 95 i0 (.agg #[.int .i64 0, .string ⟨#[]⟩, .int .i64 0, .int .i64 0]) 4 40 Tryz.underlying50 hi0 hz0 hz1 hz2 rfl (by decide) _ ws.length (wdsC ws) rfl (row_base HI3.out.row (Nat.zero_le _)) (some ⟨go,0,none⟩) xs.length co (wdsC xs) rfl (by rw [wdsC_len]) (by intro h;cases h) (by intro ad had;cases had;exact HR3.out.cells (g:=go) rfl) (wdsC_one _) (by unfold maxLen;omega) (by omega) ?_
                     intro a5 c5 w5 hown hgrow hnew
                     have H5:=xhd (HI3.out.pushl hown hgrow hnew)
                     clear hown hgrow hnew)
        have HQ:=H5
        rw [←HWS.out] at HQ
        go_wp2
        go_roundg (np - (i+1))
        case measure=>omega
        case rel=>exact⟨i+1,by omega,rfl,by go_num,HQ⟩
       ·have HE:Hid ((ps.take i)=ps):=xhd (List.take_of_length_le (by have:=HNP.out;omega))
        have ni:¬(i:Int) < np:=by omega
        rw [HE.out] at HI
        go_wp2_with fail
        go_meet
        exact HI
     case rest=>
      have HC4:=hcut
      clear HC3
      have HW:Hid ((((((fieldW coresB c++[semiW])++fieldW grainB g++[semiW])++gs.flatMap groupW)++ls.flatMap lockW)++ps.flatMap wordsR)=R):=xhd (by rw [←HR.out];simp [wordsS])
      rw [HW.out] at HC4
      go_wp2
      go_ret
      exact⟨_,rfl,row_base HC4.out.row (by omega),HC4.out.bel⟩
end Go.Proofs.YtbnhnnccioljhaaGreatDoor
