/-
  A list in memory of its own, of five types. (Made by gen_scown.py.)
  A setup in memory of its own.
  The program's Head of scripts.
  ScriptHead's walk. (Made by gen_scheadl.py.)
-/
import Derived.Test.YtbnhnnccioljhaaGreatDoorZBM
import Derived.Test.YtbnhnnccioljhaaGreatDoorZBI
import Derived.Test.YtbnhnnccioljhaaGreatDoorZAH
import Derived.Deep.RegionWith
import Derived.Deep.RegionHeld3
import Derived.Test.YtbnhnnccioljhaaGreatDoorZBB
import Derived.Test.YtbnhnnccioljhaaGreatDoorZAl
set_option maxRecDepth 100000
set_option maxHeartbeats 25600000
namespace Go.Proofs.YtbnhnnccioljhaaGreatDoor
open Go.RowKit
def OwnP (e:TypeId) (k n:Nat) (news:List Value) (w:World) (r:Ending) (w':World):Prop:=∃v,r= .returned v∧w'.ownsRow w.heap.size e k v n news∧Below w.heap.size w w'
theorem own_end {e:TypeId} {k n:Nat} {news:List Value} {w w4:World} {v:Value} (hown:w4.ownsRow 0 e k v n news) (hgrow:w.grownBy w4 (Value.slice none 0 0).ownBlock) (hnew:∀g ∈ v.ownBlock.toList,g ∈ (Value.slice none 0 0).ownBlock.toList∨w.heap.size≤g):w4.ownsRow w.heap.size e k v n news∧Below w.heap.size w w4:=by
 refine⟨arow_up hown (fun g hg=>?_),(Below.refl _ w).grown hgrow (Nat.le_refl _) (fun k hk=>by simp [Value.ownBlock] at hk)⟩
 rcases hnew g hg with h|h
 ·simp [Value.ownBlock] at h
 ·exact h
theorem own_int (ao:Option Addr) (n cap:Nat) (news:List Value) (w:World) (hl:news.length=n*1) (hnone:ao=none→n=0) (hnews:∀ad,ao=some ad→∀(j:Nat) u,news[j]?=some u→w.cell? (ad.add j)=some u) (h1:∀u ∈ news,u.oneCell'=true) (hm:n≤100000):
  Calls Tryz.prog 82 #[.slice ao n cap] w (OwnP 3 1 n news w):=by
 obtain⟨i0,hi0,hz0,hz1,hz2⟩:=info_parts int_info
 cases ao with
 |none=>
  have h0:=hnone rfl
  subst h0
  have hn:news=[]:=List.eq_nil_of_length_eq_zero (by simpa using hl)
  subst hn
  clear hl hnone hnews h1 hm
  go_enter Tryz.func82,Tryz.ntmps82
  go_wp2
  go_ret
  exact⟨_,rfl,World.ownsRow_nil _ _ _ _,Below.refl _ _⟩
 |some ad=>
  have HN:=xhd (hnews ad rfl)
  have HO:=xhd h1
  have HL:=xhd hl
  clear hl hnone hnews h1
  go_enter Tryz.func82,Tryz.ntmps82
  go_wp2_with (at_builtin;refine wpList_append_any _ rfl _ _ 22 rfl 3 i0 (.int .i64 0) 1 8 Tryz.underlying22 hi0 hz0 hz1 hz2 rfl (by decide) _ 0 [] rfl (World.ownsRow_nil _ _ _ _) (some ad) n cap news rfl HL.out (by intro h;cases h) (by intro ad' h;cases h;exact HN.out) HO.out (by unfold maxLen;omega) (by omega) ?_;intro a4 c4 w4 hown hgrow hnew)
  rw [Nat.zero_add] at hown hnew
  rw [List.nil_append] at hown
  have HE:=xhd (own_end hown hgrow hnew)
  clear hown hgrow hnew
  go_ret
  exact⟨_,rfl,HE.out⟩
theorem own_lk (ao:Option Addr) (n cap:Nat) (news:List Value) (w:World) (hl:news.length=n*5) (hnone:ao=none→n=0) (hnews:∀ad,ao=some ad→∀(j:Nat) u,news[j]?=some u→w.cell? (ad.add j)=some u) (h1:∀u ∈ news,u.oneCell'=true) (hm:n≤100000):
  Calls Tryz.prog 83 #[.slice ao n cap] w (OwnP 100 5 n news w):=by
 obtain⟨i0,hi0,hz0,hz1,hz2⟩:=info_parts lock_info
 cases ao with
 |none=>
  have h0:=hnone rfl
  subst h0
  have hn:news=[]:=List.eq_nil_of_length_eq_zero (by simpa using hl)
  subst hn
  clear hl hnone hnews h1 hm
  go_enter Tryz.func83,Tryz.ntmps83
  go_wp2
  go_ret
  exact⟨_,rfl,World.ownsRow_nil _ _ _ _,Below.refl _ _⟩
 |some ad=>
  have HN:=xhd (hnews ad rfl)
  have HO:=xhd h1
  have HL:=xhd hl
  clear hl hnone hnews h1
  go_enter Tryz.func83,Tryz.ntmps83
  go_wp2_with (at_builtin;refine wpList_append_any _ rfl _ _ 23 rfl 100 i0 (.agg #[.bool false, .int .i64 0, .int .i64 0, .int .i64 0, .int .i64 0]) 5 40 Tryz.underlying23 hi0 hz0 hz1 hz2 rfl (by decide) _ 0 [] rfl (World.ownsRow_nil _ _ _ _) (some ad) n cap news rfl HL.out (by intro h;cases h) (by intro ad' h;cases h;exact HN.out) HO.out (by unfold maxLen;omega) (by omega) ?_;intro a4 c4 w4 hown hgrow hnew)
  rw [Nat.zero_add] at hown hnew
  rw [List.nil_append] at hown
  have HE:=xhd (own_end hown hgrow hnew)
  clear hown hgrow hnew
  go_ret
  exact⟨_,rfl,HE.out⟩
theorem own_pg (ao:Option Addr) (n cap:Nat) (news:List Value) (w:World) (hl:news.length=n*2) (hnone:ao=none→n=0) (hnews:∀ad,ao=some ad→∀(j:Nat) u,news[j]?=some u→w.cell? (ad.add j)=some u) (h1:∀u ∈ news,u.oneCell'=true) (hm:n≤100000):
  Calls Tryz.prog 84 #[.slice ao n cap] w (OwnP 49 2 n news w):=by
 obtain⟨i0,hi0,hz0,hz1,hz2⟩:=info_parts prog_info
 cases ao with
 |none=>
  have h0:=hnone rfl
  subst h0
  have hn:news=[]:=List.eq_nil_of_length_eq_zero (by simpa using hl)
  subst hn
  clear hl hnone hnews h1 hm
  go_enter Tryz.func84,Tryz.ntmps84
  go_wp2
  go_ret
  exact⟨_,rfl,World.ownsRow_nil _ _ _ _,Below.refl _ _⟩
 |some ad=>
  have HN:=xhd (hnews ad rfl)
  have HO:=xhd h1
  have HL:=xhd hl
  clear hl hnone hnews h1
  go_enter Tryz.func84,Tryz.ntmps84
  go_wp2_with (at_builtin;refine wpList_append_any _ rfl _ _ 24 rfl 49 i0 (.agg #[.bool false, .slice none 0 0]) 2 32 Tryz.underlying24 hi0 hz0 hz1 hz2 rfl (by decide) _ 0 [] rfl (World.ownsRow_nil _ _ _ _) (some ad) n cap news rfl HL.out (by intro h;cases h) (by intro ad' h;cases h;exact HN.out) HO.out (by unfold maxLen;omega) (by omega) ?_;intro a4 c4 w4 hown hgrow hnew)
  rw [Nat.zero_add] at hown hnew
  rw [List.nil_append] at hown
  have HE:=xhd (own_end hown hgrow hnew)
  clear hown hgrow hnew
  go_ret
  exact⟨_,rfl,HE.out⟩
theorem own_op (ao:Option Addr) (n cap:Nat) (news:List Value) (w:World) (hl:news.length=n*3) (hnone:ao=none→n=0) (hnews:∀ad,ao=some ad→∀(j:Nat) u,news[j]?=some u→w.cell? (ad.add j)=some u) (h1:∀u ∈ news,u.oneCell'=true) (hm:n≤100000):
  Calls Tryz.prog 85 #[.slice ao n cap] w (OwnP 142 3 n news w):=by
 obtain⟨i0,hi0,hz0,hz1,hz2⟩:=info_parts op_info
 cases ao with
 |none=>
  have h0:=hnone rfl
  subst h0
  have hn:news=[]:=List.eq_nil_of_length_eq_zero (by simpa using hl)
  subst hn
  clear hl hnone hnews h1 hm
  go_enter Tryz.func85,Tryz.ntmps85
  go_wp2
  go_ret
  exact⟨_,rfl,World.ownsRow_nil _ _ _ _,Below.refl _ _⟩
 |some ad=>
  have HN:=xhd (hnews ad rfl)
  have HO:=xhd h1
  have HL:=xhd hl
  clear hl hnone hnews h1
  go_enter Tryz.func85,Tryz.ntmps85
  go_wp2_with (at_builtin;refine wpList_append_any _ rfl _ _ 47 rfl 142 i0 (.agg #[.int .i64 0, .int .i64 0, .int .i64 0]) 3 24 Tryz.underlying47 hi0 hz0 hz1 hz2 rfl (by decide) _ 0 [] rfl (World.ownsRow_nil _ _ _ _) (some ad) n cap news rfl HL.out (by intro h;cases h) (by intro ad' h;cases h;exact HN.out) HO.out (by unfold maxLen;omega) (by omega) ?_;intro a4 c4 w4 hown hgrow hnew)
  rw [Nat.zero_add] at hown hnew
  rw [List.nil_append] at hown
  have HE:=xhd (own_end hown hgrow hnew)
  clear hown hgrow hnew
  go_ret
  exact⟨_,rfl,HE.out⟩
theorem own_ac (ao:Option Addr) (n cap:Nat) (news:List Value) (w:World) (hl:news.length=n*5) (hnone:ao=none→n=0) (hnews:∀ad,ao=some ad→∀(j:Nat) u,news[j]?=some u→w.cell? (ad.add j)=some u) (h1:∀u ∈ news,u.oneCell'=true) (hm:n≤100000):
  Calls Tryz.prog 42 #[.slice ao n cap] w (OwnP 73 5 n news w):=by
 obtain⟨i0,hi0,hz0,hz1,hz2⟩:=info_parts act_info
 cases ao with
 |none=>
  have h0:=hnone rfl
  subst h0
  have hn:news=[]:=List.eq_nil_of_length_eq_zero (by simpa using hl)
  subst hn
  clear hl hnone hnews h1 hm
  go_enter Tryz.func42,Tryz.ntmps42
  go_wp2
  go_ret
  exact⟨_,rfl,World.ownsRow_nil _ _ _ _,Below.refl _ _⟩
 |some ad=>
  have HN:=xhd (hnews ad rfl)
  have HO:=xhd h1
  have HL:=xhd hl
  clear hl hnone hnews h1
  go_enter Tryz.func42,Tryz.ntmps42
  go_wp2_with (at_builtin;refine wpList_append_any _ rfl _ _ 27 rfl 73 i0 (.agg #[.int .i64 0, .int .i64 0, .int .i64 0, .int .i64 0, .int .i64 0]) 5 40 Tryz.underlying27 hi0 hz0 hz1 hz2 rfl (by decide) _ 0 [] rfl (World.ownsRow_nil _ _ _ _) (some ad) n cap news rfl HL.out (by intro h;cases h) (by intro ad' h;cases h;exact HN.out) HO.out (by unfold maxLen;omega) (by omega) ?_;intro a4 c4 w4 hown hgrow hnew)
  rw [Nat.zero_add] at hown hnew
  rw [List.nil_append] at hown
  have HE:=xhd (own_end hown hgrow hnew)
  clear hown hgrow hnew
  go_ret
  exact⟨_,rfl,HE.out⟩
theorem row_put {w:World} {base:Nat} {e:TypeId} {size g n cap:Nat} {xs:List Value} (h:w.ownsRow base e size (.slice (some ⟨g,0,none⟩) n cap) n xs) (i:Nat) (u:Value):(w.setCell ⟨g,i,none⟩ u).ownsRow base e size (.slice (some ⟨g,0,none⟩) n cap) n (xs.set i u):=by
 rcases h.2 with⟨h2,_⟩ |⟨g2,cap2,cur,h2,hb,hg,h3,h4,h5,h6⟩
 ·simp at h2
 ·simp only [Value.slice.injEq,Option.some.injEq,Addr.mk.injEq,and_true,true_and] at h2
  obtain⟨rfl,rfl⟩:=h2
  refine⟨by rw [List.length_set];exact h.1, .inr ⟨g,cap,_,rfl,hb,heap_setCell_same _ _ _ _ _ _ hg,h3,h4,by simpa using h5,?_⟩⟩
  rw [←h6]
  simp [List.take_set]
theorem ints_own {w:World} {ao:Option Addr} {b off:Nat} {L:List Int} (h:IArg w ao b off L) (cap:Nat) (hm:L.length≤100000):Calls Tryz.prog 82 #[.slice ao L.length cap] w (OwnP 3 1 L.length (cellsOf gC L) w):=by
 refine own_int ao _ cap _ w (cellsOf_len gC_len L) (fun h0=>?_) (fun ad had j u hu=>?_) (cells_one gC_one L) hm
 ·rcases Nat.eq_zero_or_pos L.length with h1|h1
  ·exact h1
  ·rw [(h.at_ h1).1] at h0;cases h0
 ·have hj:=(List.getElem?_eq_some_iff.1 hu).1
  rw [cellsOf_len gC_len L,Nat.mul_one] at hj
  have h1:=(h.at_ (by omega)).1
  rw [had] at h1
  injection h1 with h1
  subst h1
  have h2:=cellsOf_get gC_len L j 0 hj (by decide)
  rw [Nat.mul_one,Nat.add_zero,hu] at h2
  rw [Addr.add_lit,h.cells j hj,h2]
  rfl
theorem acts_own {w:World} {ao:Option Addr} {b off:Nat} {L:List Ac} (h:AArg w ao b off L) (cap:Nat) (hm:L.length≤100000):Calls Tryz.prog 42 #[.slice ao L.length cap] w (OwnP 73 5 L.length (acsC L) w):=by
 refine own_ac ao _ cap _ w (acsC_len L) (fun h0=>?_) (fun ad had j u hu=>?_) (acsC_one L) hm
 ·rcases Nat.eq_zero_or_pos L.length with h1|h1
  ·exact h1
  ·rw [(h.at_ h1).1] at h0;cases h0
 ·have hj:=(List.getElem?_eq_some_iff.1 hu).1
  rw [acsC_len] at hj
  have h1:=(h.at_ (by omega)).1
  rw [had] at h1
  injection h1 with h1
  subst h1
  exact aarg_cells h j u hu
theorem ops_own {w:World} {ao:Option Addr} {b off:Nat} {L:List Opn} (h:OArg w ao b off L) (cap:Nat) (hm:L.length≤100000):Calls Tryz.prog 85 #[.slice ao L.length cap] w (OwnP 142 3 L.length (opsC L) w):=by
 refine own_op ao _ cap _ w (opsC_len L) (fun h0=>?_) (fun ad had j u hu=>?_) (opsC_one L) hm
 ·rcases Nat.eq_zero_or_pos L.length with h1|h1
  ·exact h1
  ·rw [(h.at_ h1).1] at h0;cases h0
 ·have hj:=(List.getElem?_eq_some_iff.1 hu).1
  rw [opsC_len] at hj
  have h1:=(h.at_ (by omega)).1
  rw [had] at h1
  injection h1 with h1
  subst h1
  exact oarg_cells h j u hu
end Go.Proofs.YtbnhnnccioljhaaGreatDoor
namespace Go.Proofs.YtbnhnnccioljhaaGreatDoor
open Go.RowKit
theorem locks_own {w:World} {ao:Option Addr} {b off:Nat} {L:List Lk} (h:LArg w ao b off L) (cap:Nat) (hm:L.length≤100000):Calls Tryz.prog 83 #[.slice ao L.length cap] w (OwnP 100 5 L.length (cellsOf lkC L) w):=by
 refine own_lk ao _ cap _ w (cellsOf_len lkC_len L) (fun h0=>?_) (fun ad had j u hu=>?_) (cells_one lkC_one L) hm
 ·rcases Nat.eq_zero_or_pos L.length with h1|h1
  ·exact h1
  ·rw [(h.at_ h1).1] at h0;cases h0
 ·have hj:=(List.getElem?_eq_some_iff.1 hu).1
  rw [cellsOf_len lkC_len L] at hj
  have h1:=(h.at_ (by omega)).1
  rw [had] at h1
  injection h1 with h1
  subst h1
  have hd:j / 5 < L.length:=by omega
  obtain⟨x0,x1,x2,x3,x4⟩:=h.cells (j / 5) hd
  have he:j=j / 5*5+j % 5:=by omega
  have hm5:j % 5 < 5:=by omega
  rw [he,cellsOf_get lkC_len L (j / 5) (j % 5) hd hm5] at hu
  rw [Addr.add_lit,show off+j=off+j / 5*5+j % 5 by omega]
  have h3:j % 5=0∨j % 5=1∨j % 5=2∨j % 5=3∨j % 5=4:=by omega
  rcases h3 with h|h|h|h|h<;>rw [h] at hu ⊢ <;>simp [lkC] at hu<;>subst hu
  ·exact x0
  ·exact x1
  ·exact x2
  ·exact x3
  ·exact x4
theorem progs_pairs {w:World} {ao:Option Addr} {b off:Nat} {L:List Prg} (h:GArg w ao b off L):∃xs:List (Prg×Value),xs.map (·.1)=L∧(∀x ∈ xs,∃(ai:Option Addr) (bi oi ci:Nat),x.2= .slice ai x.1.2.length ci∧OArg w ai bi oi x.1.2)∧(∀(j:Nat) u,(cellsOf pgC xs)[j]?=some u→w.cell? ((⟨b,off,none⟩:Addr).add j)=some u):=by
 have each:∀i,∃v:Value,∀hi:i < L.length,w.cell? ⟨b,off+i*2,none⟩=some (.bool L[i].1)∧w.cell? ⟨b,off+i*2+1,none⟩=some v∧∃(ai:Option Addr) (bi oi ci:Nat),v= .slice ai L[i].2.length ci∧OArg w ai bi oi L[i].2:=by
  intro i
  by_cases hi:i < L.length
  ·obtain⟨ai,bi,oi,ci,h0,h1,h2⟩:=h.cells i hi
   exact⟨_,fun _=>⟨h0,h1,ai,bi,oi,ci,rfl,h2⟩⟩
  ·exact⟨undef,fun h=>absurd h hi⟩
 obtain⟨G,hG⟩:=Classical.axiomOfChoice each
 refine⟨L.zipIdx.map (fun y:Prg×Nat=>(y.1,G y.2)),?_,?_,?_⟩
 ·refine List.ext_getElem (by simp) fun i h1 h2=>?_
  simp
 ·intro x hx
  obtain⟨y,hy,rfl⟩:=List.mem_map.1 hx
  obtain⟨i,hi,he⟩:=List.getElem_of_mem hy
  have hl:i < L.length:=by simpa using hi
  rw [List.getElem_zipIdx] at he
  subst he
  simpa using (hG i hl).2.2
 ·intro j u hu
  have hj:=(List.getElem?_eq_some_iff.1 hu).1
  rw [cellsOf_len pgC_len] at hj
  simp only [List.length_map,List.length_zipIdx] at hj
  have hd:j / 2 < L.length:=by omega
  obtain⟨h0,h1,_⟩:=hG (j / 2) hd
  have he:j=j / 2*2+j % 2:=by omega
  rw [he,cellsOf_get pgC_len _ (j / 2) (j % 2) (by simpa using hd) (by omega)] at hu
  rw [Addr.add_lit,show off+j=off+j / 2*2+j % 2 by omega]
  have h3:j % 2=0∨j % 2=1:=by omega
  rcases h3 with h|h<;>rw [h] at hu ⊢ <;>simp [pgC] at hu<;>subst hu
  ·exact h0
  ·exact h1
structure HsI (w V:World) (x:Array Value):Prop where
 box:V.heap[w.heap.size]?=some (.cells x 26 (0,0))
 res:V.heap[w.heap.size+1]?=some (.cells zeroSt 26 (0,0))
 bel:Below w.heap.size w V
section
variable {w V V':World} {x:Array Value}
theorem HsI.below (h:HsI w V x) (hb:Below V.heap.size V V'):HsI w V' x:=
 ⟨(hb.block _ (lt_of_block h.box)).trans h.box,(hb.block _ (lt_of_block h.res)).trans h.res,h.bel.trans (hb.mono h.bel.size)⟩
theorem HsI.set (h:HsI w V x) (k:Nat) (u:Value):HsI w (V.setCell ⟨w.heap.size,k,none⟩ u) (x.setIfInBounds k u):=
 ⟨heap_setCell_same _ _ _ _ _ _ h.box,(Below.heap_setCell _ _ _ _ (by show w.heap.size+1≠w.heap.size;omega)).trans h.res,h.bel.setCell (Nat.le_refl _) _⟩
theorem HsI.start (w:World) (x:Array Value):HsI w ((w.alloc (.cells x 26)).alloc (.cells zeroSt 26)) x:=by
 have h2:=heap_alloc_new (w.alloc (.cells x 26)) (.cells zeroSt 26)
 rw [World.size_alloc] at h2
 exact⟨(Below.heap_alloc _ _ _ (by simp)).trans (heap_alloc_new w _),h2,((Below.refl _ w).alloc (Nat.le_refl _) _).alloc (by simp) _⟩
end
structure LpI (w V:World) (c g:Int) (vg vl vp:Value) (gs:List Int) (ls:List Lk) (ps:List Prg) (xs:List (Prg×Value)) (i:Nat):Prop where
 h:HsI w V #[.int .i64 c, .int .i64 g,vg,vl,vp]
 gr:GRow (w.heap.size+2) V vg gs
 lr:LkRow (w.heap.size+2) V vl ls
 pr:PRow (w.heap.size+2) V vp xs
 ps:xs.map (·.1)=ps
 dn:∀j (hj:j < xs.length),j < i→ORow (w.heap.size+2) V xs[j].2 xs[j].1.2
 up:∀j (hj:j < xs.length),i≤j→∃(ai:Option Addr) (bi oi ci:Nat),xs[j].2= .slice ai xs[j].1.2.length ci∧OArg w ai bi oi xs[j].1.2
theorem LpI.step {w V W:World} {c g:Int} {vg vl v3:Value} {q np cp:Nat} {gs:List Int} {ls:List Lk} {ps:List Prg} {xs:List (Prg×Value)} {i:Nat} (h:LpI w V c g vg vl (.slice (some ⟨q,0,none⟩) np cp) gs ls ps xs i) (hi:i < xs.length) (hb:Below V.heap.size V W) (hr:ORow (w.heap.size+2) W v3 xs[i].1.2):
  LpI w (W.setCell ⟨q,i*2+1,none⟩ v3) c g vg vl (.slice (some ⟨q,0,none⟩) np cp) gs ls ps (xs.set i (xs[i].1,v3)) (i+1):=by
 have hq:w.heap.size+2≤q:=(h.pr.lt q (by simp [Value.ownBlock])).1
 have hp:=row_below h.pr hb
 have hoff:∀ {e:TypeId} {size n:Nat} {u:Value} {ys:List Value},W.ownsRow (w.heap.size+2) e size u n ys→e≠49→(W.setCell ⟨q,i*2+1,none⟩ v3).ownsRow (w.heap.size+2) e size u n ys:=fun {e size n u ys} hu he=>ownsRow_same hu fun k hk _=>Below.heap_setCell _ _ _ _ (by
  show k≠q
  rintro rfl
  rcases rows_off hu hp he with h0|h0
  ·rw [h0] at hk;simp at hk
  ·exact h0 (by simpa [Value.ownBlock] using hk))
 have hh:=h.h.below hb
 have hbl:=hh.bel.setCell (p:=⟨q,i*2+1,none⟩) (by show w.heap.size≤q;omega) v3
 refine⟨⟨(Below.heap_setCell _ _ _ _ (by show w.heap.size≠q;omega)).trans hh.box,(Below.heap_setCell _ _ _ _ (by show w.heap.size+1≠q;omega)).trans hh.res,hbl⟩,hoff (row_below h.gr hb) (by decide),hoff (row_below h.lr hb) (by decide),?_,?_,?_,?_⟩
 ·unfold PRow
  rw [List.length_set,cellsOf_set pgC_len xs i 1 _ v3 hi (by decide) (by simp [pgC])]
  have hx:xs.length=np:=by
   rcases h.pr.2 with⟨h2,_⟩ |⟨g2,cap2,cur,h2,_⟩
   ·simp at h2
   ·simp only [Value.slice.injEq] at h2
    exact h2.2.1.symm
  have hp2:=hp
  unfold PRow at hp2
  rw [hx] at hp2 ⊢
  exact row_put hp2 _ _
 ·rw [←h.ps]
  refine List.ext_getElem (by simp) fun j h1 h2=>?_
  simp only [List.getElem_map,List.getElem_set]
  split
  ·next e=>subst e;rfl
  ·rfl
 ·intro j hj hji
  simp only [List.getElem_set]
  split
  ·next e=>subst e;exact hoff hr (by decide)
  ·next e=>exact hoff (row_below (h.dn j (by simpa using hj) (by omega)) hb) (by decide)
 ·intro j hj hji
  simp only [List.getElem_set]
  rw [if_neg (by omega)]
  exact h.up j (by simpa using hj) (by omega)
theorem ownsetup_any (s:Stp) (ag:Option Addr) (bg og cg:Nat) (al:Option Addr) (bl ol cl:Nat) (ap:Option Addr) (bp op cp:Nat) (w:World) (h:SArg w s ag bg og al bl ol ap bp op) (hz:SSize s):
  Calls Tryz.prog 41 #[.agg (stC s.1 s.2.1 ag s.2.2.1.length cg al s.2.2.2.1.length cl ap s.2.2.2.2.length cp)] w (fun r w'=>∃(ag:Option Addr) (bg og cg:Nat) (al:Option Addr) (bl ol cl:Nat) (ap:Option Addr) (bp op cp:Nat),r= .returned (.agg (stC s.1 s.2.1 ag s.2.2.1.length cg al s.2.2.2.1.length cl ap s.2.2.2.2.length cp))∧SKept (w.heap.size+2) w' s ag bg og al bl ol ap bp op∧Below w.heap.size w w'):=by
 obtain⟨c,g,gs,ls,ps⟩:=s
 have HG:=xhd (fun V (hV:Below w.heap.size w V)=>ints_own (h.gs.below hV) cg (by have:=hz.g;simpa using this))
 have HL:=xhd (fun V (hV:Below w.heap.size w V)=>locks_own (h.ls.below hV) cl (by have:=hz.l;simpa using this))
 have HZ:=xhd hz.ops
 have hpl:=hz.p
 have hgs:=h.ps
 obtain⟨xs0,hxs,hx1,hx2⟩:=progs_pairs hgs
 have hxs:xs0.map (·.1)=ps:=hxs
 have hxl:xs0.length=ps.length:=by rw [←hxs,List.length_map]
 have HPG:Hid (∀V,Below w.heap.size w V→Calls Tryz.prog 84 #[.slice ap ps.length cp] V (OwnP 49 2 ps.length (cellsOf pgC xs0) V)):=xhd (fun V hV=>by
  refine own_pg ap _ cp _ V (by rw [cellsOf_len pgC_len,hxl]) (fun h0=>?_) (fun ad had j u hu=>?_) (fun u hu=>?_) (by simpa using hpl)
  ·rcases Nat.eq_zero_or_pos ps.length with h1|h1
   ·exact h1
   ·rw [(hgs.at_ h1).1] at h0;cases h0
  ·have hj:=(List.getElem?_eq_some_iff.1 hu).1
   rw [cellsOf_len pgC_len,hxl] at hj
   obtain⟨h1,h3⟩:=hgs.at_ (show 0 < ps.length by omega)
   rw [had] at h1
   injection h1 with h1
   subst h1
   have h4:=hx2 j u hu
   rw [Addr.add_lit] at h4 ⊢
   exact (hV.cell (p:=⟨bp,op+j,none⟩) h3).trans h4
  ·obtain⟨x,hx,hu⟩:=List.mem_flatMap.1 hu
   obtain⟨ai,bi,oi,ci,h4,_⟩:=hx1 x hx
   simp only [pgC,List.mem_cons,List.not_mem_nil,or_false] at hu
   rcases hu with rfl|rfl
   ·rfl
   ·rw [h4];rfl)
 have HX0:=xhd hxs
 have HX1:=xhd hx1
 have HXL:=xhd hxl
 simp only at HG HL ⊢
 obtain⟨ng,hng⟩:∃n,gs.length=n:=⟨_,rfl⟩
 obtain⟨nl,hnl⟩:∃n,ls.length=n:=⟨_,rfl⟩
 obtain⟨np,hnp⟩:∃n,ps.length=n:=⟨_,rfl⟩
 simp only [hng,hnl,hnp] at HG HL HPG HXL ⊢
 have HNG:=xhd hng
 have HNL:=xhd hnl
 have HNP:=xhd hnp
 have hpb:np≤100000:=by have:=hpl;simp only [hnp] at this;exact this
 have HI0':=xhd (HsI.start w #[.int .i64 c, .int .i64 g, .slice ag ng cg, .slice al nl cl, .slice ap np cp])
 have HW0:Hid (∃W,(w.alloc (.cells #[.int .i64 c, .int .i64 g, .slice ag ng cg, .slice al nl cl, .slice ap np cp] 26)).alloc (.cells zeroSt 26)=W):=⟨_,rfl⟩
 clear hxs hx1 hx2 hxl hgs hpl hng hnl hnp h hz
 go_enter Tryz.func41,Tryz.ntmps41
 go_wp2_with fail
 obtain⟨W0,hW0⟩:=HW0.out
 rw [hW0] at HI0'
 rw [hW0]
 have HI0:=HI0'
 clear hW0 HW0
 refine (HG.out _ HI0.out.bel).mono ?_
 rintro r w1 ⟨v,rfl,hr,hb⟩
 obtain⟨a1,k1,rfl,_⟩:=ownsRow_shape hr
 have hsz:=lt_of_block HI0.out.res
 have HB1:=xhd (HI0.out.below hb)
 have hr2:=row_base hr (show w.heap.size+2≤_ by omega)
 have HR1_1':=xhd (row_set (B:=w.heap.size) (k:=2) (u:= .slice a1 ng k1) hr2 (by omega))
 obtain⟨z0,z1,z2,z3,z4⟩:=st_cells HB1.out.box
 have fz:=not_frozen HB1.out.box 2
 have HI1':Hid (HsI w (w1.setCell ⟨w.heap.size,2,none⟩ (.slice a1 ng k1)) #[.int .i64 c, .int .i64 g, .slice a1 ng k1, .slice al nl cl, .slice ap np cp]):=xhd (HB1.out.set 2 (.slice a1 ng k1))
 have HW1:Hid (∃W,w1.setCell ⟨w.heap.size,2,none⟩ (.slice a1 ng k1)=W):=⟨_,rfl⟩
 clear hr hr2 hb hsz
 go_wp2_with fail
 obtain⟨W1,hW⟩:=HW1.out
 rw [hW] at HI1' HR1_1'
 rw [hW]
 have HI1:=HI1'
 have HR1_1:=HR1_1'
 clear hW HW1 z0 z1 z2 z3 z4 fz
 refine (HL.out _ HI1.out.bel).mono ?_
 rintro r w2 ⟨v,rfl,hr,hb⟩
 obtain⟨a2,k2,rfl,_⟩:=ownsRow_shape hr
 have hsz:=lt_of_block HI1.out.res
 have HB2:=xhd (HI1.out.below hb)
 have hr2:=row_base hr (show w.heap.size+2≤_ by omega)
 have HR1_2':=xhd (row_set (B:=w.heap.size) (k:=3) (u:= .slice a2 nl k2) (row_below HR1_1.out hb) (by omega))
 have HR2_2':=xhd (row_set (B:=w.heap.size) (k:=3) (u:= .slice a2 nl k2) hr2 (by omega))
 obtain⟨z0,z1,z2,z3,z4⟩:=st_cells HB2.out.box
 have fz:=not_frozen HB2.out.box 3
 have HI2':Hid (HsI w (w2.setCell ⟨w.heap.size,3,none⟩ (.slice a2 nl k2)) #[.int .i64 c, .int .i64 g, .slice a1 ng k1, .slice a2 nl k2, .slice ap np cp]):=xhd (HB2.out.set 3 (.slice a2 nl k2))
 have HW2:Hid (∃W,w2.setCell ⟨w.heap.size,3,none⟩ (.slice a2 nl k2)=W):=⟨_,rfl⟩
 clear hr hr2 hb hsz
 go_wp2_with fail
 obtain⟨W2,hW⟩:=HW2.out
 rw [hW] at HI2' HR1_2' HR2_2'
 rw [hW]
 have HI2:=HI2'
 have HR1_2:=HR1_2'
 have HR2_2:=HR2_2'
 clear hW HW2 z0 z1 z2 z3 z4 fz
 refine (HPG.out _ HI2.out.bel).mono ?_
 rintro r w3 ⟨v,rfl,hr,hb⟩
 obtain⟨a3,k3,rfl,_⟩:=ownsRow_shape hr
 have hsz:=lt_of_block HI2.out.res
 have HB3:=xhd (HI2.out.below hb)
 have hr2:=row_base hr (show w.heap.size+2≤_ by omega)
 have HR1_3':=xhd (row_set (B:=w.heap.size) (k:=4) (u:= .slice a3 np k3) (row_below HR1_2.out hb) (by omega))
 have HR2_3':=xhd (row_set (B:=w.heap.size) (k:=4) (u:= .slice a3 np k3) (row_below HR2_2.out hb) (by omega))
 have HR3_3':=xhd (row_set (B:=w.heap.size) (k:=4) (u:= .slice a3 np k3) hr2 (by omega))
 obtain⟨z0,z1,z2,z3,z4⟩:=st_cells HB3.out.box
 have fz:=not_frozen HB3.out.box 4
 have HI3':Hid (HsI w (w3.setCell ⟨w.heap.size,4,none⟩ (.slice a3 np k3)) #[.int .i64 c, .int .i64 g, .slice a1 ng k1, .slice a2 nl k2, .slice a3 np k3]):=xhd (HB3.out.set 4 (.slice a3 np k3))
 have HW3:Hid (∃W,w3.setCell ⟨w.heap.size,4,none⟩ (.slice a3 np k3)=W):=⟨_,rfl⟩
 clear hr hr2 hb hsz
 go_wp2_with fail
 obtain⟨W3,hW⟩:=HW3.out
 rw [hW] at HI3' HR1_3' HR2_3' HR3_3'
 rw [hW]
 have HI3:=HI3'
 have HR1_3:=HR1_3'
 have HR2_3:=HR2_3'
 have HR3_3:=HR3_3'
 clear hW HW3 z0 z1 z2 z3 z4 fz
 have HL0:Hid (LpI w W3 c g (.slice a1 ng k1) (.slice a2 nl k2) (.slice a3 np k3) gs ls ps xs0 0):=xhd ⟨HI3.out,by unfold GRow;rw [HNG.out];exact HR1_3.out,by unfold LkRow;rw [HNL.out];exact HR2_3.out,by unfold PRow;rw [HXL.out];exact HR3_3.out,HX0.out,fun j hj h=>absurd h (Nat.not_lt_zero _),fun j hj _=>HX1.out _ (List.getElem_mem hj)⟩
 clear hxs HG HL HPG HI0 HI1 HI2 HI3 HR1_1 HR1_2 HR1_3 HR2_2 HR2_3 HR3_3 HB1 HB2 HB3
 go_loopw [20] (fun i' wr=>∃(i:Nat) (xs:List (Prg×Value)),i≤np∧i'= .int .i64 i∧Hid (LpI w wr c g (.slice a1 ng k1) (.slice a2 nl k2) (.slice a3 np k3) gs ls ps xs i)) (fun i' _=>np - (intOf i').toNat)
 case atStart=>exact⟨0,xs0,Nat.zero_le _,rfl,HL0⟩
 case round=>
  obtain⟨i,xs,hi,rfl,HLP⟩:=hrel
  have hxl:xs.length=np:=by rw [←HNP.out, ←HLP.out.ps,List.length_map]
  by_cases hlt:i < np
  ·have hix:i < xs.length:=by omega
   obtain⟨q,kk,hv,_⟩:=ownsRow_pos HLP.out.pr (by omega)
   simp only [Value.slice.injEq] at hv
   obtain⟨rfl, -, -⟩:=hv
   have hp2:wr.ownsRow (w.heap.size+2) 49 2 (.slice (some ⟨q,0,none⟩) np k3) np (cellsOf pgC xs):=by
    have h:=HLP.out.pr
    unfold PRow at h
    rw [hxl] at h
    exact h
   have x0:wr.cell? ⟨q,i*2,none⟩=some (.bool xs[i].1.1):=by
    rw [hp2.cellAt _ (by omega)]
    exact cellsOf_get pgC_len xs i 0 hix (by decide)
   have x1:wr.cell? ⟨q,i*2+1,none⟩=some xs[i].2:=by
    rw [hp2.cellAt _ (by omega)]
    exact cellsOf_get pgC_len xs i 1 hix (by decide)
   obtain⟨ai,bi,oi,ci,hv1,hoa⟩:=HLP.out.up i hix (Nat.le_refl _)
   have hmem:xs[i].1 ∈ ps:=by
    rw [←HLP.out.ps]
    exact List.mem_map.2 ⟨xs[i],List.getElem_mem hix,rfl⟩
   have hlo:=(HZ.out _ hmem).1
   have HST:=xhd (fun W v3 (hb:Below wr.heap.size wr W) (hr:ORow (w.heap.size+2) W v3 xs[i].1.2)=>HLP.out.step hix hb hr)
   have HO:=xhd (fun V (hV:Below w.heap.size w V)=>ops_own (hoa.below hV) ci hlo)
   rw [hv1] at x1
   obtain⟨m,hm⟩:∃m,xs[i].1.2.length=m:=⟨_,rfl⟩
   obtain⟨f,hf⟩:∃f,xs[i].1.1=f:=⟨_,rfl⟩
   rw [hm] at x1 HO
   rw [hf] at x0
   have HM:=xhd hm
   have HLT:Hid (i < np):=xhd hlt
   have HQ:=xhd ((HLP.out.pr.lt q (by simp [Value.ownBlock])).1)
   have HQ2:=xhd ((HLP.out.pr.lt q (by simp [Value.ownBlock])).2)
   obtain⟨b0,b1,b2,b3,b4⟩:=st_cells HLP.out.h.box
   have j0:(0:Int)≤i:=by omega
   have j1:(i:Int) < np:=by omega
   have HBX:=xhd ((Below.refl _ wr).alloc (Nat.le_refl _) (.cells #[.bool f, .slice ai m ci] 49))
   have HPX':=xhd (heap_alloc_new wr (.cells #[.bool f, .slice ai m ci] 49))
   have HH':=xhd (HLP.out.h.below HBX.out)
   have HPR:=xhd HLP.out.pr
   have HY1:=xhd x1
   clear hv1 hoa hmem hlo hm hf hxl hlt
   go_wp2_with fail
   obtain⟨W5,hW5⟩:∃W,wr.alloc (.cells #[.bool f, .slice ai m ci] 49)=W:=⟨_,rfl⟩
   rw [hW5] at HBX HPX' HH'
   rw [hW5]
   clear hW5 b0 b1 b2 b3 b4 x0 x1
   obtain⟨b0,b1,b2,b3,b4⟩:=st_cells HH'.out.box
   obtain⟨p0,p1⟩:=two_cells HPX'.out
   go_region_with ((go_at_call 85
                    refine (HO.out _ (HH'.out.bel.drew)).mono ?_
                    rintro r w7 ⟨v,rfl,hr,hb⟩
                    obtain⟨a5,k5,rfl,_⟩:=ownsRow_shape hr
                    have hb7:Below W5.heap.size W5 w7:=(Below.refl _ W5).drew.trans hb
                    have hbr:Below wr.heap.size wr w7:=HBX.out.trans (hb7.mono HBX.out.size)
                    have HR7:=xhd (row_base hr (show w.heap.size+2≤_ by have:=lt_of_block HH'.out.res;simp;omega))
                    have HB7:=xhd hbr
                    have y1:w7.cell? ⟨q,i*2+1,none⟩=some (.slice ai m ci):=(hbr.cell (p:=⟨q,i*2+1,none⟩) HQ2.out).trans HY1.out
                    obtain⟨cur,hcur⟩:=ownsRow_type (row_below HPR.out hbr) q (by simp [Value.ownBlock])
                    have fy1:=not_frozen hcur (i*2+1)
                    clear b0 b1 b2 b3 b4 hcur
                    obtain⟨b0,b1,b2,b3,b4⟩:=st_cells (HH'.out.below hb7).box
                    clear hr hb hb7 hbr))
   all_goals
    have HS7:=xhd (HST.out _ _ HB7.out (by unfold ORow;rw [HM.out];exact HR7.out))
    go_wp2
    go_roundw
    case rel=>exact⟨i+1,_,by have:=HLT.out;omega,by go_num,HS7⟩
    case measure=>have:=HLT.out;simp [intOf];omega
  ·obtain rfl:np=i:=by omega
   obtain⟨b0,b1,b2,b3,b4⟩:=st_cells HLP.out.h.box
   obtain⟨z0,z1,z2,z3,z4⟩:=st_cells HLP.out.h.res
   have fz0:=not_frozen HLP.out.h.res 0
   have fz1:=not_frozen HLP.out.h.res 1
   have fz2:=not_frozen HLP.out.h.res 2
   have fz3:=not_frozen HLP.out.h.res 3
   have fz4:=not_frozen HLP.out.h.res 4
   have ne1:w.heap.size≠w.heap.size+1:=by omega
   have hdn:∀x ∈ xs,ORow (w.heap.size+2) wr x.2 x.1.2:=fun x hx=>by
    obtain⟨j,hj,rfl⟩:=List.getElem_of_mem hx
    exact HLP.out.dn j hj (by omega)
   have HK:=xhd (skept_of_rows (c:=c) (g:=g) HLP.out.gr HLP.out.lr HLP.out.pr hdn)
   have HRS:=xhd (st_five (a':= .int .i64 c) (b':= .int .i64 g) (c':= .slice a1 ng k1) (d':= .slice a2 nl k2) (e':= .slice a3 np k3) HLP.out.h.res)
   have HPS:=xhd HLP.out.ps
   have HBL:=xhd HLP.out.h.bel
   clear hdn HLP hxl
   go_wp2
   refine bodyPost_ret (st_res0 rfl rfl HRS.out) rfl ?_
   refine⟨a1,_,0,k1,a2,_,0,k2,a3,_,0,k3,?_,(by rw [←HPS.out];exact HK.out.same (V:=(((((wr.setCell ⟨w.heap.size+1,0,none⟩ (.int .i64 c)).setCell ⟨w.heap.size+1,1,none⟩ (.int .i64 g)).setCell ⟨w.heap.size+1,2,none⟩ (.slice a1 ng k1)).setCell ⟨w.heap.size+1,3,none⟩ (.slice a2 nl k2)).setCell ⟨w.heap.size+1,4,none⟩ (.slice a3 np k3))) (by simp only [World.size_setCell];exact Nat.le_refl _) (fun k hk _=>st_kept (by omega))),?_⟩
   ·show Ending.returned (.agg #[.int .i64 c, .int .i64 g, .slice a1 ng k1, .slice a2 nl k2, .slice a3 np k3])=_
    rfl
   ·exact ((((HBL.out.setCell (by show w.heap.size≤w.heap.size+1;omega) _).setCell (by show w.heap.size≤w.heap.size+1;omega) _).setCell (by show w.heap.size≤w.heap.size+1;omega) _).setCell (by show w.heap.size≤w.heap.size+1;omega) _).setCell (by show w.heap.size≤w.heap.size+1;omega) _
end Go.Proofs.YtbnhnnccioljhaaGreatDoor
namespace Go.Proofs.YtbnhnnccioljhaaGreatDoor
open Go.RowKit
theorem run_min_sc {P:Program} {w:World} (ts:Array TypeId) (t:TypeId) (x y:Int):(Builtin.min_ ts t #[.int .i64 x, .int .i64 y]).run P w= .ok (.int .i64 (min x y)) w:=by
 rw [run_min_int2]
 congr 2
 split<;>omega
theorem run_max_sc {P:Program} {w:World} (ts:Array TypeId) (t:TypeId) (x y:Int):(Builtin.max_ ts t #[.int .i64 x, .int .i64 y]).run P w= .ok (.int .i64 (max x y)) w:=by
 rw [run_max_int2]
 congr 2
 split<;>omega
attribute [local go_sem ↓] run_min_sc run_max_sc
theorem AArg.take {w:World} {ao:Option Addr} {b off:Nat} {L:List Ac} (h:AArg w ao b off L) (k:Nat):AArg w ao b off (L.take k):=by
 have hl:(L.take k).length≤L.length:=by rw [List.length_take];omega
 refine⟨fun h0=>h.at_ (by omega),fun i hi=>?_⟩
 rw [List.getElem_take]
 exact h.cells i (by omega)
structure HdI (w V:World) (x:Array Value):Prop where
 box:V.heap[w.heap.size]?=some (.cells x 29 (0,0))
 res:V.heap[w.heap.size+1]?=some (.cells zeroSc 29 (0,0))
 bel:Below w.heap.size w V
theorem HdI.below {w V V':World} {x:Array Value} (h:HdI w V x) (hb:Below V.heap.size V V'):HdI w V' x:=
 ⟨(hb.block _ (lt_of_block h.box)).trans h.box,(hb.block _ (lt_of_block h.res)).trans h.res,h.bel.trans (hb.mono h.bel.size)⟩
theorem HdI.start (w:World) (x:Array Value):HdI w ((w.alloc (.cells x 29)).alloc (.cells zeroSc 29)) x:=by
 have h2:=heap_alloc_new (w.alloc (.cells x 29)) (.cells zeroSc 29)
 rw [World.size_alloc] at h2
 exact⟨(Below.heap_alloc _ _ _ (by simp)).trans (heap_alloc_new w _),h2,((Below.refl _ w).alloc (Nat.le_refl _) _).alloc (by simp) _⟩
theorem sc_res0 {fn:Func} {p:Tmp} (hf:fn.results= #[.cell p 29]) {tmps:Array Value} {W:World} {B:Nat} {a b c d e f:Value} (hp:tmps.getD p undef= .pointer (some ⟨B,0,none⟩)) (h:W.heap[B]?=some (.cells #[a,b,c,d,e,f] 29 (0,0))):
  (results fn tmps).run Tryz.prog W= .ok (.agg #[a,b,c,d,e,f]) W:=by
 obtain⟨c0,c1,c2,c3,c4,c5⟩:=six_cells h
 rw [results_one hf,hp]
 simp [loadVar,go_sem,c0,c1,c2,c3,c4,c5]
def headN (n:Int) (m:Nat):Nat:=(min (max n 0) m).toNat
theorem headN_is (n:Int) (m:Nat):max 0 (min n m)=(headN n m:Nat)∧min (max n 0) m=(headN n m:Nat)∧headN n m≤m:=by
 unfold headN
 omega
theorem head_any (x:Scr) (p:Pl) (n:Int) (w:World) (h:ScArg w x p) (hcap:x.2.length≤p.ca) (hz:SSize x.1) (hm:x.2.length≤100000):
  Calls Tryz.prog 15 #[.agg (scP x p), .int .i64 n] w fun e w'=>∃q:Pl,e= .returned (.agg (scP (x.1,x.2.take (headN n x.2.length)) q))∧ScArg w' (x.1,x.2.take (headN n x.2.length)) q∧Below w.heap.size w w':=by
 obtain⟨hk1,_,hk2⟩:=headN_is n x.2.length
 obtain⟨k,hk⟩:∃k,headN n x.2.length=k:=⟨_,rfl⟩
 rw [hk] at hk1 hk2 ⊢
 have hos:=fun V (hV:Below w.heap.size w V)=>ownsetup_any x.1 p.ag p.bg p.og p.cg p.al p.bl p.ol p.cl p.ap p.bp p.op p.cp V (h.s.below hV) hz
 have hoa:=fun V (hV:Below w.heap.size w V)=>acts_own ((h.a.take k).below hV) p.ca (by rw [List.length_take];omega)
 have hlt:(x.2.take k).length=k:=by rw [List.length_take];omega
 unfold OwnP at hoa
 rw [hlt] at hoa
 obtain⟨⟨c,g,gs,ls,ps⟩,acs⟩:=x
 obtain⟨ag,bg,og,cg,al,bl,ol,cl,ap,bp,op,cp,aa,ba,oa,ca⟩:=p
 obtain⟨ng,hng⟩:∃n,gs.length=n:=⟨_,rfl⟩
 obtain⟨nl,hnl⟩:∃n,ls.length=n:=⟨_,rfl⟩
 obtain⟨np,hnp⟩:∃n,ps.length=n:=⟨_,rfl⟩
 obtain⟨na,hna⟩:∃n,acs.length=n:=⟨_,rfl⟩
 obtain⟨B,hB⟩:∃B,acs.take k=B:=⟨_,rfl⟩
 simp only [hB] at hlt hoa
 simp only [scP,stC,hng,hnl,hnp,hna,hB,hlt] at hos hoa hk1 hk2 hcap ⊢
 have HOS:=xhd hos
 have HOA:=xhd hoa
 have HLT:=xhd hlt
 have HI0':=xhd (HdI.start w #[.int .i64 c, .int .i64 g, .slice ag ng cg, .slice al nl cl, .slice ap np cp, .slice aa na ca])
 have HW0:Hid (∃W,(w.alloc (.cells #[.int .i64 c, .int .i64 g, .slice ag ng cg, .slice al nl cl, .slice ap np cp, .slice aa na ca] 29)).alloc (.cells zeroSc 29)=W):=⟨_,rfl⟩
 have g0:(0:Int)≤k:=by omega
 have g1:(k:Int)≤ca:=by omega
 clear hos hoa hng hnl hnp hna hB hlt h hz hm hk hcap
 go_enter Tryz.func15,Tryz.ntmps15
 go_wp2_with fail
 obtain⟨W0,hW0⟩:=HW0.out
 rw [hW0] at HI0'
 rw [hW0]
 have HI0:=HI0'
 clear hW0 HW0
 have ck0:HdI w W0.drew #[.int .i64 c, .int .i64 g, .slice ag ng cg, .slice al nl cl, .slice ap np cp, .slice aa na ca]:=HI0.out.below (Below.refl _ _).drew
 obtain⟨c0,c1,c2,c3,c4,c5⟩:=six_cells ck0.box
 go_region_with (first
  |(go_at_call 41
    refine (HOS.out _ ck0.bel).mono ?_
    rintro r w1 ⟨ag',bg',og',cg',al',bl',ol',cl',ap',bp',op',cp',rfl,hsk,hb⟩
    have hb1:Below W0.drew.heap.size W0.drew w1:=hb
    have HK1:=xhd hsk
    have ck1:=ck0.below hb1
    clear c0 c1 c2 c3 c4 c5
    obtain⟨c0,c1,c2,c3,c4,c5⟩:=six_cells ck1.box
    clear hsk hb hb1)
  |(go_at_call 42
    refine (HOA.out _ ck1.bel).mono ?_
    rintro r w2 ⟨v,rfl,hr,hb⟩
    obtain⟨a2,k2,rfl,_⟩:=ownsRow_shape hr
    have HK2:=xhd (HK1.out.below hb)
    have ck2:=ck1.below hb
    have HR2:=xhd (row_base hr (show w.heap.size+2≤_ by have:=lt_of_block ck1.res;omega))
    obtain⟨z0,z1,z2,z3,z4,z5⟩:=six_cells ck2.res
    have fz0:=not_frozen ck2.res 0
    have fz1:=not_frozen ck2.res 1
    have fz2:=not_frozen ck2.res 2
    have fz3:=not_frozen ck2.res 3
    have fz4:=not_frozen ck2.res 4
    have fz5:=not_frozen ck2.res 5
    clear hr hb))
 all_goals
  have HR3:Hid (ARow (w.heap.size+2) w2 (.slice a2 k k2) B):=xhd (by unfold ARow;rw [HLT.out];exact HR2.out)
  have HS6:=xhd (sc_six (a':= .int .i64 c) (b':= .int .i64 g) (c':= .slice ag' ng cg') (d':= .slice al' nl cl') (e':= .slice ap' np cp') (f':= .slice a2 k k2) ck2.res)
  have HBL:=xhd ck2.bel
  have HSZ:=xhd (lt_of_block ck0.res)
  clear ck0 ck1 ck2 z0 z1 z2 z3 z4 z5 fz0 fz1 fz2 fz3 fz4 fz5 c0 c1 c2 c3 c4 c5
  go_wp2
  refine bodyPost_ret (sc_res0 rfl rfl HS6.out) rfl ?_
  obtain⟨aa2,ba2,ca2,e1,h1⟩:=AArg.of_row (ownsRow_same (w':=((((((w2.setCell ⟨w.heap.size+1,0,none⟩ (.int .i64 c)).setCell ⟨w.heap.size+1,1,none⟩ (.int .i64 g)).setCell ⟨w.heap.size+1,2,none⟩ (.slice ag' ng cg')).setCell ⟨w.heap.size+1,3,none⟩ (.slice al' nl cl')).setCell ⟨w.heap.size+1,4,none⟩ (.slice ap' np cp')).setCell ⟨w.heap.size+1,5,none⟩ (.slice a2 k k2))) HR3.out (fun j hj _=>sc_kept (by have:=(HR3.out.lt j (by simpa using hj)).1;omega)))
  injection e1 with e1 _ e3
  subst e1 e3
  refine⟨⟨ag',bg',og',cg',al',bl',ol',cl',ap',bp',op',cp',a2,ba2,0,k2⟩,rfl,⟨HK2.out _ (fun j hj _=>sc_kept (by have:=HSZ.out;omega)),h1⟩,?_⟩
  exact (((((HBL.out.setCell (by show w.heap.size≤w.heap.size+1;omega) _).setCell (by show w.heap.size≤w.heap.size+1;omega) _).setCell (by show w.heap.size≤w.heap.size+1;omega) _).setCell (by show w.heap.size≤w.heap.size+1;omega) _).setCell (by show w.heap.size≤w.heap.size+1;omega) _).setCell (by show w.heap.size≤w.heap.size+1;omega) _
end Go.Proofs.YtbnhnnccioljhaaGreatDoor
namespace Go.Proofs.YtbnhnnccioljhaaGreatDoor
open Go.RowKit
attribute [local go_sem ↓] run_min_sc run_max_sc
structure ScY (w W:World) (cs:Array Value):Prop where
 box:W.heap[w.heap.size]?=some (.cells cs 29 (0,0))
 bel:Below w.heap.size w W
theorem ScY.below {w W W':World} {cs:Array Value} (h:ScY w W cs) (hb:Below W.heap.size W W'):ScY w W' cs:=
 ⟨(hb.block _ (lt_of_block h.box)).trans h.box,h.bel.trans (hb.mono h.bel.size)⟩
structure HlK (w Wh V:World) (cs ds:Array Value):Prop where
 box:V.heap[w.heap.size]?=some (.cells cs 29 (0,0))
 hbx:V.heap[Wh.heap.size]?=some (.cells ds 29 (0,0))
 bel:Below Wh.heap.size Wh V
theorem HlK.below {w Wh V V':World} {cs ds:Array Value} (h:HlK w Wh V cs ds) (hb:Below V.heap.size V V'):HlK w Wh V' cs ds:=
 ⟨(hb.block _ (lt_of_block h.box)).trans h.box,(hb.block _ (lt_of_block h.hbx)).trans h.hbx,h.bel.trans (hb.mono h.bel.size)⟩
theorem HlK.view {w Wh V:World} {a b c d e f a' b' c' d' e' f':Value} (h:HlK w Wh V #[a,b,c,d,e,f] #[a',b',c',d',e',f']):
  V.cell? ⟨w.heap.size,0,none⟩=some a∧V.cell? ⟨w.heap.size,1,none⟩=some b∧V.cell? ⟨w.heap.size,2,none⟩=some c∧V.cell? ⟨w.heap.size,3,none⟩=some d∧V.cell? ⟨w.heap.size,4,none⟩=some e∧V.cell? ⟨w.heap.size,5,none⟩=some f∧
  V.cell? ⟨Wh.heap.size,0,none⟩=some a'∧V.cell? ⟨Wh.heap.size,1,none⟩=some b'∧V.cell? ⟨Wh.heap.size,2,none⟩=some c'∧V.cell? ⟨Wh.heap.size,3,none⟩=some d'∧V.cell? ⟨Wh.heap.size,4,none⟩=some e'∧V.cell? ⟨Wh.heap.size,5,none⟩=some f'∧HlK w Wh V #[a,b,c,d,e,f] #[a',b',c',d',e',f']:=by
 obtain⟨x0,x1,x2,x3,x4,x5⟩:=six_cells h.box
 obtain⟨y0,y1,y2,y3,y4,y5⟩:=six_cells h.hbx
 exact⟨x0,x1,x2,x3,x4,x5,y0,y1,y2,y3,y4,y5,h⟩
theorem sc_field (c g:Int) (ag:Option Addr) (ng cg:Nat) (al:Option Addr) (nl cl:Nat) (ap:Option Addr) (np cp:Nat) (aa:Option Addr) (na ca:Nat) (w:World):(Instr.field 29 (.agg #[.int .i64 c, .int .i64 g, .slice ag ng cg, .slice al nl cl, .slice ap np cp, .slice aa na ca]) 1).run Tryz.prog w= .ok (.slice aa na ca) w:=by kernel_rfl
theorem scripthead_walk (x:Scr) (p:Pl) (n:Int) (w:World) (h:ScArg w x p) (hcap:x.2.length≤p.ca) (hs:∀q ∈ x.1.2.2.2.2,∀o ∈ q.2,small o.1) (hT:TabOk w):
  Calls Tryz.prog 5 #[.agg (scP x p), .int .i64 n] w fun e w'=>e= .returned (.bool true)∧Below w.heap.size w w':=by
 have HX0:Hid (ScY w (w.alloc (.cells (scP x p) 29)) (scP x p)):=xhd ⟨heap_alloc_new w _,(Below.refl _ w).alloc (Nat.le_refl _) _⟩
 have haw:∀V,ScY w V (scP x p)→Calls Tryz.prog 6 #[] V fun e w'=>e= .returned (.bool true)∧ScY w w' (scP x p):=fun V hV=>(awake14 V (hT.below hV.bel)).mono fun e w' h=>⟨h.1,hV.below h.2⟩
 have hsa:∀V,ScY w V (scP x p)→Calls Tryz.prog 7 #[.agg (stP x.1 p)] V fun e w'=>e= .returned (.bool (smallS x.1))∧ScY w w' (scP x p):=fun V hV=>(ssmall_any x.1 p.ag p.bg p.og p.cg p.al p.bl p.ol p.cl p.ap p.bp p.op p.cp V (h.s.below hV.bel)).mono fun e w' h=>⟨h.1,hV.below h.2⟩
 by_cases hlen:x.2.length≤60
 ·by_cases hsm:smallS x.1=true
  ·have hz:=smallS_size hsm hs
   rw [hsm] at hsa
   obtain⟨_,hk1,hk2⟩:=headN_is n x.2.length
   obtain⟨_,hj1,hj2⟩:=headN_is 1152921504606846976 x.2.length
   have hj:headN 1152921504606846976 x.2.length=x.2.length:=by omega
   have hhd:=fun V (hV:Below w.heap.size w V)=>head_any x p n V (h.below hV) hcap hz (by omega)
   have hh2:=fun V (hV:Below w.heap.size w V)=>head_any x p 1152921504606846976 V (h.below hV) hcap hz (by omega)
   rw [hj,List.take_length] at hh2
   obtain⟨k,hk⟩:∃k,headN n x.2.length=k:=⟨_,rfl⟩
   rw [hk] at hk1 hk2
   simp only [hk] at hhd
   have hlt:(x.2.take k).length=k:=by rw [List.length_take];omega
   have hrs:=fun q V (hV:Below w.heap.size w V) (hq:ScArg V (x.1,x.2.take k) q)=>rscsame_any x.1 (x.2.take k) q p V hq ⟨h.s.below hV,(h.a.take k).below hV⟩ hz (by omega)
   have hps:=fun q V (hV:Below w.heap.size w V) (hq:ScArg V (x.1,x.2.take k) q)=>scsame_any x.1 (x.2.take k) x.2 q p V hq (h.below hV) hz (by omega) (by omega) (fun e=>by rw [hlt] at e;rw [e,List.take_length])
   have hra:=fun (q:Pl) V (hV:Below w.heap.size w V) (hq:ScArg V x q)=>rasame_any q.aa p.aa q.ba q.oa p.ba p.oa q.ca p.ca x.2 V hq.a (h.a.below hV) (by omega)
   obtain⟨⟨c,g,gs,ls,ps⟩,acs⟩:=x
   obtain⟨ag,bg,og,cg,al,bl,ol,cl,ap,bp,op,cp,aa,ba,oa,ca⟩:=p
   obtain⟨ng,hng⟩:∃n,gs.length=n:=⟨_,rfl⟩
   obtain⟨nl,hnl⟩:∃n,ls.length=n:=⟨_,rfl⟩
   obtain⟨np,hnp⟩:∃n,ps.length=n:=⟨_,rfl⟩
   obtain⟨na,hna⟩:∃n,acs.length=n:=⟨_,rfl⟩
   obtain⟨B,hB⟩:∃B,acs.take k=B:=⟨_,rfl⟩
   simp only [hB] at hhd hlt hrs hps
   obtain⟨r,hr⟩:∃r,decide (k=na)=r:=⟨_,rfl⟩
   simp only [scP,stP,stC,hng,hnl,hnp,hna,hlt,hr] at HX0 haw hsa hhd hh2 hrs hps hra hlen hk1 hk2 hcap ⊢
   have gl:¬(60:Int) < na:=by omega
   have g0:(0:Int)≤k:=by omega
   have g1:(k:Int)≤ca:=by omega
   have gr:((k:Int) == (na:Int))=r:=by
    rw [←hr,Bool.eq_iff_iff]
    simp only [beq_iff_eq,decide_eq_true_eq]
    omega
   have grr:(r == r)=true:=by simp
   have hfd:=fun ag2 cg2 al2 cl2 ap2 cp2 aa2 ca2 W=>sc_field c g ag2 ng cg2 al2 nl cl2 ap2 np cp2 aa2 na ca2 W
   have HAW:=xhd haw
   have HSA:=xhd hsa
   have HHD:=xhd hhd
   have HH2:=xhd hh2
   have HRS:=xhd hrs
   have HPS:=xhd hps
   have HRA:=xhd hra
   clear haw hsa hhd hh2 hrs hps hra hng hnl hnp hna hB hlt hr h hs hT hz hsm hk hj hj1 hj2 hlen hcap
   go_enter Tryz.func5,Tryz.ntmps5
   go_wp2_with fail
   with_reducible refine (HAW.out _ HX0.out).mono ?_
   rintro e w1 ⟨rfl,k1⟩
   obtain⟨c0,c1,c2,c3,c4,c5⟩:=six_cells k1.box
   have HK1:=xhd k1
   clear k1
   go_wp2_with fail
   with_reducible refine (HSA.out _ HK1.out).mono ?_
   rintro e w2 ⟨rfl,k1⟩
   clear c0 c1 c2 c3 c4 c5
   obtain⟨c0,c1,c2,c3,c4,c5⟩:=six_cells k1.box
   have HK2:=xhd k1
   clear k1
   go_wp2_with fail
   refine (HHD.out _ HK2.out.bel).mono ?_
   rintro e w4 ⟨⟨ag',bg',og',cg',al',bl',ol',cl',ap',bp',op',cp',aa',ba',oa',ca'⟩,rfl,hsc,hb⟩
   simp only
   have hbx:Below w4.heap.size w4 (w4.alloc (.cells #[.int .i64 c, .int .i64 g, .slice ag' ng cg', .slice al' nl cl', .slice ap' np cp', .slice aa' k ca'] 29)):=(Below.refl _ w4).alloc (Nat.le_refl _) _
   have HK4:=xhd (HK2.out.below hb)
   have HSC:=xhd hsc
   have HLK':Hid (HlK w w4 (w4.alloc (.cells #[.int .i64 c, .int .i64 g, .slice ag' ng cg', .slice al' nl cl', .slice ap' np cp', .slice aa' k ca'] 29)) #[.int .i64 c, .int .i64 g, .slice ag ng cg, .slice al nl cl, .slice ap np cp, .slice aa na ca] #[.int .i64 c, .int .i64 g, .slice ag' ng cg', .slice al' nl cl', .slice ap' np cp', .slice aa' k ca']):=xhd ⟨(hbx.block _ (lt_of_block HK4.out.box)).trans HK4.out.box,heap_alloc_new w4 _,hbx⟩
   have HW5:Hid (∃W,w4.alloc (.cells #[.int .i64 c, .int .i64 g, .slice ag' ng cg', .slice al' nl cl', .slice ap' np cp', .slice aa' k ca'] 29)=W):=⟨_,rfl⟩
   clear c0 c1 c2 c3 c4 c5
   obtain⟨c0,c1,c2,c3,c4,c5⟩:=six_cells HK4.out.box
   have hl4:=lt_of_block HK4.out.box
   clear hb hbx hsc
   have HBW:Hid (∀V,HlK w w4 V #[.int .i64 c, .int .i64 g, .slice ag ng cg, .slice al nl cl, .slice ap np cp, .slice aa na ca] #[.int .i64 c, .int .i64 g, .slice ag' ng cg', .slice al' nl cl', .slice ap' np cp', .slice aa' k ca']→Below w.heap.size w V):=xhd (fun V hV=>HK4.out.bel.trans (hV.bel.mono HK4.out.bel.size))
   have hrs:∀V,HlK w w4 V #[.int .i64 c, .int .i64 g, .slice ag ng cg, .slice al nl cl, .slice ap np cp, .slice aa na ca] #[.int .i64 c, .int .i64 g, .slice ag' ng cg', .slice al' nl cl', .slice ap' np cp', .slice aa' k ca']→Calls Tryz.prog 12 #[.agg #[.int .i64 c, .int .i64 g, .slice ag' ng cg', .slice al' nl cl', .slice ap' np cp', .slice aa' k ca'], .agg #[.int .i64 c, .int .i64 g, .slice ag ng cg, .slice al nl cl, .slice ap np cp, .slice aa k ca]] V fun e w'=>e= .returned (.bool true)∧HlK w w4 w' #[.int .i64 c, .int .i64 g, .slice ag ng cg, .slice al nl cl, .slice ap np cp, .slice aa na ca] #[.int .i64 c, .int .i64 g, .slice ag' ng cg', .slice al' nl cl', .slice ap' np cp', .slice aa' k ca']:=fun V hV=>(HRS.out _ V (HBW.out V hV) (HSC.out.below hV.bel)).mono fun e w' h=>⟨h.1,hV.below h.2⟩
   have hps:∀V,HlK w w4 V #[.int .i64 c, .int .i64 g, .slice ag ng cg, .slice al nl cl, .slice ap np cp, .slice aa na ca] #[.int .i64 c, .int .i64 g, .slice ag' ng cg', .slice al' nl cl', .slice ap' np cp', .slice aa' k ca']→Calls Tryz.prog 13 #[.agg #[.int .i64 c, .int .i64 g, .slice ag' ng cg', .slice al' nl cl', .slice ap' np cp', .slice aa' k ca'], .agg #[.int .i64 c, .int .i64 g, .slice ag ng cg, .slice al nl cl, .slice ap np cp, .slice aa na ca]] V fun e w'=>e= .returned (.bool r)∧HlK w w4 w' #[.int .i64 c, .int .i64 g, .slice ag ng cg, .slice al nl cl, .slice ap np cp, .slice aa na ca] #[.int .i64 c, .int .i64 g, .slice ag' ng cg', .slice al' nl cl', .slice ap' np cp', .slice aa' k ca']:=fun V hV=>(HPS.out _ V (HBW.out V hV) (HSC.out.below hV.bel)).mono fun e w' h=>⟨h.1,hV.below h.2⟩
   have hh2:∀V,HlK w w4 V #[.int .i64 c, .int .i64 g, .slice ag ng cg, .slice al nl cl, .slice ap np cp, .slice aa na ca] #[.int .i64 c, .int .i64 g, .slice ag' ng cg', .slice al' nl cl', .slice ap' np cp', .slice aa' k ca']→Calls Tryz.prog 15 #[.agg #[.int .i64 c, .int .i64 g, .slice ag ng cg, .slice al nl cl, .slice ap np cp, .slice aa na ca], .int .i64 1152921504606846976] V fun e w'=>∃q:Pl,e= .returned (.agg #[.int .i64 c, .int .i64 g, .slice q.ag ng q.cg, .slice q.al nl q.cl, .slice q.ap np q.cp, .slice q.aa na q.ca])∧ScArg w' ((c,g,gs,ls,ps),acs) q∧HlK w w4 w' #[.int .i64 c, .int .i64 g, .slice ag ng cg, .slice al nl cl, .slice ap np cp, .slice aa na ca] #[.int .i64 c, .int .i64 g, .slice ag' ng cg', .slice al' nl cl', .slice ap' np cp', .slice aa' k ca']:=fun V hV=>(HH2.out V (HBW.out V hV)).mono fun e w' ⟨q,h1,h2,h3⟩=>⟨q,h1,h2,hV.below h3⟩
   have hra:∀V (q:Pl),ScArg V ((c,g,gs,ls,ps),acs) q→HlK w w4 V #[.int .i64 c, .int .i64 g, .slice ag ng cg, .slice al nl cl, .slice ap np cp, .slice aa na ca] #[.int .i64 c, .int .i64 g, .slice ag' ng cg', .slice al' nl cl', .slice ap' np cp', .slice aa' k ca']→Calls Tryz.prog 16 #[.slice q.aa na q.ca, .slice aa na ca] V fun e w'=>e= .returned (.bool true)∧HlK w w4 w' #[.int .i64 c, .int .i64 g, .slice ag ng cg, .slice al nl cl, .slice ap np cp, .slice aa na ca] #[.int .i64 c, .int .i64 g, .slice ag' ng cg', .slice al' nl cl', .slice ap' np cp', .slice aa' k ca']:=fun V q hq hV=>(HRA.out q V (HBW.out V hV) hq).mono fun e w' h=>⟨h.1,by obtain⟨j,hj⟩:=h.2;rw [hj];exact hV.below (below_drewN (Below.refl _ _) j)⟩
   have HRS2:=xhd hrs
   have HPS2:=xhd hps
   have HHD2:=xhd hh2
   have HRA2:=xhd hra
   clear hrs hps hh2 hra
   go_wp2_with fail
   obtain⟨W5,hW5⟩:=HW5.out
   rw [hW5] at HLK'
   rw [hW5]
   have HLK:=HLK'
   clear hW5 HW5 c0 c1 c2 c3 c4 c5 hl4
   have hk5:HlK w w4 W5.drew #[.int .i64 c, .int .i64 g, .slice ag ng cg, .slice al nl cl, .slice ap np cp, .slice aa na ca] #[.int .i64 c, .int .i64 g, .slice ag' ng cg', .slice al' nl cl', .slice ap' np cp', .slice aa' k ca']:=HLK.out.below (Below.refl _ _).drew
   obtain⟨c0,c1,c2,c3,c4,c5,d0,d1,d2,d3,d4,d5,ck⟩:=hk5.view
   go_region_held3 (fun V=>V.cell? ⟨w.heap.size,0,none⟩=some (.int .i64 c)∧V.cell? ⟨w.heap.size,1,none⟩=some (.int .i64 g)∧V.cell? ⟨w.heap.size,2,none⟩=some (.slice ag ng cg)∧V.cell? ⟨w.heap.size,3,none⟩=some (.slice al nl cl)∧V.cell? ⟨w.heap.size,4,none⟩=some (.slice ap np cp)∧V.cell? ⟨w.heap.size,5,none⟩=some (.slice aa na ca)∧V.cell? ⟨w4.heap.size,0,none⟩=some (.int .i64 c)∧V.cell? ⟨w4.heap.size,1,none⟩=some (.int .i64 g)∧V.cell? ⟨w4.heap.size,2,none⟩=some (.slice ag' ng cg')∧V.cell? ⟨w4.heap.size,3,none⟩=some (.slice al' nl cl')∧V.cell? ⟨w4.heap.size,4,none⟩=some (.slice ap' np cp')∧V.cell? ⟨w4.heap.size,5,none⟩=some (.slice aa' k ca')∧HlK w w4 V #[.int .i64 c, .int .i64 g, .slice ag ng cg, .slice al nl cl, .slice ap np cp, .slice aa na ca] #[.int .i64 c, .int .i64 g, .slice ag' ng cg', .slice al' nl cl', .slice ap' np cp', .slice aa' k ca'])
    (first|exact⟨c0,c1,c2,c3,c4,c5,d0,d1,d2,d3,d4,d5,ck⟩)
    (first
      |(go_at_call 12;with_reducible refine (HRS2.out _ ck).mono ?_;rintro e w' ⟨rfl,kk⟩;obtain⟨c0,c1,c2,c3,c4,c5,d0,d1,d2,d3,d4,d5,ck⟩:=kk.view)
      |(go_at_call 13;with_reducible refine (HPS2.out _ ck).mono ?_;rintro e w' ⟨rfl,kk⟩;obtain⟨c0,c1,c2,c3,c4,c5,d0,d1,d2,d3,d4,d5,ck⟩:=kk.view)
      |(go_at_call 15;with_reducible refine (HHD2.out _ ck).mono ?_;rintro e w' ⟨⟨ag2,bg2,og2,cg2,al2,bl2,ol2,cl2,ap2,bp2,op2,cp2,aa2,ba2,oa2,ca2⟩,rfl,hq2,kk⟩;obtain⟨c0,c1,c2,c3,c4,c5,d0,d1,d2,d3,d4,d5,ck⟩:=kk.view)
      |(go_at_call 16;with_reducible refine (HRA2.out _ _ hq2 ck).mono ?_;rintro e w' ⟨rfl,kk⟩;obtain⟨c0,c1,c2,c3,c4,c5,d0,d1,d2,d3,d4,d5,ck⟩:=kk.view))
   all_goals (go_wp2;go_ret;exact⟨by simp,HBW.out _ ck⟩)
  ·have hsm:smallS x.1=false:=by simpa using hsm
   rw [hsm] at hsa
   have HAW:=xhd haw
   have HSA:=xhd hsa
   obtain⟨⟨c,g,gs,ls,ps⟩,acs⟩:=x
   obtain⟨ag,bg,og,cg,al,bl,ol,cl,ap,bp,op,cp,aa,ba,oa,ca⟩:=p
   obtain⟨ng,hng⟩:∃n,gs.length=n:=⟨_,rfl⟩
   obtain⟨nl,hnl⟩:∃n,ls.length=n:=⟨_,rfl⟩
   obtain⟨np,hnp⟩:∃n,ps.length=n:=⟨_,rfl⟩
   obtain⟨na,hna⟩:∃n,acs.length=n:=⟨_,rfl⟩
   simp only [scP,stP,stC,hng,hnl,hnp,hna] at HX0 HAW HSA ⊢
   clear haw hsa hng hnl hnp hna h hs hT hsm hlen hcap
   go_enter Tryz.func5,Tryz.ntmps5
   go_wp2_with fail
   with_reducible refine (HAW.out _ HX0.out).mono ?_
   rintro e w1 ⟨rfl,k1⟩
   obtain⟨c0,c1,c2,c3,c4,c5⟩:=six_cells k1.box
   have HK1:=xhd k1
   clear k1
   go_wp2_with fail
   with_reducible refine (HSA.out _ HK1.out).mono ?_
   rintro e w2 ⟨rfl,k1⟩
   clear c0 c1 c2 c3 c4 c5
   obtain⟨c0,c1,c2,c3,c4,c5⟩:=six_cells k1.box
   have HK2:=xhd k1
   clear k1
   go_wp2
   go_ret
   exact⟨rfl,HK2.out.bel⟩
 ·by_cases hsm:smallS x.1=true
  ·have gl:(60:Int) < x.2.length:=by omega
   rw [hsm] at hsa
   have HAW:=xhd haw
   have HSA:=xhd hsa
   obtain⟨⟨c,g,gs,ls,ps⟩,acs⟩:=x
   obtain⟨ag,bg,og,cg,al,bl,ol,cl,ap,bp,op,cp,aa,ba,oa,ca⟩:=p
   obtain⟨ng,hng⟩:∃n,gs.length=n:=⟨_,rfl⟩
   obtain⟨nl,hnl⟩:∃n,ls.length=n:=⟨_,rfl⟩
   obtain⟨np,hnp⟩:∃n,ps.length=n:=⟨_,rfl⟩
   obtain⟨na,hna⟩:∃n,acs.length=n:=⟨_,rfl⟩
   simp only [scP,stP,stC,hng,hnl,hnp,hna] at HX0 HAW HSA gl ⊢
   clear haw hsa hng hnl hnp hna h hs hT hsm hlen hcap
   go_enter Tryz.func5,Tryz.ntmps5
   go_wp2_with fail
   with_reducible refine (HAW.out _ HX0.out).mono ?_
   rintro e w1 ⟨rfl,k1⟩
   obtain⟨c0,c1,c2,c3,c4,c5⟩:=six_cells k1.box
   have HK1:=xhd k1
   clear k1
   go_wp2_with fail
   with_reducible refine (HSA.out _ HK1.out).mono ?_
   rintro e w2 ⟨rfl,k1⟩
   clear c0 c1 c2 c3 c4 c5
   obtain⟨c0,c1,c2,c3,c4,c5⟩:=six_cells k1.box
   have HK2:=xhd k1
   clear k1
   go_wp2
   go_ret
   exact⟨rfl,HK2.out.bel⟩
  ·have hsm:smallS x.1=false:=by simpa using hsm
   rw [hsm] at hsa
   have HAW:=xhd haw
   have HSA:=xhd hsa
   obtain⟨⟨c,g,gs,ls,ps⟩,acs⟩:=x
   obtain⟨ag,bg,og,cg,al,bl,ol,cl,ap,bp,op,cp,aa,ba,oa,ca⟩:=p
   obtain⟨ng,hng⟩:∃n,gs.length=n:=⟨_,rfl⟩
   obtain⟨nl,hnl⟩:∃n,ls.length=n:=⟨_,rfl⟩
   obtain⟨np,hnp⟩:∃n,ps.length=n:=⟨_,rfl⟩
   obtain⟨na,hna⟩:∃n,acs.length=n:=⟨_,rfl⟩
   simp only [scP,stP,stC,hng,hnl,hnp,hna] at HX0 HAW HSA ⊢
   clear haw hsa hng hnl hnp hna h hs hT hsm hlen hcap
   go_enter Tryz.func5,Tryz.ntmps5
   go_wp2_with fail
   with_reducible refine (HAW.out _ HX0.out).mono ?_
   rintro e w1 ⟨rfl,k1⟩
   obtain⟨c0,c1,c2,c3,c4,c5⟩:=six_cells k1.box
   have HK1:=xhd k1
   clear k1
   go_wp2_with fail
   with_reducible refine (HSA.out _ HK1.out).mono ?_
   rintro e w2 ⟨rfl,k1⟩
   clear c0 c1 c2 c3 c4 c5
   obtain⟨c0,c1,c2,c3,c4,c5⟩:=six_cells k1.box
   have HK2:=xhd k1
   clear k1
   go_wp2
   go_ret
   exact⟨rfl,HK2.out.bel⟩
end Go.Proofs.YtbnhnnccioljhaaGreatDoor
