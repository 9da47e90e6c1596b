/-
  The program's line of a lock. (Made by gen_splock.py.)
  The document's reader of setups: is, need, long.
-/
import Derived.Test.YtbnhnnccioljhaaGreatDoorZAE
import Derived.Test.YtbnhnnccioljhaaGreatDoorZAA
import Derived.Test.YtbnhnnccioljhaaGreatDoorZAB
import Derived.Deep.QuietTactic
import Derived.BigQuiet
import Derived.Test.YtbnhnnccioljhaaGreatDoorZAl
set_option maxRecDepth 100000
set_option maxHeartbeats 25600000
namespace Go.Proofs.YtbnhnnccioljhaaGreatDoor
open Go.RowKit
def lkN (sh:Bool):List Nm:=if sh then [(⟨#[115,108,105,99,101]⟩,16,1),(⟨#[99,114,105,116]⟩,32,2),(⟨#[114,101,97,100]⟩,16,3),(⟨#[119,114,105,116,101]⟩,16,4)] else [(⟨#[115,108,105,99,101]⟩,16,1),(⟨#[99,114,105,116]⟩,32,2)]
def lkF (sh:Bool):ByteArray:=if sh then⟨#[115,104,97,114,101,100]⟩ else⟨#[108,111,99,107]⟩
theorem number_info:(Tryz.prog.info? 151).map (fun i=>(i.zero,i.size,i.bytes))=some (some (.agg #[.string ⟨#[]⟩, .int .i64 0, .int .i64 0, .pointer none]),4,40):=by kernel_rfl
structure LkM (w V:World) (T n l:Nat) (sh:Bool):Prop where
 res:V.heap[w.heap.size]?=some (.cells #[.string ⟨#[]⟩, .slice none 0 0] 86 (0,0))
 spn:V.heap[w.heap.size+1]?=some (.cells #[.int .i64 1, .int .i64 16] 149 (0,0))
 num:V.heap[n]?=some (.cells #[.string ⟨#[115,108,105,99,101]⟩, .int .i64 1, .int .i64 16, .pointer (some ⟨T,1,none⟩), .string ⟨#[99,114,105,116]⟩, .int .i64 1, .int .i64 32, .pointer (some ⟨T,2,none⟩)] 151 (0,0))
 lin:V.heap[l]?=some (.cells #[.string ⟨#[108,111,99,107]⟩, .slice (some ⟨n,0,none⟩) 2 2] 86 (0,0))
 lck:V.cell? ⟨T,0,none⟩=some (.bool sh)
 bel:Below w.heap.size w V
 hn:w.heap.size+1 < n
 hl:w.heap.size+1 < l
 ne:n≠l
theorem LkM.a (w:World) {T:Nat} {sh:Bool} (hT:T < w.heap.size) (d:w.cell? ⟨T,0,none⟩=some (.bool sh)):
  LkM w (((((w.alloc (.cells #[.string ⟨#[]⟩, .slice none 0 0] 86)).alloc (.cells #[.int .i64 1, .int .i64 16] 149)).alloc (.cells #[.string ⟨#[115,108,105,99,101]⟩, .int .i64 1, .int .i64 16, .pointer (some ⟨T,1,none⟩), .string ⟨#[99,114,105,116]⟩, .int .i64 1, .int .i64 32, .pointer (some ⟨T,2,none⟩)] 151)).alloc (.cells #[.string ⟨#[108,111,99,107]⟩, .slice (some ⟨w.heap.size+1+1,0,none⟩) 2 2] 86)).drew) T (w.heap.size+1+1) (w.heap.size+1+1+1) sh:=by
 have hb:Below w.heap.size w (((((w.alloc (.cells #[.string ⟨#[]⟩, .slice none 0 0] 86)).alloc (.cells #[.int .i64 1, .int .i64 16] 149)).alloc (.cells #[.string ⟨#[115,108,105,99,101]⟩, .int .i64 1, .int .i64 16, .pointer (some ⟨T,1,none⟩), .string ⟨#[99,114,105,116]⟩, .int .i64 1, .int .i64 32, .pointer (some ⟨T,2,none⟩)] 151)).alloc (.cells #[.string ⟨#[108,111,99,107]⟩, .slice (some ⟨w.heap.size+1+1,0,none⟩) 2 2] 86)).drew):=(((((Below.refl _ w).alloc (Nat.le_refl _) _).alloc (by simp only [World.size_alloc];omega) _).alloc (by simp only [World.size_alloc];omega) _).alloc (by simp only [World.size_alloc];omega) _).drew
 have h1:=heap_alloc_new w (.cells #[.string ⟨#[]⟩, .slice none 0 0] 86)
 have h2:=heap_alloc_new (w.alloc (.cells #[.string ⟨#[]⟩, .slice none 0 0] 86)) (.cells #[.int .i64 1, .int .i64 16] 149)
 have h3:=heap_alloc_new ((w.alloc (.cells #[.string ⟨#[]⟩, .slice none 0 0] 86)).alloc (.cells #[.int .i64 1, .int .i64 16] 149)) (.cells #[.string ⟨#[115,108,105,99,101]⟩, .int .i64 1, .int .i64 16, .pointer (some ⟨T,1,none⟩), .string ⟨#[99,114,105,116]⟩, .int .i64 1, .int .i64 32, .pointer (some ⟨T,2,none⟩)] 151)
 have h4:=heap_alloc_new (((w.alloc (.cells #[.string ⟨#[]⟩, .slice none 0 0] 86)).alloc (.cells #[.int .i64 1, .int .i64 16] 149)).alloc (.cells #[.string ⟨#[115,108,105,99,101]⟩, .int .i64 1, .int .i64 16, .pointer (some ⟨T,1,none⟩), .string ⟨#[99,114,105,116]⟩, .int .i64 1, .int .i64 32, .pointer (some ⟨T,2,none⟩)] 151)) (.cells #[.string ⟨#[108,111,99,107]⟩, .slice (some ⟨w.heap.size+1+1,0,none⟩) 2 2] 86)
 simp only [World.size_alloc] at h2 h3 h4
 refine⟨?_,?_,?_,h4,(hb.cell (p:=⟨T,0,none⟩) hT).trans d,hb,by omega,by omega,by omega⟩
 ·exact (Below.heap_alloc _ _ _ (by simp only [World.size_alloc];omega)).trans ((Below.heap_alloc _ _ _ (by simp only [World.size_alloc];omega)).trans ((Below.heap_alloc _ _ _ (by simp)).trans h1))
 ·exact (Below.heap_alloc _ _ _ (by simp only [World.size_alloc];omega)).trans ((Below.heap_alloc _ _ _ (by simp)).trans h2)
 ·exact (Below.heap_alloc _ _ _ (by simp)).trans h3
theorem LkM.b (w:World) {T:Nat} {sh:Bool} (hT:T < w.heap.size) (d:w.cell? ⟨T,0,none⟩=some (.bool sh)):
  LkM w (((((w.alloc (.cells #[.string ⟨#[]⟩, .slice none 0 0] 86)).alloc (.cells #[.int .i64 1, .int .i64 16] 149)).alloc (.cells #[.string ⟨#[108,111,99,107]⟩, .slice (some ⟨w.heap.size+1+1+1,0,none⟩) 2 2] 86)).alloc (.cells #[.string ⟨#[115,108,105,99,101]⟩, .int .i64 1, .int .i64 16, .pointer (some ⟨T,1,none⟩), .string ⟨#[99,114,105,116]⟩, .int .i64 1, .int .i64 32, .pointer (some ⟨T,2,none⟩)] 151)).drew) T (w.heap.size+1+1+1) (w.heap.size+1+1) sh:=by
 have hb:Below w.heap.size w (((((w.alloc (.cells #[.string ⟨#[]⟩, .slice none 0 0] 86)).alloc (.cells #[.int .i64 1, .int .i64 16] 149)).alloc (.cells #[.string ⟨#[108,111,99,107]⟩, .slice (some ⟨w.heap.size+1+1+1,0,none⟩) 2 2] 86)).alloc (.cells #[.string ⟨#[115,108,105,99,101]⟩, .int .i64 1, .int .i64 16, .pointer (some ⟨T,1,none⟩), .string ⟨#[99,114,105,116]⟩, .int .i64 1, .int .i64 32, .pointer (some ⟨T,2,none⟩)] 151)).drew):=(((((Below.refl _ w).alloc (Nat.le_refl _) _).alloc (by simp only [World.size_alloc];omega) _).alloc (by simp only [World.size_alloc];omega) _).alloc (by simp only [World.size_alloc];omega) _).drew
 have h1:=heap_alloc_new w (.cells #[.string ⟨#[]⟩, .slice none 0 0] 86)
 have h2:=heap_alloc_new (w.alloc (.cells #[.string ⟨#[]⟩, .slice none 0 0] 86)) (.cells #[.int .i64 1, .int .i64 16] 149)
 have h3:=heap_alloc_new ((w.alloc (.cells #[.string ⟨#[]⟩, .slice none 0 0] 86)).alloc (.cells #[.int .i64 1, .int .i64 16] 149)) (.cells #[.string ⟨#[108,111,99,107]⟩, .slice (some ⟨w.heap.size+1+1+1,0,none⟩) 2 2] 86)
 have h4:=heap_alloc_new (((w.alloc (.cells #[.string ⟨#[]⟩, .slice none 0 0] 86)).alloc (.cells #[.int .i64 1, .int .i64 16] 149)).alloc (.cells #[.string ⟨#[108,111,99,107]⟩, .slice (some ⟨w.heap.size+1+1+1,0,none⟩) 2 2] 86)) (.cells #[.string ⟨#[115,108,105,99,101]⟩, .int .i64 1, .int .i64 16, .pointer (some ⟨T,1,none⟩), .string ⟨#[99,114,105,116]⟩, .int .i64 1, .int .i64 32, .pointer (some ⟨T,2,none⟩)] 151)
 simp only [World.size_alloc] at h2 h3 h4
 refine⟨?_,?_,h4,?_,(hb.cell (p:=⟨T,0,none⟩) hT).trans d,hb,by omega,by omega,by omega⟩
 ·exact (Below.heap_alloc _ _ _ (by simp only [World.size_alloc];omega)).trans ((Below.heap_alloc _ _ _ (by simp only [World.size_alloc];omega)).trans ((Below.heap_alloc _ _ _ (by simp)).trans h1))
 ·exact (Below.heap_alloc _ _ _ (by simp only [World.size_alloc];omega)).trans ((Below.heap_alloc _ _ _ (by simp)).trans h2)
 ·exact (Below.heap_alloc _ _ _ (by simp)).trans h3
theorem NArg.two {w:World} {nb T:Nat} (h:w.heap[nb]?=some (.cells #[.string ⟨#[115,108,105,99,101]⟩, .int .i64 1, .int .i64 16, .pointer (some ⟨T,1,none⟩), .string ⟨#[99,114,105,116]⟩, .int .i64 1, .int .i64 32, .pointer (some ⟨T,2,none⟩)] 151 (0,0))):NArg w nb 0 T [(⟨#[115,108,105,99,101]⟩,16,1),(⟨#[99,114,105,116]⟩,32,2)]:=by
 refine⟨⟨_,_,h⟩,fun i hi=>?_⟩
 have:i=0∨i=1:=by simp at hi;omega
 rcases this with rfl|rfl<;>simp [World.cell?,h]
theorem NArg.four {w:World} {T:Nat} {v:Value} (h:w.ownsRow 0 151 4 v 4 (([.string ⟨#[115,108,105,99,101]⟩, .int .i64 1, .int .i64 16, .pointer (some ⟨T,1,none⟩), .string ⟨#[99,114,105,116]⟩, .int .i64 1, .int .i64 32, .pointer (some ⟨T,2,none⟩)]:List Value)++[.string ⟨#[114,101,97,100]⟩, .int .i64 1, .int .i64 16, .pointer (some ⟨T,3,none⟩), .string ⟨#[119,114,105,116,101]⟩, .int .i64 1, .int .i64 16, .pointer (some ⟨T,4,none⟩)])):∃nb nc,v= .slice (some ⟨nb,0,none⟩) 4 nc∧NArg w nb 0 T [(⟨#[115,108,105,99,101]⟩,16,1),(⟨#[99,114,105,116]⟩,32,2),(⟨#[114,101,97,100]⟩,16,3),(⟨#[119,114,105,116,101]⟩,16,4)]:=by
 obtain⟨g,cap,rfl, -, -⟩:=ownsRow_pos h (by decide)
 refine⟨g,cap,rfl,?_,fun i hi=>?_⟩
 ·obtain⟨cur,hc⟩:=ownsRow_type h g (by simp [Value.ownBlock])
  exact⟨_,_,hc⟩
 ·have e:∀k,k < 16→w.cell? ⟨g,k,none⟩=(([.string ⟨#[115,108,105,99,101]⟩, .int .i64 1, .int .i64 16, .pointer (some ⟨T,1,none⟩), .string ⟨#[99,114,105,116]⟩, .int .i64 1, .int .i64 32, .pointer (some ⟨T,2,none⟩)]:List Value)++[.string ⟨#[114,101,97,100]⟩, .int .i64 1, .int .i64 16, .pointer (some ⟨T,3,none⟩), .string ⟨#[119,114,105,116,101]⟩, .int .i64 1, .int .i64 16, .pointer (some ⟨T,4,none⟩)])[k]?:=fun k hk=>h.cellAt k (by simpa using hk)
  have:i=0∨i=1∨i=2∨i=3:=by simp at hi;omega
  rcases this with rfl|rfl|rfl|rfl<;>exact⟨e _ (by omega),e _ (by omega),e _ (by omega),e _ (by omega)⟩
theorem two_row {w:World} {n T:Nat} (h:w.heap[n]?=some (.cells #[.string ⟨#[115,108,105,99,101]⟩, .int .i64 1, .int .i64 16, .pointer (some ⟨T,1,none⟩), .string ⟨#[99,114,105,116]⟩, .int .i64 1, .int .i64 32, .pointer (some ⟨T,2,none⟩)] 151 (0,0))):w.ownsRow 0 151 4 (.slice (some ⟨n,0,none⟩) 2 2) 2 [.string ⟨#[115,108,105,99,101]⟩, .int .i64 1, .int .i64 16, .pointer (some ⟨T,1,none⟩), .string ⟨#[99,114,105,116]⟩, .int .i64 1, .int .i64 32, .pointer (some ⟨T,2,none⟩)]:=
 ⟨rfl, .inr ⟨n,2,_,rfl,Nat.zero_le _,h,Nat.le_refl _,by decide,rfl,rfl⟩⟩
theorem more_at {W:World} {g T:Nat} (hg:W.heap.size=g):∀(j:Nat) (u:Value),([.string ⟨#[114,101,97,100]⟩, .int .i64 1, .int .i64 16, .pointer (some ⟨T,3,none⟩), .string ⟨#[119,114,105,116,101]⟩, .int .i64 1, .int .i64 16, .pointer (some ⟨T,4,none⟩)]:List Value)[j]?=some u→(W.alloc (.cells #[.string ⟨#[114,101,97,100]⟩, .int .i64 1, .int .i64 16, .pointer (some ⟨T,3,none⟩), .string ⟨#[119,114,105,116,101]⟩, .int .i64 1, .int .i64 16, .pointer (some ⟨T,4,none⟩)] 151)).cell? ((⟨g,0,none⟩:Addr).add j)=some u:=by
 subst hg
 intro j u hu
 have h:=heap_alloc_new W (.cells #[.string ⟨#[114,101,97,100]⟩, .int .i64 1, .int .i64 16, .pointer (some ⟨T,3,none⟩), .string ⟨#[119,114,105,116,101]⟩, .int .i64 1, .int .i64 16, .pointer (some ⟨T,4,none⟩)] 151)
 have e:((⟨W.heap.size,0,none⟩:Addr).add j)=⟨W.heap.size,j,none⟩:=by
  cases j<;>simp [Addr.add]
 rw [e]
 have hj:j < 8:=by
  obtain⟨hj, -⟩:=List.getElem?_eq_some_iff.1 hu
  simpa using hj
 rw [cell_at h (by simpa using hj)]
 have:=(List.getElem?_eq_some_iff.1 hu).2
 simpa using this
theorem more_ones (T:Nat):∀u ∈ ([.string ⟨#[114,101,97,100]⟩, .int .i64 1, .int .i64 16, .pointer (some ⟨T,3,none⟩), .string ⟨#[119,114,105,116,101]⟩, .int .i64 1, .int .i64 16, .pointer (some ⟨T,4,none⟩)]:List Value),u.oneCell'=true:=by
 intro u hu
 simp only [List.mem_cons,List.not_mem_nil,or_false] at hu
 rcases hu with rfl|rfl|rfl|rfl|rfl|rfl|rfl|rfl<;>rfl
theorem lockline_plain (T:Nat) (w:World) (hT:T < w.heap.size) (d:w.cell? ⟨T,0,none⟩=some (.bool false)):
  Calls Tryz.prog 89 #[.pointer (some ⟨T,0,none⟩)] w (LineP ⟨#[108,111,99,107]⟩ [(⟨#[115,108,105,99,101]⟩,16,1),(⟨#[99,114,105,116]⟩,32,2)] T w):=by
 go_enter Tryz.func89,Tryz.ntmps89
 go_wp2_with fail
 go_region_held3 (fun _=>True)
  (first|exact trivial)
  (fail)
 ·have hm:=LkM.a w hT d
  obtain⟨V,hV⟩:∃V,(((((w.alloc (.cells #[.string ⟨#[]⟩, .slice none 0 0] 86)).alloc (.cells #[.int .i64 1, .int .i64 16] 149)).alloc (.cells #[.string ⟨#[115,108,105,99,101]⟩, .int .i64 1, .int .i64 16, .pointer (some ⟨T,1,none⟩), .string ⟨#[99,114,105,116]⟩, .int .i64 1, .int .i64 32, .pointer (some ⟨T,2,none⟩)] 151)).alloc (.cells #[.string ⟨#[108,111,99,107]⟩, .slice (some ⟨w.heap.size+1+1,0,none⟩) 2 2] 86)).drew)=V:=⟨_,rfl⟩
  obtain⟨B3,hB3⟩:∃B,w.heap.size+1+1+1=B:=⟨_,rfl⟩
  obtain⟨B2,hB2⟩:∃B,w.heap.size+1+1=B:=⟨_,rfl⟩
  rw [hV] at hm ⊢
  rw [hB3] at hm ⊢
  rw [hB2] at hm ⊢
  clear hV hB3 hB2 d
  have HM:=xhd hm
  have dT:=hm.lck
  obtain⟨l0,l1⟩:=two_cells hm.lin
  have fl0:=not_frozen hm.lin 0
  have fl1:=not_frozen hm.lin 1
  obtain⟨z0,z1⟩:=two_cells hm.res
  have fz0:=not_frozen hm.res 0
  have fz1:=not_frozen hm.res 1
  have n1:B2≠B3:=hm.ne
  have n2:w.heap.size≠B3:=by have:=hm.hl;omega
  have n3:w.heap.size≠B2:=by have:=hm.hn;omega
  have n4:B3≠w.heap.size:=by have:=hm.hl;omega
  clear hm
  go_wp2
  have hr:∀a b,((V.setCell ⟨w.heap.size,0,none⟩ a).setCell ⟨w.heap.size,1,none⟩ b).heap[B2]?=V.heap[B2]?:=fun a b=>(Below.heap_setCell _ _ _ _ (by show B2≠w.heap.size;omega)).trans (Below.heap_setCell _ _ _ _ (by show B2≠w.heap.size;omega))
  refine bodyPost_ret (line_res rfl rfl (two_stored HM.out.res)) rfl ?_
  exact⟨_,_,rfl,NArg.two ((hr _ _).trans HM.out.num),by have:=HM.out.hn;omega,(HM.out.bel.setCell (Nat.le_refl _) _).setCell (Nat.le_refl _) _⟩
 ·have hm:=LkM.b w hT d
  obtain⟨V,hV⟩:∃V,(((((w.alloc (.cells #[.string ⟨#[]⟩, .slice none 0 0] 86)).alloc (.cells #[.int .i64 1, .int .i64 16] 149)).alloc (.cells #[.string ⟨#[108,111,99,107]⟩, .slice (some ⟨w.heap.size+1+1+1,0,none⟩) 2 2] 86)).alloc (.cells #[.string ⟨#[115,108,105,99,101]⟩, .int .i64 1, .int .i64 16, .pointer (some ⟨T,1,none⟩), .string ⟨#[99,114,105,116]⟩, .int .i64 1, .int .i64 32, .pointer (some ⟨T,2,none⟩)] 151)).drew)=V:=⟨_,rfl⟩
  obtain⟨B3,hB3⟩:∃B,w.heap.size+1+1+1=B:=⟨_,rfl⟩
  obtain⟨B2,hB2⟩:∃B,w.heap.size+1+1=B:=⟨_,rfl⟩
  rw [hV] at hm ⊢
  rw [hB3] at hm ⊢
  rw [hB2] at hm ⊢
  clear hV hB3 hB2 d
  have HM:=xhd hm
  have dT:=hm.lck
  obtain⟨l0,l1⟩:=two_cells hm.lin
  have fl0:=not_frozen hm.lin 0
  have fl1:=not_frozen hm.lin 1
  obtain⟨z0,z1⟩:=two_cells hm.res
  have fz0:=not_frozen hm.res 0
  have fz1:=not_frozen hm.res 1
  have n1:B3≠B2:=hm.ne
  have n2:w.heap.size≠B2:=by have:=hm.hl;omega
  have n3:w.heap.size≠B3:=by have:=hm.hn;omega
  have n4:B2≠w.heap.size:=by have:=hm.hl;omega
  clear hm
  go_wp2
  have hr:∀a b,((V.setCell ⟨w.heap.size,0,none⟩ a).setCell ⟨w.heap.size,1,none⟩ b).heap[B3]?=V.heap[B3]?:=fun a b=>(Below.heap_setCell _ _ _ _ (by show B3≠w.heap.size;omega)).trans (Below.heap_setCell _ _ _ _ (by show B3≠w.heap.size;omega))
  refine bodyPost_ret (line_res rfl rfl (two_stored HM.out.res)) rfl ?_
  exact⟨_,_,rfl,NArg.two ((hr _ _).trans HM.out.num),by have:=HM.out.hn;omega,(HM.out.bel.setCell (Nat.le_refl _) _).setCell (Nat.le_refl _) _⟩
theorem lockline_shared (T:Nat) (w:World) (hT:T < w.heap.size) (d:w.cell? ⟨T,0,none⟩=some (.bool true)):
  Calls Tryz.prog 89 #[.pointer (some ⟨T,0,none⟩)] w (LineP ⟨#[115,104,97,114,101,100]⟩ [(⟨#[115,108,105,99,101]⟩,16,1),(⟨#[99,114,105,116]⟩,32,2),(⟨#[114,101,97,100]⟩,16,3),(⟨#[119,114,105,116,101]⟩,16,4)] T w):=by
 obtain⟨i0,hi0,hz0,hz1,hz2⟩:=info_parts number_info
 go_enter Tryz.func89,Tryz.ntmps89
 go_wp2_with fail
 go_region_held3 (fun _=>True)
  (first|exact trivial)
  (fail)
 ·have hm:=LkM.a w hT d
  obtain⟨V,hV⟩:∃V,(((((w.alloc (.cells #[.string ⟨#[]⟩, .slice none 0 0] 86)).alloc (.cells #[.int .i64 1, .int .i64 16] 149)).alloc (.cells #[.string ⟨#[115,108,105,99,101]⟩, .int .i64 1, .int .i64 16, .pointer (some ⟨T,1,none⟩), .string ⟨#[99,114,105,116]⟩, .int .i64 1, .int .i64 32, .pointer (some ⟨T,2,none⟩)] 151)).alloc (.cells #[.string ⟨#[108,111,99,107]⟩, .slice (some ⟨w.heap.size+1+1,0,none⟩) 2 2] 86)).drew)=V:=⟨_,rfl⟩
  obtain⟨B3,hB3⟩:∃B,w.heap.size+1+1+1=B:=⟨_,rfl⟩
  obtain⟨B2,hB2⟩:∃B,w.heap.size+1+1=B:=⟨_,rfl⟩
  rw [hV] at hm ⊢
  rw [hB3] at hm ⊢
  rw [hB2] at hm ⊢
  clear hV hB3 hB2 d
  have HM:=xhd hm
  have dT:=hm.lck
  obtain⟨l0,l1⟩:=two_cells hm.lin
  have fl0:=not_frozen hm.lin 0
  have fl1:=not_frozen hm.lin 1
  obtain⟨z0,z1⟩:=two_cells hm.res
  have fz0:=not_frozen hm.res 0
  have fz1:=not_frozen hm.res 1
  have n1:B2≠B3:=hm.ne
  have n2:w.heap.size≠B3:=by have:=hm.hl;omega
  have n3:w.heap.size≠B2:=by have:=hm.hn;omega
  have n4:B3≠w.heap.size:=by have:=hm.hl;omega
  clear hm
  go_wp2_with fail
  obtain⟨V2,hV2⟩:∃V2,V.setCell ⟨B3,0,none⟩ (.string ⟨#[115,104,97,114,101,100]⟩)=V2:=⟨_,rfl⟩
  have hb2:∀k,k≠B3→V2.heap[k]?=V.heap[k]?:=fun k hk=>by rw [←hV2];exact Below.heap_setCell _ _ _ _ hk
  have hl2:V2.heap[B3]?=some (.cells #[.string ⟨#[115,104,97,114,101,100]⟩, .slice (some ⟨B2,0,none⟩) 2 2] 86 (0,0)):=by
   rw [←hV2,heap_setCell_same _ _ _ _ _ _ HM.out.lin]
   rfl
  have HB2:Hid (Below w.heap.size w V2):=xhd (by rw [←hV2];exact HM.out.bel.setCell (by show w.heap.size≤B3;have:=HM.out.hl;omega) _)
  rw [hV2]
  have HR2:=xhd ((hb2 _ n2).trans HM.out.res)
  have HS2:=xhd ((hb2 _ (by have:=HM.out.hl;omega)).trans HM.out.spn)
  have HN2:=xhd ((hb2 _ n1).trans HM.out.num)
  have HL2:=xhd hl2
  have HLN:=xhd HM.out.hn
  have HLL:=xhd HM.out.hl
  have HV0:=xhd (fun (W:World) (hs:∀k,k < V2.heap.size→W.heap[k]?=V2.heap[k]?)=>(by
   have a:=two_cells ((hs _ (lt_of_block HL2.out)).trans HL2.out)
   have b:=two_cells ((hs _ (lt_of_block HS2.out)).trans HS2.out)
   exact⟨a.2,b.1,b.2⟩:W.cell? ⟨B3,1,none⟩=some (.slice (some ⟨B2,0,none⟩) 2 2)∧W.cell? ⟨w.heap.size+1,0,none⟩=some (.int .i64 1)∧W.cell? ⟨w.heap.size+1,1,none⟩=some (.int .i64 16)))
  have hS1:=HV0.out V2.drew (fun k _=>rfl)
  clear hV2 hb2 hl2 dT l0 l1 fl0 fl1 z0 z1 fz0 fz1 HM
  have hmix:Tryz.prog.follows .mixedOrders=true:=by kernel_rfl
  refine wp_region_noPanic ?_
  refine wp_region_last (fun V=>V.cell? ⟨B3,1,none⟩=some (.slice (some ⟨B2,0,none⟩) 2 2)∧V.cell? ⟨w.heap.size+1,0,none⟩=some (.int .i64 1)∧V.cell? ⟨w.heap.size+1,1,none⟩=some (.int .i64 16)) 15 hmix hS1 (fun hS0=>?_)
  refine wpAnyE_take (i:=0) (v:=?_) rfl (by kernel_rfl) (by kernel_rfl) (fun _ _ _ h=>h) (by kernel_rfl) (by kernel_rfl) (Or.inl ⟨by rfl,?hy⟩) (by assumption) ?_
  case hy=>
   intro w hSw
   (try dsimp only at hSw)
   go_simp
   try with_reducible rfl
  try simp only [xga];try simp only [xgs];try simp only [xgz];try simp only [Act.put];try simp only [xsa];try simp only [xss];try simp only [xsz]
  refine wpAnyE_take (i:=1) (v:=?_) rfl (by kernel_rfl) (by kernel_rfl) (fun _ _ _ h=>h) (by kernel_rfl) (by kernel_rfl) (Or.inl ⟨by rfl,?hy⟩) (by assumption) ?_
  case hy=>
   intro w hSw
   (try dsimp only at hSw)
   go_simp
   try with_reducible rfl
  try simp only [xga];try simp only [xgs];try simp only [xgz];try simp only [Act.put];try simp only [xsa];try simp only [xss];try simp only [xsz]
  refine wpAnyE_take (i:=2) (v:=?_) rfl (by kernel_rfl) (by kernel_rfl) (fun _ _ _ h=>h) (by kernel_rfl) (by kernel_rfl) (Or.inl ⟨by rfl,?hy⟩) (by assumption) ?_
  case hy=>
   intro w hSw
   (try dsimp only at hSw)
   go_simp
   try with_reducible rfl
  try simp only [xga];try simp only [xgs];try simp only [xgz];try simp only [Act.put];try simp only [xsa];try simp only [xss];try simp only [xsz]
  refine wpAnyE_take (i:=3) (v:=?_) rfl (by kernel_rfl) (by kernel_rfl) (fun _ _ _ h=>h) (by kernel_rfl) (by kernel_rfl) (Or.inl ⟨by rfl,?hy⟩) (by assumption) ?_
  case hy=>
   intro w hSw
   (try dsimp only at hSw)
   go_simp
   try with_reducible rfl
  try simp only [xga];try simp only [xgs];try simp only [xgz];try simp only [Act.put];try simp only [xsa];try simp only [xss];try simp only [xsz]
  refine wpAnyE_take (i:=4) (v:=?_) rfl (by kernel_rfl) (by kernel_rfl) (fun _ _ _ h=>h) (by kernel_rfl) (by kernel_rfl) (Or.inl ⟨by rfl,?hy⟩) (by assumption) ?_
  case hy=>
   intro w hSw
   (try dsimp only at hSw)
   go_simp
   try with_reducible rfl
  try simp only [xga];try simp only [xgs];try simp only [xgz];try simp only [Act.put];try simp only [xsa];try simp only [xss];try simp only [xsz]
  refine wpAnyE_take (i:=5) (v:=?_) rfl (by kernel_rfl) (by kernel_rfl) (fun _ _ _ h=>h) (by kernel_rfl) (by kernel_rfl) (Or.inl ⟨by rfl,?hy⟩) (by assumption) ?_
  case hy=>
   intro w hSw
   (try dsimp only at hSw)
   go_simp
   try with_reducible rfl
  try simp only [xga];try simp only [xgs];try simp only [xgz];try simp only [Act.put];try simp only [xsa];try simp only [xss];try simp only [xsz]
  refine wpAnyE_take (i:=6) (v:=?_) rfl (by kernel_rfl) (by kernel_rfl) (fun _ _ _ h=>h) (by kernel_rfl) (by kernel_rfl) (Or.inl ⟨by rfl,?hy⟩) (by assumption) ?_
  case hy=>
   intro w hSw
   (try dsimp only at hSw)
   go_simp
   try with_reducible rfl
  try simp only [xga];try simp only [xgs];try simp only [xgz];try simp only [Act.put];try simp only [xsa];try simp only [xss];try simp only [xsz]
  refine wpAnyE_take (i:=7) (v:=?_) rfl (by kernel_rfl) (by kernel_rfl) (fun _ _ _ h=>h) (by kernel_rfl) (by kernel_rfl) (Or.inl ⟨by rfl,?hy⟩) (by assumption) ?_
  case hy=>
   intro w hSw
   (try dsimp only at hSw)
   go_simp
   try with_reducible rfl
  try simp only [xga];try simp only [xgs];try simp only [xgz];try simp only [Act.put];try simp only [xsa];try simp only [xss];try simp only [xsz]
  refine wpAnyE_take (i:=8) (v:=?_) rfl (by kernel_rfl) (by kernel_rfl) (fun _ _ _ h=>h) (by kernel_rfl) (by kernel_rfl) (Or.inl ⟨by rfl,?hy⟩) (by assumption) ?_
  case hy=>
   intro w hSw
   (try dsimp only at hSw)
   go_simp
   try with_reducible rfl
  try simp only [xga];try simp only [xgs];try simp only [xgz];try simp only [Act.put];try simp only [xsa];try simp only [xss];try simp only [xsz]
  refine wpAnyE_take (i:=9) (v:=?_) rfl (by kernel_rfl) (by kernel_rfl) (fun _ _ _ h=>h) (by kernel_rfl) (by kernel_rfl) (Or.inl ⟨by rfl,?hy⟩) (by assumption) ?_
  case hy=>
   intro w hSw
   (try dsimp only at hSw)
   go_simp
   try with_reducible rfl
  try simp only [xga];try simp only [xgs];try simp only [xgz];try simp only [Act.put];try simp only [xsa];try simp only [xss];try simp only [xsz]
  refine wpAnyE_take (i:=10) (v:=?_) rfl (by kernel_rfl) (by kernel_rfl) (fun _ _ _ h=>h) (by kernel_rfl) (by kernel_rfl) (Or.inl ⟨by rfl,?hy⟩) (by assumption) ?_
  case hy=>
   intro w hSw
   (try dsimp only at hSw)
   go_simp
   try with_reducible rfl
  try simp only [xga];try simp only [xgs];try simp only [xgz];try simp only [Act.put];try simp only [xsa];try simp only [xss];try simp only [xsz]
  refine wpAnyE_take (i:=11) (v:=?_) rfl (by kernel_rfl) (by kernel_rfl) (fun _ _ _ h=>h) (by kernel_rfl) (by kernel_rfl) (Or.inl ⟨by rfl,?hy⟩) (by assumption) ?_
  case hy=>
   intro w hSw
   (try dsimp only at hSw)
   go_simp
   try with_reducible rfl
  try simp only [xga];try simp only [xgs];try simp only [xgz];try simp only [Act.put];try simp only [xsa];try simp only [xss];try simp only [xsz]
  refine wpAnyE_ready (rs:=[12]) (by kernel_rfl) (by simp) ?_
  refine ReadyE.cons rfl (fun K' hK=>?_) ReadyE.nil
  go_simp
  have hA:=HV0.out (V2.drew.alloc (.cells #[.string ⟨#[114,101,97,100]⟩, .int .i64 1, .int .i64 16, .pointer (some ⟨T,3,none⟩), .string ⟨#[119,114,105,116,101]⟩, .int .i64 1, .int .i64 16, .pointer (some ⟨T,4,none⟩)] 151)) (fun k hk=>Below.heap_alloc _ _ _ (by simpa using hk))
  refine hK.out _ _ (.inr ?_) ?_
  ·exact hA
  clear hK K'
  try simp only [xga];try simp only [xgs];try simp only [xgz];try simp only [Act.put];try simp only [xsa];try simp only [xss];try simp only [xsz]
  refine wpAnyE_ready (rs:=[13]) (by kernel_rfl) (by simp) ?_
  refine ReadyE.cons rfl (fun K' hK=>?_) ReadyE.nil
  refine step_append_any _ rfl (.tmp 24) (.tmp 35) 84 rfl 151 i0 (.agg #[.string ⟨#[]⟩, .int .i64 0, .int .i64 0, .pointer none]) 4 40 Tryz.underlying84 hi0 hz0 hz1 hz2 rfl (by decide) (.slice (some ⟨B2,0,none⟩) 2 2) 2 [.string ⟨#[115,108,105,99,101]⟩, .int .i64 1, .int .i64 16, .pointer (some ⟨T,1,none⟩), .string ⟨#[99,114,105,116]⟩, .int .i64 1, .int .i64 32, .pointer (some ⟨T,2,none⟩)] rfl (two_row (T:=T) ((Below.heap_alloc _ _ _ (by have:=lt_of_block HN2.out;simpa using this)).trans HN2.out)) (some ⟨V2.heap.size,0,none⟩) 2 2 [.string ⟨#[114,101,97,100]⟩, .int .i64 1, .int .i64 16, .pointer (some ⟨T,3,none⟩), .string ⟨#[119,114,105,116,101]⟩, .int .i64 1, .int .i64 16, .pointer (some ⟨T,4,none⟩)] rfl rfl (by intro h;cases h) (by intro ad had;cases had;exact more_at rfl) (more_ones T) (by decide) (by decide) ?_
  intro a' cap' w4 hown hg hnew
  have hk4:∀k,k < V2.heap.size→k≠B2→w4.heap[k]?=V2.heap[k]?:=fun k hk hne=>(hg.block k (by simp;omega) (by simp [Value.ownBlock];omega)).trans (Below.heap_alloc _ _ _ (by simpa using hk))
  have hl4:=(hk4 _ (lt_of_block HL2.out) (by omega)).trans HL2.out
  have hs4:=(hk4 _ (lt_of_block HS2.out) (by have:=HLN.out;omega)).trans HS2.out
  have hr4:=(hk4 _ (lt_of_block HR2.out) n3).trans HR2.out
  have c4:=two_cells hl4
  have d4:=two_cells hs4
  have hS4:=And.intro c4.2 (And.intro d4.1 d4.2)
  refine hK.out _ _ (.inr ?_) ?_
  ·exact hS4
  clear hK K'
  try simp only [xga];try simp only [xgs];try simp only [xgz];try simp only [Act.put];try simp only [xsa];try simp only [xss];try simp only [xsz]
  have hb4:Below w.heap.size w w4:=HB2.out.trans (by
   have h5:Below V2.heap.size V2 (V2.drew.alloc (.cells #[.string ⟨#[114,101,97,100]⟩, .int .i64 1, .int .i64 16, .pointer (some ⟨T,3,none⟩), .string ⟨#[119,114,105,116,101]⟩, .int .i64 1, .int .i64 16, .pointer (some ⟨T,4,none⟩)] 151)):=(Below.refl _ _).drew.alloc (by simp) _
   exact (h5.mono HB2.out.size).grown hg (by have:=HB2.out.size;simp;omega) (fun k hk=>by have:=HLN.out;simp [Value.ownBlock] at hk;omega))
  obtain⟨nb,nc,hv,hna⟩:=NArg.four (T:=T) hown
  injection hv with e1 e2 e3
  subst e1
  subst e3
  have hnb:nb≠B3∧w.heap.size < nb:=by
   rcases hnew nb (by simp [Value.ownBlock]) with h|h
   ·simp [Value.ownBlock] at h
    have:=HLN.out
    omega
   ·have h1:=lt_of_block HL2.out
    have h2:=HB2.out.size
    simp at h
    omega
  refine wpAnyE_take (i:=14) (v:=?_) rfl (by kernel_rfl) (by kernel_rfl) (fun _ _ _ h=>h) (by kernel_rfl) (by kernel_rfl) (Or.inl ⟨by rfl,?hy⟩) (by assumption) ?_
  case hy=>
   intro w hSw
   (try dsimp only at hSw)
   go_simp
   try with_reducible rfl
  try simp only [xga];try simp only [xgs];try simp only [xgz];try simp only [Act.put];try simp only [xsa];try simp only [xss];try simp only [xsz]
  have f4:=not_frozen hl4 1
  have f40:=not_frozen hl4 0
  obtain⟨c40,c41⟩:=c4
  refine wpAnyE_ready (rs:=[15]) (by kernel_rfl) (by simp) ?_
  refine ReadyE.cons rfl (fun K' hK=>?_) ReadyE.nil
  go_simp
  refine hK.out _ _ (.inl rfl) ?_
  clear hK K'
  refine wpAnyE_done (by kernel_rfl) ?_ _
  refine NoPanic.normal ?_
  try simp only [xga];try simp only [xgs];try simp only [xgz];try simp only [Act.put];try simp only [xsa];try simp only [xss];try simp only [xsz]
  obtain⟨W5,hW5⟩:∃W5,w4.setCell ⟨B3,1,none⟩ (.slice (some ⟨nb,0,none⟩) (2+2) cap')=W5:=⟨_,rfl⟩
  have hl5:W5.heap[B3]?=some (.cells #[.string ⟨#[115,104,97,114,101,100]⟩, .slice (some ⟨nb,0,none⟩) 4 cap'] 86 (0,0)):=by
   rw [←hW5,heap_setCell_same _ _ _ _ _ _ hl4]
   rfl
  have hr5:W5.heap[w.heap.size]?=some (.cells #[.string ⟨#[]⟩, .slice none 0 0] 86 (0,0)):=by
   rw [←hW5]
   exact (Below.heap_setCell _ _ _ _ n2).trans hr4
  have HN5:=xhd (hna.same (w':=W5) (by rw [←hW5];exact Below.heap_setCell _ _ _ _ hnb.1))
  have HB5:Hid (Below w.heap.size w W5):=xhd (by rw [←hW5];exact hb4.setCell (by show w.heap.size≤B3;have:=HLL.out;omega) _)
  have HNB:=xhd hnb
  have HR5:=xhd hr5
  rw [hW5]
  obtain⟨l0,l1⟩:=two_cells hl5
  obtain⟨z0,z1⟩:=two_cells hr5
  have fz0:=not_frozen hr5 0
  have fz1:=not_frozen hr5 1
  clear hW5 hl5 hr5 hna hb4 hnb f4 f40 c40 c41 hS4 hl4 hs4 hr4 hk4 hown hg hnew d4 hA hS0 hS1 HV0
  go_wp2
  refine bodyPost_ret (line_res rfl rfl (two_stored HR5.out)) rfl ?_
  have hr:∀a b,((W5.setCell ⟨w.heap.size,0,none⟩ a).setCell ⟨w.heap.size,1,none⟩ b).heap[nb]?=W5.heap[nb]?:=fun a b=>(Below.heap_setCell _ _ _ _ (by show nb≠w.heap.size;have:=HNB.out.2;omega)).trans (Below.heap_setCell _ _ _ _ (by show nb≠w.heap.size;have:=HNB.out.2;omega))
  exact⟨nb,cap',rfl,HN5.out.same (hr _ _),by have:=HNB.out.2;omega,(HB5.out.setCell (Nat.le_refl _) _).setCell (Nat.le_refl _) _⟩
 ·have hm:=LkM.b w hT d
  obtain⟨V,hV⟩:∃V,(((((w.alloc (.cells #[.string ⟨#[]⟩, .slice none 0 0] 86)).alloc (.cells #[.int .i64 1, .int .i64 16] 149)).alloc (.cells #[.string ⟨#[108,111,99,107]⟩, .slice (some ⟨w.heap.size+1+1+1,0,none⟩) 2 2] 86)).alloc (.cells #[.string ⟨#[115,108,105,99,101]⟩, .int .i64 1, .int .i64 16, .pointer (some ⟨T,1,none⟩), .string ⟨#[99,114,105,116]⟩, .int .i64 1, .int .i64 32, .pointer (some ⟨T,2,none⟩)] 151)).drew)=V:=⟨_,rfl⟩
  obtain⟨B3,hB3⟩:∃B,w.heap.size+1+1+1=B:=⟨_,rfl⟩
  obtain⟨B2,hB2⟩:∃B,w.heap.size+1+1=B:=⟨_,rfl⟩
  rw [hV] at hm ⊢
  rw [hB3] at hm ⊢
  rw [hB2] at hm ⊢
  clear hV hB3 hB2 d
  have HM:=xhd hm
  have dT:=hm.lck
  obtain⟨l0,l1⟩:=two_cells hm.lin
  have fl0:=not_frozen hm.lin 0
  have fl1:=not_frozen hm.lin 1
  obtain⟨z0,z1⟩:=two_cells hm.res
  have fz0:=not_frozen hm.res 0
  have fz1:=not_frozen hm.res 1
  have n1:B3≠B2:=hm.ne
  have n2:w.heap.size≠B2:=by have:=hm.hl;omega
  have n3:w.heap.size≠B3:=by have:=hm.hn;omega
  have n4:B2≠w.heap.size:=by have:=hm.hl;omega
  clear hm
  go_wp2_with fail
  obtain⟨V2,hV2⟩:∃V2,V.setCell ⟨B2,0,none⟩ (.string ⟨#[115,104,97,114,101,100]⟩)=V2:=⟨_,rfl⟩
  have hb2:∀k,k≠B2→V2.heap[k]?=V.heap[k]?:=fun k hk=>by rw [←hV2];exact Below.heap_setCell _ _ _ _ hk
  have hl2:V2.heap[B2]?=some (.cells #[.string ⟨#[115,104,97,114,101,100]⟩, .slice (some ⟨B3,0,none⟩) 2 2] 86 (0,0)):=by
   rw [←hV2,heap_setCell_same _ _ _ _ _ _ HM.out.lin]
   rfl
  have HB2:Hid (Below w.heap.size w V2):=xhd (by rw [←hV2];exact HM.out.bel.setCell (by show w.heap.size≤B2;have:=HM.out.hl;omega) _)
  rw [hV2]
  have HR2:=xhd ((hb2 _ n2).trans HM.out.res)
  have HS2:=xhd ((hb2 _ (by have:=HM.out.hl;omega)).trans HM.out.spn)
  have HN2:=xhd ((hb2 _ n1).trans HM.out.num)
  have HL2:=xhd hl2
  have HLN:=xhd HM.out.hn
  have HLL:=xhd HM.out.hl
  have HV0:=xhd (fun (W:World) (hs:∀k,k < V2.heap.size→W.heap[k]?=V2.heap[k]?)=>(by
   have a:=two_cells ((hs _ (lt_of_block HL2.out)).trans HL2.out)
   have b:=two_cells ((hs _ (lt_of_block HS2.out)).trans HS2.out)
   exact⟨a.2,b.1,b.2⟩:W.cell? ⟨B2,1,none⟩=some (.slice (some ⟨B3,0,none⟩) 2 2)∧W.cell? ⟨w.heap.size+1,0,none⟩=some (.int .i64 1)∧W.cell? ⟨w.heap.size+1,1,none⟩=some (.int .i64 16)))
  have hS1:=HV0.out V2.drew (fun k _=>rfl)
  clear hV2 hb2 hl2 dT l0 l1 fl0 fl1 z0 z1 fz0 fz1 HM
  have hmix:Tryz.prog.follows .mixedOrders=true:=by kernel_rfl
  refine wp_region_noPanic ?_
  refine wp_region_last (fun V=>V.cell? ⟨B2,1,none⟩=some (.slice (some ⟨B3,0,none⟩) 2 2)∧V.cell? ⟨w.heap.size+1,0,none⟩=some (.int .i64 1)∧V.cell? ⟨w.heap.size+1,1,none⟩=some (.int .i64 16)) 15 hmix hS1 (fun hS0=>?_)
  refine wpAnyE_take (i:=0) (v:=?_) rfl (by kernel_rfl) (by kernel_rfl) (fun _ _ _ h=>h) (by kernel_rfl) (by kernel_rfl) (Or.inl ⟨by rfl,?hy⟩) (by assumption) ?_
  case hy=>
   intro w hSw
   (try dsimp only at hSw)
   go_simp
   try with_reducible rfl
  try simp only [xga];try simp only [xgs];try simp only [xgz];try simp only [Act.put];try simp only [xsa];try simp only [xss];try simp only [xsz]
  refine wpAnyE_take (i:=1) (v:=?_) rfl (by kernel_rfl) (by kernel_rfl) (fun _ _ _ h=>h) (by kernel_rfl) (by kernel_rfl) (Or.inl ⟨by rfl,?hy⟩) (by assumption) ?_
  case hy=>
   intro w hSw
   (try dsimp only at hSw)
   go_simp
   try with_reducible rfl
  try simp only [xga];try simp only [xgs];try simp only [xgz];try simp only [Act.put];try simp only [xsa];try simp only [xss];try simp only [xsz]
  refine wpAnyE_take (i:=2) (v:=?_) rfl (by kernel_rfl) (by kernel_rfl) (fun _ _ _ h=>h) (by kernel_rfl) (by kernel_rfl) (Or.inl ⟨by rfl,?hy⟩) (by assumption) ?_
  case hy=>
   intro w hSw
   (try dsimp only at hSw)
   go_simp
   try with_reducible rfl
  try simp only [xga];try simp only [xgs];try simp only [xgz];try simp only [Act.put];try simp only [xsa];try simp only [xss];try simp only [xsz]
  refine wpAnyE_take (i:=3) (v:=?_) rfl (by kernel_rfl) (by kernel_rfl) (fun _ _ _ h=>h) (by kernel_rfl) (by kernel_rfl) (Or.inl ⟨by rfl,?hy⟩) (by assumption) ?_
  case hy=>
   intro w hSw
   (try dsimp only at hSw)
   go_simp
   try with_reducible rfl
  try simp only [xga];try simp only [xgs];try simp only [xgz];try simp only [Act.put];try simp only [xsa];try simp only [xss];try simp only [xsz]
  refine wpAnyE_take (i:=4) (v:=?_) rfl (by kernel_rfl) (by kernel_rfl) (fun _ _ _ h=>h) (by kernel_rfl) (by kernel_rfl) (Or.inl ⟨by rfl,?hy⟩) (by assumption) ?_
  case hy=>
   intro w hSw
   (try dsimp only at hSw)
   go_simp
   try with_reducible rfl
  try simp only [xga];try simp only [xgs];try simp only [xgz];try simp only [Act.put];try simp only [xsa];try simp only [xss];try simp only [xsz]
  refine wpAnyE_take (i:=5) (v:=?_) rfl (by kernel_rfl) (by kernel_rfl) (fun _ _ _ h=>h) (by kernel_rfl) (by kernel_rfl) (Or.inl ⟨by rfl,?hy⟩) (by assumption) ?_
  case hy=>
   intro w hSw
   (try dsimp only at hSw)
   go_simp
   try with_reducible rfl
  try simp only [xga];try simp only [xgs];try simp only [xgz];try simp only [Act.put];try simp only [xsa];try simp only [xss];try simp only [xsz]
  refine wpAnyE_take (i:=6) (v:=?_) rfl (by kernel_rfl) (by kernel_rfl) (fun _ _ _ h=>h) (by kernel_rfl) (by kernel_rfl) (Or.inl ⟨by rfl,?hy⟩) (by assumption) ?_
  case hy=>
   intro w hSw
   (try dsimp only at hSw)
   go_simp
   try with_reducible rfl
  try simp only [xga];try simp only [xgs];try simp only [xgz];try simp only [Act.put];try simp only [xsa];try simp only [xss];try simp only [xsz]
  refine wpAnyE_take (i:=7) (v:=?_) rfl (by kernel_rfl) (by kernel_rfl) (fun _ _ _ h=>h) (by kernel_rfl) (by kernel_rfl) (Or.inl ⟨by rfl,?hy⟩) (by assumption) ?_
  case hy=>
   intro w hSw
   (try dsimp only at hSw)
   go_simp
   try with_reducible rfl
  try simp only [xga];try simp only [xgs];try simp only [xgz];try simp only [Act.put];try simp only [xsa];try simp only [xss];try simp only [xsz]
  refine wpAnyE_take (i:=8) (v:=?_) rfl (by kernel_rfl) (by kernel_rfl) (fun _ _ _ h=>h) (by kernel_rfl) (by kernel_rfl) (Or.inl ⟨by rfl,?hy⟩) (by assumption) ?_
  case hy=>
   intro w hSw
   (try dsimp only at hSw)
   go_simp
   try with_reducible rfl
  try simp only [xga];try simp only [xgs];try simp only [xgz];try simp only [Act.put];try simp only [xsa];try simp only [xss];try simp only [xsz]
  refine wpAnyE_take (i:=9) (v:=?_) rfl (by kernel_rfl) (by kernel_rfl) (fun _ _ _ h=>h) (by kernel_rfl) (by kernel_rfl) (Or.inl ⟨by rfl,?hy⟩) (by assumption) ?_
  case hy=>
   intro w hSw
   (try dsimp only at hSw)
   go_simp
   try with_reducible rfl
  try simp only [xga];try simp only [xgs];try simp only [xgz];try simp only [Act.put];try simp only [xsa];try simp only [xss];try simp only [xsz]
  refine wpAnyE_take (i:=10) (v:=?_) rfl (by kernel_rfl) (by kernel_rfl) (fun _ _ _ h=>h) (by kernel_rfl) (by kernel_rfl) (Or.inl ⟨by rfl,?hy⟩) (by assumption) ?_
  case hy=>
   intro w hSw
   (try dsimp only at hSw)
   go_simp
   try with_reducible rfl
  try simp only [xga];try simp only [xgs];try simp only [xgz];try simp only [Act.put];try simp only [xsa];try simp only [xss];try simp only [xsz]
  refine wpAnyE_take (i:=11) (v:=?_) rfl (by kernel_rfl) (by kernel_rfl) (fun _ _ _ h=>h) (by kernel_rfl) (by kernel_rfl) (Or.inl ⟨by rfl,?hy⟩) (by assumption) ?_
  case hy=>
   intro w hSw
   (try dsimp only at hSw)
   go_simp
   try with_reducible rfl
  try simp only [xga];try simp only [xgs];try simp only [xgz];try simp only [Act.put];try simp only [xsa];try simp only [xss];try simp only [xsz]
  refine wpAnyE_ready (rs:=[12]) (by kernel_rfl) (by simp) ?_
  refine ReadyE.cons rfl (fun K' hK=>?_) ReadyE.nil
  go_simp
  have hA:=HV0.out (V2.drew.alloc (.cells #[.string ⟨#[114,101,97,100]⟩, .int .i64 1, .int .i64 16, .pointer (some ⟨T,3,none⟩), .string ⟨#[119,114,105,116,101]⟩, .int .i64 1, .int .i64 16, .pointer (some ⟨T,4,none⟩)] 151)) (fun k hk=>Below.heap_alloc _ _ _ (by simpa using hk))
  refine hK.out _ _ (.inr ?_) ?_
  ·exact hA
  clear hK K'
  try simp only [xga];try simp only [xgs];try simp only [xgz];try simp only [Act.put];try simp only [xsa];try simp only [xss];try simp only [xsz]
  refine wpAnyE_ready (rs:=[13]) (by kernel_rfl) (by simp) ?_
  refine ReadyE.cons rfl (fun K' hK=>?_) ReadyE.nil
  refine step_append_any _ rfl (.tmp 24) (.tmp 35) 84 rfl 151 i0 (.agg #[.string ⟨#[]⟩, .int .i64 0, .int .i64 0, .pointer none]) 4 40 Tryz.underlying84 hi0 hz0 hz1 hz2 rfl (by decide) (.slice (some ⟨B3,0,none⟩) 2 2) 2 [.string ⟨#[115,108,105,99,101]⟩, .int .i64 1, .int .i64 16, .pointer (some ⟨T,1,none⟩), .string ⟨#[99,114,105,116]⟩, .int .i64 1, .int .i64 32, .pointer (some ⟨T,2,none⟩)] rfl (two_row (T:=T) ((Below.heap_alloc _ _ _ (by have:=lt_of_block HN2.out;simpa using this)).trans HN2.out)) (some ⟨V2.heap.size,0,none⟩) 2 2 [.string ⟨#[114,101,97,100]⟩, .int .i64 1, .int .i64 16, .pointer (some ⟨T,3,none⟩), .string ⟨#[119,114,105,116,101]⟩, .int .i64 1, .int .i64 16, .pointer (some ⟨T,4,none⟩)] rfl rfl (by intro h;cases h) (by intro ad had;cases had;exact more_at rfl) (more_ones T) (by decide) (by decide) ?_
  intro a' cap' w4 hown hg hnew
  have hk4:∀k,k < V2.heap.size→k≠B3→w4.heap[k]?=V2.heap[k]?:=fun k hk hne=>(hg.block k (by simp;omega) (by simp [Value.ownBlock];omega)).trans (Below.heap_alloc _ _ _ (by simpa using hk))
  have hl4:=(hk4 _ (lt_of_block HL2.out) (by omega)).trans HL2.out
  have hs4:=(hk4 _ (lt_of_block HS2.out) (by have:=HLN.out;omega)).trans HS2.out
  have hr4:=(hk4 _ (lt_of_block HR2.out) n3).trans HR2.out
  have c4:=two_cells hl4
  have d4:=two_cells hs4
  have hS4:=And.intro c4.2 (And.intro d4.1 d4.2)
  refine hK.out _ _ (.inr ?_) ?_
  ·exact hS4
  clear hK K'
  try simp only [xga];try simp only [xgs];try simp only [xgz];try simp only [Act.put];try simp only [xsa];try simp only [xss];try simp only [xsz]
  have hb4:Below w.heap.size w w4:=HB2.out.trans (by
   have h5:Below V2.heap.size V2 (V2.drew.alloc (.cells #[.string ⟨#[114,101,97,100]⟩, .int .i64 1, .int .i64 16, .pointer (some ⟨T,3,none⟩), .string ⟨#[119,114,105,116,101]⟩, .int .i64 1, .int .i64 16, .pointer (some ⟨T,4,none⟩)] 151)):=(Below.refl _ _).drew.alloc (by simp) _
   exact (h5.mono HB2.out.size).grown hg (by have:=HB2.out.size;simp;omega) (fun k hk=>by have:=HLN.out;simp [Value.ownBlock] at hk;omega))
  obtain⟨nb,nc,hv,hna⟩:=NArg.four (T:=T) hown
  injection hv with e1 e2 e3
  subst e1
  subst e3
  have hnb:nb≠B2∧w.heap.size < nb:=by
   rcases hnew nb (by simp [Value.ownBlock]) with h|h
   ·simp [Value.ownBlock] at h
    have:=HLN.out
    omega
   ·have h1:=lt_of_block HL2.out
    have h2:=HB2.out.size
    simp at h
    omega
  refine wpAnyE_take (i:=14) (v:=?_) rfl (by kernel_rfl) (by kernel_rfl) (fun _ _ _ h=>h) (by kernel_rfl) (by kernel_rfl) (Or.inl ⟨by rfl,?hy⟩) (by assumption) ?_
  case hy=>
   intro w hSw
   (try dsimp only at hSw)
   go_simp
   try with_reducible rfl
  try simp only [xga];try simp only [xgs];try simp only [xgz];try simp only [Act.put];try simp only [xsa];try simp only [xss];try simp only [xsz]
  have f4:=not_frozen hl4 1
  have f40:=not_frozen hl4 0
  obtain⟨c40,c41⟩:=c4
  refine wpAnyE_ready (rs:=[15]) (by kernel_rfl) (by simp) ?_
  refine ReadyE.cons rfl (fun K' hK=>?_) ReadyE.nil
  go_simp
  refine hK.out _ _ (.inl rfl) ?_
  clear hK K'
  refine wpAnyE_done (by kernel_rfl) ?_ _
  refine NoPanic.normal ?_
  try simp only [xga];try simp only [xgs];try simp only [xgz];try simp only [Act.put];try simp only [xsa];try simp only [xss];try simp only [xsz]
  obtain⟨W5,hW5⟩:∃W5,w4.setCell ⟨B2,1,none⟩ (.slice (some ⟨nb,0,none⟩) (2+2) cap')=W5:=⟨_,rfl⟩
  have hl5:W5.heap[B2]?=some (.cells #[.string ⟨#[115,104,97,114,101,100]⟩, .slice (some ⟨nb,0,none⟩) 4 cap'] 86 (0,0)):=by
   rw [←hW5,heap_setCell_same _ _ _ _ _ _ hl4]
   rfl
  have hr5:W5.heap[w.heap.size]?=some (.cells #[.string ⟨#[]⟩, .slice none 0 0] 86 (0,0)):=by
   rw [←hW5]
   exact (Below.heap_setCell _ _ _ _ n2).trans hr4
  have HN5:=xhd (hna.same (w':=W5) (by rw [←hW5];exact Below.heap_setCell _ _ _ _ hnb.1))
  have HB5:Hid (Below w.heap.size w W5):=xhd (by rw [←hW5];exact hb4.setCell (by show w.heap.size≤B2;have:=HLL.out;omega) _)
  have HNB:=xhd hnb
  have HR5:=xhd hr5
  rw [hW5]
  obtain⟨l0,l1⟩:=two_cells hl5
  obtain⟨z0,z1⟩:=two_cells hr5
  have fz0:=not_frozen hr5 0
  have fz1:=not_frozen hr5 1
  clear hW5 hl5 hr5 hna hb4 hnb f4 f40 c40 c41 hS4 hl4 hs4 hr4 hk4 hown hg hnew d4 hA hS0 hS1 HV0
  go_wp2
  refine bodyPost_ret (line_res rfl rfl (two_stored HR5.out)) rfl ?_
  have hr:∀a b,((W5.setCell ⟨w.heap.size,0,none⟩ a).setCell ⟨w.heap.size,1,none⟩ b).heap[nb]?=W5.heap[nb]?:=fun a b=>(Below.heap_setCell _ _ _ _ (by show nb≠w.heap.size;have:=HNB.out.2;omega)).trans (Below.heap_setCell _ _ _ _ (by show nb≠w.heap.size;have:=HNB.out.2;omega))
  exact⟨nb,cap',rfl,HN5.out.same (hr _ _),by have:=HNB.out.2;omega,(HB5.out.setCell (Nat.le_refl _) _).setCell (Nat.le_refl _) _⟩
theorem lockline_any (T:Nat) (w:World) (sh:Bool) (hT:T < w.heap.size) (d:w.cell? ⟨T,0,none⟩=some (.bool sh)):
  Calls Tryz.prog 89 #[.pointer (some ⟨T,0,none⟩)] w (LineP (lkF sh) (lkN sh) T w):=by
 cases sh with
 |true=>exact lockline_shared T w hT d
 |false=>exact lockline_plain T w hT d
abbrev rsC (ao:Option Addr) (n cap:Nat) (c:Nat) (e:Int):Array Value:= #[.slice ao n cap, .int .i64 c, .int .i64 e]
structure RsI (w:World) (b:Nat) (ao:Option Addr) (bw off cap:Nat) (L:List Wd) (s:Rd):Prop where
 rd:w.heap[b]?=some (.cells (rsC ao L.length cap s.1 s.2) 130 (0,0))
 ws:WArg w ao bw off L
 ne:0 < L.length→bw≠b
 le:s.1≤L.length
 len:L.length≤100000
theorem WArg.kept {w w':World} {ao:Option Addr} {b off:Nat} {L:List Wd} (h:WArg w ao b off L) (hs:0 < L.length→w'.heap[b]?=w.heap[b]?):WArg w' ao b off L:=by
 have hlt:0 < L.length→b < w'.heap.size:=fun h0=>by
  have h1:=hs h0
  rw [Array.getElem?_eq_getElem (h.at_ h0).2] at h1
  exact lt_of_block h1
 refine⟨fun h0=>⟨(h.at_ h0).1,hlt h0⟩,fun i hi=>?_⟩
 obtain⟨h0,h1,h2,h3⟩:=h.cells i hi
 have e:w'.heap[b]?=w.heap[b]?:=hs (by omega)
 have ec:∀o,w'.cell? ⟨b,o,none⟩=w.cell? ⟨b,o,none⟩:=fun o=>by simp only [World.cell?,e]
 exact⟨(ec _).trans h0,(ec _).trans h1,(ec _).trans h2,(ec _).trans h3⟩
theorem RsI.turned {w w':World} {b:Nat} {ao:Option Addr} {bw off cap:Nat} {L:List Wd} {s s':Rd} (h:RsI w b ao bw off cap L s) (t:Turned [b] w w')
  (hr:w'.heap[b]?=some (.cells (rsC ao L.length cap s'.1 s'.2) 130 (0,0))) (hc:s'.1≤L.length):RsI w' b ao bw off cap L s':=
 ⟨hr,h.ws.kept (fun h0=>t.block bw (h.ws.at_ h0).2 (by simpa using h.ne h0)),h.ne,hc,h.len⟩
theorem RsI.below {w w':World} {b:Nat} {ao:Option Addr} {bw off cap:Nat} {L:List Wd} {s:Rd} (h:RsI w b ao bw off cap L s) (t:Below w.heap.size w w'):RsI w' b ao bw off cap L s:=
 ⟨(t.block _ (lt_of_block h.rd)).trans h.rd,h.ws.below t,h.ne,h.le,h.len⟩
theorem RsI.drewN {w:World} {b:Nat} {ao:Option Addr} {bw off cap:Nat} {L:List Wd} {s:Rd} (h:RsI w b ao bw off cap L s) (n:Nat):RsI (w.drewN n) b ao bw off cap L s:=
 h.below (below_drewN (Below.refl _ w) n)
theorem RsI.setAt {w:World} {b:Nat} {ao:Option Addr} {bw off cap:Nat} {L:List Wd} {s:Rd} (h:RsI w b ao bw off cap L s) {c':Nat} (hc:c'≤L.length):
  RsI (w.setCell ⟨b,1,none⟩ (.int .i64 (c':Nat))) b ao bw off cap L (c',s.2)∧Turned [b] w (w.setCell ⟨b,1,none⟩ (.int .i64 (c':Nat))):=by
 have ht:Turned [b] w (w.setCell ⟨b,1,none⟩ (.int .i64 (c':Nat))):=(Turned.refl [b] w).setCell (.inl (by simp)) _
 refine⟨h.turned ht ?_ hc,ht⟩
 rw [heap_setCell_same _ _ _ _ _ _ h.rd]
 rfl
theorem RsI.setBad {w:World} {b:Nat} {ao:Option Addr} {bw off cap:Nat} {L:List Wd} {s:Rd} (h:RsI w b ao bw off cap L s) (e':Int):
  RsI (w.setCell ⟨b,2,none⟩ (.int .i64 e')) b ao bw off cap L (s.1,e')∧Turned [b] w (w.setCell ⟨b,2,none⟩ (.int .i64 e')):=by
 have ht:Turned [b] w (w.setCell ⟨b,2,none⟩ (.int .i64 e')):=(Turned.refl [b] w).setCell (.inl (by simp)) _
 refine⟨h.turned ht ?_ h.le,ht⟩
 rw [heap_setCell_same _ _ _ _ _ _ h.rd]
 rfl
theorem rsis_any {w:World} {b:Nat} {ao:Option Addr} {bw off cap:Nat} {L:List Wd} {s:Rd} (h:RsI w b ao bw off cap L s) (k:Int) (t:ByteArray):
  Calls Tryz.prog 77 #[.pointer (some ⟨b,0,none⟩), .int .i64 k, .string t] w fun r w'=>r= .returned (.bool (isS L s k t.data.toList))∧∃n,w'=w.drewN n:=by
 obtain⟨c,e⟩:=s
 obtain⟨d0,d1,d2⟩:=op_cells h.rd
 have hbl:=lt_of_block h.rd
 have hle:=h.le
 have hm:=h.len
 have HW:=xhd h.ws
 obtain⟨n,hn⟩:∃n,L.length=n:=⟨_,rfl⟩
 have HN:=xhd hn
 simp only at d0 d1 d2 hle
 rw [hn] at d0 hle hm
 by_cases he:e=0
 ·subst he
  by_cases hlt:c < n
  ·have hcL:c < L.length:=by rw [HN.out];exact hlt
   obtain⟨rfl,hbw⟩:=HW.out.at_ (by omega)
   obtain⟨x0,x1,x2,x3⟩:=HW.out.cells c hcL
   obtain⟨⟨k1,t1,m,p⟩,hx⟩:∃x,L[c]=x:=⟨_,rfl⟩
   have e1:isS L (c,0) k t.data.toList=(decide (k1=k)&&decide (t1=t.data.toList)):=by
    unfold isS isR
    rw [List.getElem?_eq_getElem hcL,hx]
    simp
   rw [e1]
   rw [hx] at x0 x1
   simp only at x0 x1
   have c0:(0:Int)≤c:=by omega
   have c1:(c:Int) < n:=by omega
   clear h hx e1 x2 x3 hn
   by_cases hk:k1=k
   ·subst hk
    have kk:(k1 == k1)=true:=by simp
    by_cases ht:t1=t.data.toList
    ·have ht2:(⟨t1.toArray⟩:ByteArray)=t:=by rw [ht]
     rw [ht2] at x1
     have tt:(t.toList == t.toList)=true:=by simp
     go_enter Tryz.func77,Tryz.ntmps77
     go_wp2_with fail
     go_quiet (fail)
     go_wp2
     go_ret
     exact⟨by simp [ht],_,rfl⟩
    ·have tt:((⟨t1.toArray⟩:ByteArray).toList == t.toList)=false:=by
       rw [Lib.toList_data,Lib.toList_data]
       simpa using ht
     obtain⟨tx,htx⟩:∃tx:ByteArray,⟨t1.toArray⟩=tx:=⟨_,rfl⟩
     rw [htx] at x1 tt
     clear htx
     go_enter Tryz.func77,Tryz.ntmps77
     go_wp2_with fail
     go_quiet (fail)
     go_wp2
     go_ret
     exact⟨by simp [ht],_,rfl⟩
   ·have kk:(k1 == k)=false:=by simpa using hk
    go_enter Tryz.func77,Tryz.ntmps77
    go_wp2_with fail
    go_quiet (fail)
    go_wp2
    go_ret
    exact⟨by simp [hk],_,rfl⟩
  ·have e1:isS L (c,0) k t.data.toList=false:=by
     unfold isS isR
     rw [List.getElem?_eq_none (by rw [HN.out];omega)]
     simp
   rw [e1]
   have c1:¬(c:Int) < n:=by omega
   clear h e1 hn
   go_enter Tryz.func77,Tryz.ntmps77
   go_wp2_with fail
   go_quiet (fail)
   go_wp2
   go_ret
   exact⟨rfl,_,rfl⟩
 ·have e1:isS L (c,e) k t.data.toList=false:=by
    unfold isS
    simp [he]
  rw [e1]
  have ee:(e == 0)=false:=by simpa using he
  clear h e1 hn
  go_enter Tryz.func77,Tryz.ntmps77
  go_wp2_with fail
  go_quiet (fail)
  go_wp2
  go_ret
  exact⟨rfl,_,rfl⟩
end Go.Proofs.YtbnhnnccioljhaaGreatDoor
