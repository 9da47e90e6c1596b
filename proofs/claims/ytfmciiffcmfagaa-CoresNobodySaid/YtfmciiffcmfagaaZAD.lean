/-
  cmp.Compare, cmp.Or, the order of keys.
  Nodes in memory; red, black, isRed, isBlack, asRoot, reddened.
  balance, where both sides are red.
  A region that draws its order and holds calls of yield: a load may be taken first where what it reads abides. No program.
  range_turnsY, whose first variable is boxed: the assign code lays one block a round. No program.
  What Add, Sub, Mul, Compare and Near of package fixq answer, at every argument.
  The program's within, Core, Lock, Reach, Slack, Clamp.
  A loop over a function within an iterator: its own records are told by number, and the iterator tells the state in which it yields. No program.
  A loop over a function (TurnSeqY) within an iterator: its own records are told by number. No program.
  The document's cores: Of, All, Remove.
  The document's cores: Remove, Add.
  The document's move.
  The document's Move.
  The document's Balance.
-/
import Derived.Test.YtfmciiffcmfagaaChecked
import Derived.Test.YtfmciiffcmfagaaZAC
import Derived.Test.YtfmciiffcmfagaaZAA
import Derived.Lib.Hide
import Derived.Deep.QuietTactic
import Derived.BigQuiet
import Derived.StillTailTactics
import Derived.Deep.RegionHeld3
import Derived.OrdersHeld
import Derived.OrdersIn
import Derived.RangeFuncSeq
import Derived.Deep.RegionWith
import Derived.Test.YtfmciiffcmfagaaZAB
import Derived.Deep.CutRange
import Derived.Test.YtfmciiffcmfagaaZAl
set_option maxRecDepth 100000
set_option maxHeartbeats 25600000
namespace Go.Proofs.Ytfmciiffcmfagaa
open Go.RowKit
theorem wp_still_tail_at {P:Program} {id:Nat} {Q:Exit→Act→World→Prop} {a:Act} {w D:World} {l:List Oper} (n:Nat) (hD:w.drew=D) (hm:P.follows .mixedOrders=true) (hB:Region.lexTailB .any l.toArray n=true)
  (h:wpStill P l.toArray D (fun a'=>wpList P l.toArray Q (l.drop n) a' D) (l.take n) a):(Code.region id l.toArray true).wp P Q a w:=by
 subst hD
 exact wp_region_still_tail n hm hB h
theorem isNaNU (x:Int) (w:World):Calls Try.prog 80 #[.int .u64 x] w fun e w'=>e= .returned (.bool false)∧w=w':=by
 have h:(x != x)=false:=by simp
 go_enter Try.func80,Try.ntmps80
 go_wp2
 go_ret
 exact⟨rfl,rfl⟩
theorem isNaNI (x:Int) (w:World):Calls Try.prog 81 #[.int .i64 x] w fun e w'=>e= .returned (.bool false)∧w=w':=by
 have h:(x != x)=false:=by simp
 go_enter Try.func81,Try.ntmps81
 go_wp2
 go_ret
 exact⟨rfl,rfl⟩
def cmpI (x y:Int):Int:=if x < y then -1 else if y < x then 1 else 0
theorem compareU (x y:Int) (w:World):Calls Try.prog 71 #[.int .u64 x, .int .u64 y] w fun e w'=>e= .returned (.int .i64 (cmpI x y))∧w=w':=by
 have HX:=xhd (fun W=>isNaNU x W)
 have HY:=xhd (fun W=>isNaNU y W)
 by_cases h:x < y
 ·rw [show cmpI x y= -1 by simp [cmpI,h]]
  go_enter Try.func71,Try.ntmps71
  go_wp2_with fail
  refine (HX.out _).mono ?_
  rintro e w1 ⟨rfl,rfl⟩
  go_wp2_with fail
  refine (HY.out _).mono ?_
  rintro e w1 ⟨rfl,rfl⟩
  go_wp2
  go_ret
  exact⟨rfl,rfl⟩
 ·by_cases g:y < x
  ·rw [show cmpI x y=1 by simp [cmpI,h,g]]
   go_enter Try.func71,Try.ntmps71
   go_wp2_with fail
   refine (HX.out _).mono ?_
   rintro e w1 ⟨rfl,rfl⟩
   go_wp2_with fail
   refine (HY.out _).mono ?_
   rintro e w1 ⟨rfl,rfl⟩
   go_wp2
   go_ret
   exact⟨rfl,rfl⟩
  ·rw [show cmpI x y=0 by simp [cmpI,h,g]]
   go_enter Try.func71,Try.ntmps71
   go_wp2_with fail
   refine (HX.out _).mono ?_
   rintro e w1 ⟨rfl,rfl⟩
   go_wp2_with fail
   refine (HY.out _).mono ?_
   rintro e w1 ⟨rfl,rfl⟩
   go_wp2
   go_ret
   exact⟨rfl,rfl⟩
theorem compareI (x y:Int) (w:World):Calls Try.prog 72 #[.int .i64 x, .int .i64 y] w fun e w'=>e= .returned (.int .i64 (cmpI x y))∧w=w':=by
 have HX:=xhd (fun W=>isNaNI x W)
 have HY:=xhd (fun W=>isNaNI y W)
 by_cases h:x < y
 ·rw [show cmpI x y= -1 by simp [cmpI,h]]
  go_enter Try.func72,Try.ntmps72
  go_wp2_with fail
  refine (HX.out _).mono ?_
  rintro e w1 ⟨rfl,rfl⟩
  go_wp2_with fail
  refine (HY.out _).mono ?_
  rintro e w1 ⟨rfl,rfl⟩
  go_wp2
  go_ret
  exact⟨rfl,rfl⟩
 ·by_cases g:y < x
  ·rw [show cmpI x y=1 by simp [cmpI,h,g]]
   go_enter Try.func72,Try.ntmps72
   go_wp2_with fail
   refine (HX.out _).mono ?_
   rintro e w1 ⟨rfl,rfl⟩
   go_wp2_with fail
   refine (HY.out _).mono ?_
   rintro e w1 ⟨rfl,rfl⟩
   go_wp2
   go_ret
   exact⟨rfl,rfl⟩
  ·rw [show cmpI x y=0 by simp [cmpI,h,g]]
   go_enter Try.func72,Try.ntmps72
   go_wp2_with fail
   refine (HX.out _).mono ?_
   rintro e w1 ⟨rfl,rfl⟩
   go_wp2_with fail
   refine (HY.out _).mono ?_
   rintro e w1 ⟨rfl,rfl⟩
   go_wp2
   go_ret
   exact⟨rfl,rfl⟩
def orI (x y:Int):Int:=if x=0 then y else x
theorem ord_or (a b:Int×Int):orI (cmpI a.1 b.1) (cmpI a.2 b.2)=ordI a b:=by
 unfold orI cmpI ordI
 repeat' split
 all_goals omega
theorem or_any (x y:Int) (g:Nat) (w:World) (h0:w.cell? ⟨g,0,none⟩=some (.int .i64 x)) (h1:w.cell? ⟨g,1,none⟩=some (.int .i64 y)):
  Calls Try.prog 70 #[.slice (some ⟨g,0,none⟩) 2 2] w fun e w'=>e= .returned (.int .i64 (orI x y))∧w=w':=by
 by_cases hx:x=0
 ·subst hx
  by_cases hy:y=0
  ·subst hy
   go_enter Try.func70,Try.ntmps70
   go_wp2
   refine wp_loop_rounds 3 ?_
   rw [rounds_succ]
   go_wp2
   rw [rounds_succ]
   go_wp2
   rw [rounds_succ]
   go_wp2
   go_ret
   exact⟨rfl,rfl⟩
  ·have e1:(y != 0)=true:=by simpa using hy
   rw [show orI 0 y=y by simp [orI]]
   go_enter Try.func70,Try.ntmps70
   go_wp2
   refine wp_loop_rounds 2 ?_
   rw [rounds_succ]
   go_wp2
   rw [rounds_succ]
   go_wp2
   go_ret
   exact⟨rfl,rfl⟩
 ·have e1:(x != 0)=true:=by simpa using hx
  rw [show orI x y=x by simp [orI,hx]]
  go_enter Try.func70,Try.ntmps70
  go_wp2
  refine wp_loop_rounds 1 ?_
  rw [rounds_succ]
  go_wp2
  go_ret
  exact⟨rfl,rfl⟩
theorem kord_any (a b:Int×Int) (w:World):Calls Try.prog 63 #[.agg #[.int .u64 a.1, .int .i64 a.2], .agg #[.int .u64 b.1, .int .i64 b.2]] w fun e w'=>e= .returned (.int .i64 (ordI a b))∧Turned [] w w':=by
 have HU:=xhd (fun W=>compareU a.1 b.1 W)
 have HI:=xhd (fun W=>compareI a.2 b.2 W)
 rw [←ord_or]
 obtain⟨p,hp⟩:∃p,cmpI a.1 b.1=p:=⟨_,rfl⟩
 obtain⟨q,hq⟩:∃q,cmpI a.2 b.2=q:=⟨_,rfl⟩
 rw [hp] at HU ⊢
 rw [hq] at HI ⊢
 obtain⟨a1,a2⟩:=a
 obtain⟨b1,b2⟩:=b
 clear hp hq
 simp only at HU HI ⊢
 go_enter Try.func63,Try.ntmps63
 go_wp2
 obtain⟨D,hD⟩:∃D,((w.alloc (.cells #[.int .u64 a1, .int .i64 a2] 60)).alloc (.cells #[.int .u64 b1, .int .i64 b2] 60)).drew=D:=⟨_,rfl⟩
 have T0:Turned [] w D:=hD ▸ (((Turned.refl [] w).alloc _).alloc _).drew
 have K0:D.heap[w.heap.size]?=some (.cells #[.int .u64 a1, .int .i64 a2] 60 (0,0)):=by rw [←hD];exact (Below.heap_alloc _ _ _ (by simp)).trans (heap_alloc_new w _)
 have K1:D.heap[w.heap.size+1]?=some (.cells #[.int .u64 b1, .int .i64 b2] 60 (0,0)):=by
  have e:=heap_alloc_new (w.alloc (.cells #[.int .u64 a1, .int .i64 a2] 60)) (.cells #[.int .u64 b1, .int .i64 b2] 60)
  rw [show (w.alloc (.cells #[.int .u64 a1, .int .i64 a2] 60)).heap.size=w.heap.size+1 by simp] at e
  rw [←hD]
  exact e
 have x0:D.cell? ⟨w.heap.size,0,none⟩=some (.int .u64 a1):=by simp [World.cell?,K0]
 have x1:D.cell? ⟨w.heap.size,1,none⟩=some (.int .i64 a2):=by simp [World.cell?,K0]
 have y0:D.cell? ⟨w.heap.size+1,0,none⟩=some (.int .u64 b1):=by simp [World.cell?,K1]
 have y1:D.cell? ⟨w.heap.size+1,1,none⟩=some (.int .i64 b2):=by simp [World.cell?,K1]
 have T1:=xhd T0
 clear T0 K0 K1
 refine wp_still_tail_at 10 hD (by kernel_rfl) (by kernel_rfl) ?_
 clear hD
 simp only [List.take_succ_cons,List.take_zero,List.drop_succ_cons,List.drop_zero]
 repeat still_step
 still_call ((HU.out _).mono (fun e w' ⟨he,hw⟩=>⟨he,hw.symm⟩))
 repeat still_step
 still_call ((HI.out _).mono (fun e w' ⟨he,hw⟩=>⟨he,hw.symm⟩))
 refine wpStill_nil ?_
 go_wp2_with fail
 refine (or_any p q _ _ (by simp) (by simp)).mono ?_
 rintro e w1 ⟨rfl,rfl⟩
 go_wp2
 go_ret
 exact⟨rfl,T1.out.alloc _⟩
abbrev tNd:TypeId:=99
abbrev tIt:TypeId:=89
abbrev ndCells (x:Itm Nat) (c:Bool) (pl pr:Value):Array Value:= #[.int .u64 x.1, .int .i64 x.2.1, .pointer (some ⟨x.2.2,0,none⟩), .bool c,pl,pr]
abbrev itV (x:Itm Nat):Value:= .agg #[.int .u64 x.1, .int .i64 x.2.1, .pointer (some ⟨x.2.2,0,none⟩)]
def TrAt (w:World):Tr Nat→Value→Prop
 | .nil,p=>p= .pointer none
 | .node c l x r,p=>∃b pl pr,p= .pointer (some ⟨b,0,none⟩)∧w.heap[b]?=some (.cells (ndCells x c pl pr) tNd (0,0))∧TrAt w l pl∧TrAt w r pr
def KeepsN (w w':World):Prop:=∀(k:Nat) (cs:Array Value),w.heap[k]?=some (Obj.cells cs tNd (0,0))→w'.heap[k]?=some (Obj.cells cs tNd (0,0))
theorem TrAt.keep {w w':World} (hk:KeepsN w w'):∀ {t:Tr Nat} {p:Value},TrAt w t p→TrAt w' t p
 | .nil,_,h=>h
 | .node _ _ _ _,_,⟨b,pl,pr,h1,h2,h3,h4⟩=>⟨b,pl,pr,h1,hk _ _ h2,h3.keep hk,h4.keep hk⟩
theorem KeepsN.of_turned {X:List Nat} {w w':World} (h:Turned X w w') (hx:∀k ∈ X,∀cs:Array Value,w.heap[k]?≠some (Obj.cells cs tNd (0,0))):KeepsN w w':=fun k cs hk=>h.same hk fun hm=>hx k hm cs hk
theorem Turned.keepsN {w w':World} (h:Turned [] w w'):KeepsN w w':=KeepsN.of_turned h (by simp)
theorem TrAt.later {w w':World} {t:Tr Nat} {p:Value} (h:TrAt w t p) (ht:Turned [] w w'):TrAt w' t p:=h.keep ht.keepsN
theorem Turned.join {a b c:World} (h:Turned [] a b) (g:Turned [] b c):Turned [] a c:=h.trans g (Newer.refl _ _)
theorem TrAt.shape {w:World} :∀ {t:Tr Nat} {p:Value},TrAt w t p→∃a,p= .pointer a
 | .nil,_,h=>⟨none,h⟩
 | .node _ _ _ _,_,⟨b,_,_,h,_⟩=>⟨some ⟨b,0,none⟩,h⟩
theorem nd_cells {w:World} {b:Nat} {x:Itm Nat} {c:Bool} {pl pr:Value} (h:w.heap[b]?=some (.cells (ndCells x c pl pr) tNd (0,0))):
  w.cell? ⟨b,0,none⟩=some (.int .u64 x.1)∧w.cell? ⟨b,1,none⟩=some (.int .i64 x.2.1)∧w.cell? ⟨b,2,none⟩=some (.pointer (some ⟨x.2.2,0,none⟩))∧w.cell? ⟨b,3,none⟩=some (.bool c)∧w.cell? ⟨b,4,none⟩=some pl∧w.cell? ⟨b,5,none⟩=some pr:=by
 refine⟨by simp [World.cell?,h],by simp [World.cell?,h],by simp [World.cell?,h],by simp [World.cell?,h],by simp [World.cell?,h],by simp [World.cell?,h]⟩
theorem TrAt.mk {w w1:World} {l r:Tr Nat} {pl pr:Value} (hl:TrAt w l pl) (hr:TrAt w r pr) (ht:Turned [] w w1) (x:Itm Nat) (c:Bool):
  TrAt (w1.alloc (.cells (ndCells x c pl pr) tNd)) (.node c l x r) (.pointer (some ⟨w1.heap.size,0,none⟩))∧Turned [] w (w1.alloc (.cells (ndCells x c pl pr) tNd)):=by
 have h:=ht.alloc (.cells (ndCells x c pl pr) tNd)
 exact⟨⟨_,pl,pr,rfl,heap_alloc_new w1 _,hl.later h,hr.later h⟩,h⟩
abbrev Makes (w:World) (t:Tr Nat) (e:Ending) (w':World):Prop:=∃p,e= .returned p∧TrAt w' t p∧Turned [] w w'
theorem red_any {w:World} {l r:Tr Nat} {pl pr:Value} (hl:TrAt w l pl) (hr:TrAt w r pr) (x:Itm Nat):
  Calls Try.prog 73 #[pl,itV x,pr] w (Makes w (.node true l x r)):=by
 have HM:=xhd (fun o=>TrAt.mk hl hr ((Turned.refl [] w).alloc o) x true)
 obtain⟨al,rfl⟩:=hl.shape
 obtain⟨ar,rfl⟩:=hr.shape
 obtain⟨x1,x2,x3⟩:=x
 simp only [itV,ndCells] at HM ⊢
 clear hl hr
 go_enter Try.func73,Try.ntmps73
 go_wp2
 go_ret
 exact⟨_,rfl,by simpa using HM.out _⟩
theorem black_any {w:World} {l r:Tr Nat} {pl pr:Value} (hl:TrAt w l pl) (hr:TrAt w r pr) (x:Itm Nat):
  Calls Try.prog 76 #[pl,itV x,pr] w (Makes w (.node false l x r)):=by
 have HM:=xhd (fun o=>TrAt.mk hl hr ((Turned.refl [] w).alloc o) x false)
 obtain⟨al,rfl⟩:=hl.shape
 obtain⟨ar,rfl⟩:=hr.shape
 obtain⟨x1,x2,x3⟩:=x
 simp only [itV,ndCells] at HM ⊢
 clear hl hr
 go_enter Try.func76,Try.ntmps76
 go_wp2
 go_ret
 exact⟨_,rfl,by simpa using HM.out _⟩
theorem isRed_any {w:World} {t:Tr Nat} {p:Value} (h:TrAt w t p):
  Calls Try.prog 75 #[p] w fun e w'=>e= .returned (.bool t.isR)∧w=w':=by
 cases t with
 |nil=>
  obtain rfl:p= .pointer none:=h
  go_enter Try.func75,Try.ntmps75
  go_wp2
  go_ret
  exact⟨rfl,rfl⟩
 |node c l x r=>
  obtain⟨b,pl,pr,rfl,h2,_,_⟩:=h
  obtain⟨_,_,_,c3,_,_⟩:=nd_cells h2
  rw [show (Tr.node c l x r).isR=c by cases c<;>rfl]
  clear h2
  go_enter Try.func75,Try.ntmps75
  go_wp2
  go_ret
  exact⟨rfl,rfl⟩
theorem isRed_is {w:World} {t:Tr Nat} {p:Value} {b:Bool} (h:TrAt w t p) (hb:t.isR=b):
 Calls Try.prog 75 #[p] w fun e w'=>e= .returned (.bool b)∧w=w':=hb ▸ isRed_any h
theorem isBlack_any {w:World} {t:Tr Nat} {p:Value} (h:TrAt w t p):
  Calls Try.prog 82 #[p] w fun e w'=>e= .returned (.bool t.isB)∧w=w':=by
 cases t with
 |nil=>
  obtain rfl:p= .pointer none:=h
  go_enter Try.func82,Try.ntmps82
  go_wp2
  go_ret
  exact⟨rfl,rfl⟩
 |node c l x r=>
  obtain⟨b,pl,pr,rfl,h2,_,_⟩:=h
  obtain⟨_,_,_,c3,_,_⟩:=nd_cells h2
  rw [show (Tr.node c l x r).isB=!c by cases c<;>rfl]
  clear h2
  go_enter Try.func82,Try.ntmps82
  go_wp2
  go_ret
  exact⟨rfl,rfl⟩
theorem asRoot_any {w:World} {t:Tr Nat} {p:Value} (h:TrAt w t p):
  Calls Try.prog 65 #[p] w (Makes w t.root):=by
 have HR:=xhd (isRed_any h)
 by_cases hr:t.isR=true
 ·cases t with
  |nil=>simp [Tr.isR] at hr
  |node c l x r=>
   obtain rfl:c=true:=by cases c;simp [Tr.isR] at hr;rfl
   rw [hr] at HR
   obtain⟨b,pl,pr,rfl,h2,h3,h4⟩:=h
   obtain⟨al,rfl⟩:=h3.shape
   obtain⟨ar,rfl⟩:=h4.shape
   obtain⟨D,hD⟩:∃D,w.drew=D:=⟨_,rfl⟩
   have TD:Turned [] w D:=hD ▸ (Turned.refl [] w).drew
   have k2:=TD.same h2 (by simp)
   obtain⟨c0,c1,c2,c3,c4,c5⟩:=nd_cells k2
   have HB:=xhd (black_any (h3.later TD) (h4.later TD) x)
   have HT:=xhd TD
   obtain⟨x1,x2,x3⟩:=x
   simp only [itV] at HB
   clear h2 h3 h4 hr k2 TD
   go_enter Try.func65,Try.ntmps65
   go_wp2_with fail
   refine HR.out.mono ?_
   rintro e w1 ⟨rfl,rfl⟩
   go_wp2_with fail
   refine wp_still_tail_at 12 hD (by kernel_rfl) (by kernel_rfl) ?_
   clear hD
   simp only [List.take_succ_cons,List.take_zero,List.drop_succ_cons,List.drop_zero]
   repeat still_step
   refine wpStill_nil ?_
   go_wp2_with fail
   refine HB.out.mono ?_
   rintro e w1 ⟨q,rfl,hq,ht⟩
   have R:=xhd (And.intro hq (HT.out.join ht))
   obtain⟨aq,rfl⟩:=hq.shape
   clear hq ht
   go_wp2
   go_ret
   exact⟨_,rfl,R.out⟩
 ·have hf:t.isR=false:=by simpa using hr
  have e:t.root=t:=by
   cases t with
   |nil=>rfl
   |node c l x r=>cases c;rfl;simp [Tr.isR] at hf
  rw [hf] at HR
  rw [e]
  have H:=xhd h
  obtain⟨a,rfl⟩:=h.shape
  clear h hr hf e
  go_enter Try.func65,Try.ntmps65
  go_wp2_with fail
  refine HR.out.mono ?_
  rintro e w1 ⟨rfl,rfl⟩
  go_wp2
  go_ret
  exact⟨_,rfl,H.out,Turned.refl _ _⟩
theorem reddened_any {w:World} {c:Bool} {l r:Tr Nat} {x:Itm Nat} {p:Value} (h:TrAt w (.node c l x r) p):
  Calls Try.prog 83 #[p] w (Makes w (.node true l x r)):=by
 obtain⟨b,pl,pr,rfl,h2,h3,h4⟩:=h
 obtain⟨al,rfl⟩:=h3.shape
 obtain⟨ar,rfl⟩:=h4.shape
 obtain⟨D,hD⟩:∃D,w.drew=D:=⟨_,rfl⟩
 have TD:Turned [] w D:=hD ▸ (Turned.refl [] w).drew
 have k2:=TD.same h2 (by simp)
 obtain⟨c0,c1,c2,c3,c4,c5⟩:=nd_cells k2
 have HB:=xhd (red_any (h3.later TD) (h4.later TD) x)
 have HT:=xhd TD
 obtain⟨x1,x2,x3⟩:=x
 simp only [itV] at HB
 clear h2 h3 h4 k2 TD
 go_enter Try.func83,Try.ntmps83
 go_wp2_with fail
 refine wp_still_tail_at 12 hD (by kernel_rfl) (by kernel_rfl) ?_
 clear hD
 simp only [List.take_succ_cons,List.take_zero,List.drop_succ_cons,List.drop_zero]
 repeat still_step
 refine wpStill_nil ?_
 go_wp2_with fail
 refine HB.out.mono ?_
 rintro e w1 ⟨q,rfl,hq,ht⟩
 have R:=xhd (And.intro hq (HT.out.join ht))
 obtain⟨aq,rfl⟩:=hq.shape
 clear hq ht
 go_wp2
 go_ret
 exact⟨_,rfl,R.out⟩
theorem isBlack_is {w:World} {t:Tr Nat} {p:Value} {b:Bool} (h:TrAt w t p) (hb:t.isB=b):
 Calls Try.prog 82 #[p] w fun e w'=>e= .returned (.bool b)∧w=w':=hb ▸ isBlack_any h
abbrev Bx (w:World) (g:Nat) (x:Itm Nat):Prop:=w.heap[g]?=some (.cells #[.int .u64 x.1, .int .i64 x.2.1, .pointer (some ⟨x.2.2,0,none⟩)] tIt (0,0))
theorem bx_cells {w:World} {g:Nat} {x:Itm Nat} (h:Bx w g x):w.cell? ⟨g,0,none⟩=some (.int .u64 x.1)∧w.cell? ⟨g,1,none⟩=some (.int .i64 x.2.1)∧w.cell? ⟨g,2,none⟩=some (.pointer (some ⟨x.2.2,0,none⟩)):=by
 refine⟨by simp [World.cell?,h],by simp [World.cell?,h],by simp [World.cell?,h]⟩
theorem bx_new (w:World) (x:Itm Nat):Bx (w.alloc (.cells #[.int .u64 x.1, .int .i64 x.2.1, .pointer (some ⟨x.2.2,0,none⟩)] tIt)) w.heap.size x:=heap_alloc_new w _
abbrev S1 (W:World) (g:Nat) (x1 x2:Int) (x3:Nat) (w':World):Prop:=w'.cell? ⟨g,0,none⟩=some (.int .u64 x1)∧w'.cell? ⟨g,1,none⟩=some (.int .i64 x2)∧w'.cell? ⟨g,2,none⟩=some (.pointer (some ⟨x3,0,none⟩))∧Turned [] W w'
theorem S1.mk {W w':World} {g:Nat} {x:Itm Nat} (h:Bx W g x) (ht:Turned [] W w'):S1 W g x.1 x.2.1 x.2.2 w':=by
 obtain⟨h0,h1,h2⟩:=bx_cells (ht.same h (by simp))
 exact⟨h0,h1,h2,ht⟩
theorem balA_any {w:World} {l r:Tr Nat} {pl pr:Value} (hl:TrAt w l pl) (hr:TrAt w r pr) (x:Itm Nat) (rl:l.isR=true) (rr:r.isR=true):
  Calls Try.prog 74 #[pl,itV x,pr] w (Makes w (.node true l.root x r.root)):=by
 obtain⟨W,hW⟩:∃W,w.alloc (.cells #[.int .u64 x.1, .int .i64 x.2.1, .pointer (some ⟨x.2.2,0,none⟩)] tIt)=W:=⟨_,rfl⟩
 have TW:Turned [] w W:=hW ▸ (Turned.refl [] w).alloc _
 have BW:Bx W w.heap.size x:=hW ▸ bx_new w x
 have HL:=xhd (isRed_any (hl.later TW))
 have HR:=xhd (isRed_any (hr.later TW))
 rw [rl] at HL
 rw [rr] at HR
 have KL:=xhd (hl.later TW)
 have KR:=xhd (hr.later TW)
 have HT:=xhd TW
 have HS:=xhd (fun w' (ht:Turned [] W w')=>S1.mk BW ht)
 obtain⟨al,rfl⟩:=hl.shape
 obtain⟨ar,rfl⟩:=hr.shape
 obtain⟨x1,x2,x3⟩:=x
 simp only [itV] at hW HS ⊢
 clear hl hr rl rr TW BW
 go_enter Try.func74,Try.ntmps74
 go_wp2_with fail
 refine HL.out.mono ?_
 rintro e w1 ⟨rfl,rfl⟩
 go_wp2_with fail
 refine HR.out.mono ?_
 rintro e w1 ⟨rfl,rfl⟩
 go_wp2_with fail
 obtain⟨e0,e1,e2,et⟩:=HS.out _ (Turned.refl [] W).drew
 have ET:=xhd et
 go_region_held3 (fun w'=>w'.cell? ⟨w.heap.size,0,none⟩=some (.int .u64 x1)∧w'.cell? ⟨w.heap.size,1,none⟩=some (.int .i64 x2)∧w'.cell? ⟨w.heap.size,2,none⟩=some (.pointer (some ⟨x3,0,none⟩))∧Turned [] W w')
  (first|exact⟨f0,f1,f2,ft⟩ |exact⟨e0,e1,e2,et⟩)
  (first
    |(go_at_call 65
      first
       |(with_reducible refine (asRoot_any (KL.out.later (by first|exact ft|exact et))).mono ?_
         rintro e wa ⟨ql,rfl,hl,tl⟩
         have gl:=xhd hl
         try have gr:=xhd (gr.out.later tl)
         obtain⟨f0,f1,f2,ft⟩:=HS.out _ (Turned.join (by first|exact ft|exact et) tl)
         obtain⟨aql,rfl⟩:=hl.shape
         clear hl tl)
       |(with_reducible refine (asRoot_any (KR.out.later (by first|exact ft|exact et))).mono ?_
         rintro e wa ⟨qr,rfl,hr,tr⟩
         have gr:=xhd hr
         try have gl:=xhd (gl.out.later tr)
         obtain⟨f0,f1,f2,ft⟩:=HS.out _ (Turned.join (by first|exact ft|exact et) tr)
         obtain⟨aqr,rfl⟩:=hr.shape
         clear hr tr))
    |(go_at_call 73
      with_reducible refine (red_any gl.out gr.out (x1,x2,x3)).mono ?_
      rintro e wa ⟨q,rfl,hq,tq⟩
      obtain⟨f0,f1,f2,ft⟩:=HS.out _ (Turned.join (by first|exact ft|exact et) tq)
      have G:=xhd (And.intro hq (HT.out.join ft))
      obtain⟨aq,rfl⟩:=hq.shape
      clear hq tq))
 all_goals
  go_wp2
  go_ret
  exact⟨_,rfl,G.out⟩
end Go.Proofs.Ytfmciiffcmfagaa
namespace Go.Proofs.Ytfmciiffcmfagaa
open Go.RowKit
section
variable {F:Fence} {n:Nat} {P:Program} {ops:Array Oper} {Q:Exit→Act→World→Prop} {md:Region.Mode} {S:World→Prop}
theorem yieldsIf_in {i:Nat} {o:Oper} {v:Value} {a:Act} (hro:F.round=none) (hF:∀f,F.fn f) (hi:ops[i]?=some o) (hy:YieldsIf P ops S o v a)
  {K:Act→World→Prop} {w:World} (hS:S w) (h:K (a.put o.dst v) w):wpOpIn F n P ops Q i K a w:=by
 unfold Go.wpOpIn
 simp only [hi]
 rcases hy with⟨hw,hv⟩ |⟨hw,rfl⟩
 ·simp only [hw,if_true,Oper.wpIn,hro,Oper.semAt_none,hv w hS,Oper.uponIn];exact⟨fun f _=>hF f,h⟩
 ·simp only [hw,Bool.false_eq_true,if_false];exact⟨fun f _=>hF f,h⟩
theorem putIf_in {j:Nat} {oi oj:Oper} {v:Value} (hro:F.round=none) (hj:ops[j]?=some oj) (hap:oi.apart ops oj=true)
  (hsi:∀cs b,oi.op≠ .select cs b) (hsj:∀cs b,oj.op≠ .select cs b)
  (hQ:∀c a w,Q (.panic c) (a.put oi.dst v) w→Q (.panic c) a w) {K:Act→World→Prop} {a:Act} {w:World}
  (hy:YieldsIf P ops S oi v a) (h:wpOpIn F n P ops Q j K (a.put oi.dst v) w):
  wpOpIn F n P ops Q j (fun a' w'=>YieldsIf P ops S oi v a'∧K (a'.put oi.dst v) w') a w:=by
 obtain⟨h1,h2,h3⟩:=Oper.apart_spec hap
 have keep:∀(a:Act),YieldsIf P ops S oi v a→∀u,YieldsIf P ops S oi v (a.put oj.dst u):=fun a hy u=>
  hy.of_same (execOp_put oi hsi a oj.dst u h3) (wanted_put oi a oj.dst u h3)
 have keepD:∀d,YieldsIf P ops S oi v { a with defers:=d::a.defers } :=fun d=>hy.of_same rfl rfl
 unfold wpOpIn at*
 simp only [hj] at*
 rw [wanted_put oj a oi.dst v h1,about_put oj w a oi.dst v h1] at h
 split
 ·rename_i hw
  simp only [hw,if_true] at h
  unfold Oper.wpIn at*
  rw [about_put oj w a oi.dst v h1] at h
  refine⟨h.1,?_⟩
  have h:=h.2
  rw [hro,Oper.semAt_none,execOp_put oj hsj a oi.dst v h1] at h
  rw [hro,Oper.semAt_none]
  generalize (execOp a.eval oj).run P w=r at*
  cases r with
  |ok x w'=>
   cases x<;>simp only [Oper.uponIn] at h ⊢
   case value u=>exact⟨keep a hy u,by rw [←Act.put_comm a v u h2];exact h⟩
   case skip=>exact⟨keep a hy _,by rw [←Act.put_comm a v undef h2];exact h⟩
   case defer d=>
    refine⟨keep _ (keepD d) _,?_⟩
    rw [←Act.put_comm _ v undef h2, ←Act.put_defers]
    exact h
   case enter f args=>
    refine⟨h.1,CallsIn.mono h.2 fun e w'' he=>?_⟩
    cases e with
    |returned u=>exact⟨keep a hy u,by rw [←Act.put_comm a v u h2];exact he⟩
    |panicked c=>exact hQ _ _ _ he
    |outgrown=>exact he
   case row row args=>exact⟨h.1,RowsIn.mono h.2 fun u w'' he=>⟨keep a hy u,by rw [←Act.put_comm a v u h2];exact he⟩⟩
   case round l f tmps assign body=>
    refine⟨h.1,RoundIn.mono h.2 fun e w'' he=>?_⟩
    cases e with
    |returned u=>exact⟨keep a hy u,by rw [←Act.put_comm a v u h2];exact he⟩
    |panicked c=>exact hQ _ _ _ he
    |outgrown=>exact he
  |halt x w'=>
   cases x<;>simp only [Oper.uponIn] at h ⊢
   case panic u=>exact hQ _ _ _ h
 ·rename_i hw
  simp only [hw] at h
  exact⟨h.1,keep a hy _,by rw [←Act.put_comm a v undef h2];exact h.2⟩
def wpAnyI (F:Fence) (n:Nat) (P:Program) (md:Region.Mode) (ops:Array Oper) (Q:Exit→Act→World→Prop) (S:World→Prop):Nat→Array Bool→Act→World→Prop
 |0,listed,a,w=>Region.ready md ops listed=[]∧Q .normal a w
 |fuel+1,listed,a,w=>
  (Region.ready md ops listed=[]→Q .normal a w)∧
  ∀i ∈ Region.ready md ops listed,wpOpIn F n P ops Q i (fun a' w'=>S w'∧wpAnyI F n P md ops Q S fuel (listed.setIfInBounds i true) a' w') a w
theorem wpAnyIn_of_I:∀(fuel:Nat) (listed:Array Bool) (a:Act) (w:World),wpAnyI F n P md ops Q S fuel listed a w→wpAnyIn F n P md ops Q fuel listed a w
 |0,_,_,_,h=>h
 |fuel+1,_,_,_,h=>⟨h.1,fun i hi=>wpOpIn_mono (fun a' w' h'=>wpAnyIn_of_I fuel _ a' w' h'.2) (h.2 i hi)⟩
theorem wpAnyI_take {i:Nat} {oi:Oper} {v:Value} {fuel:Nat} {listed:Array Bool} {a:Act} {w:World} (hro:F.round=none) (hF:∀f,F.fn f) (hi:ops[i]?=some oi)
  (hs:Region.noSelect ops=true) (hf:Region.free md ops listed i=true) (hr:(Region.ready md ops listed).contains i=true)
  (hQ:∀c a w,Q (.panic c) (a.put oi.dst v) w→Q (.panic c) a w) (hy:YieldsIf P ops S oi v a) (hS:S w)
  (h:wpAnyI F n P md ops Q S fuel (listed.setIfInBounds i true) (a.put oi.dst v) w):wpAnyI F n P md ops Q S (fuel+1) listed a w:=by
 have hsel:=Region.noSelect_spec hs
 have hfree:=Region.free_spec hi hf
 have hr':i ∈ Region.ready md ops listed:=by simpa using hr
 clear hf hr
 revert listed a w
 induction fuel with
 |zero=>
  intro listed a w hy hS H hfree hr
  refine⟨fun h=>(by rw [h] at hr;cases hr),fun j hj=>?_⟩
  by_cases hji:j=i
  ·subst hji;exact yieldsIf_in hro hF hi hy hS ⟨hS,H⟩
  ·have:=ready_mono hj hji
   rw [H.1] at this
   cases this
 |succ fuel ih=>
  intro listed a w hy hS H hfree hr
  refine⟨fun h=>(by rw [h] at hr;cases hr),fun j hj=>?_⟩
  by_cases hji:j=i
  ·subst hji;exact yieldsIf_in hro hF hi hy hS ⟨hS,H⟩
  ·have h1:=H.2 j (ready_mono hj hji)
   obtain⟨hjun,oj,hoj,hall⟩:=mem_ready.1 hj
   have hnot:∀e ∈ oj.after,Region.binds md e=true→e.on≠i:=fun e he hb heq=>by
    have h1:=hall e he hb
    have h0:=(mem_ready.1 hr).1
    rw [heq] at h1
    rcases Nat.lt_or_ge i listed.size with h'|h'
    ·simp [h'] at h0 h1;rw [h0] at h1;cases h1
    ·simp [Array.getElem?_eq_none h'] at h1
   have h2:=putIf_in hro hoj (hfree j oj hoj hji hjun hnot) (fun cs b=>hsel i oi cs b hi) (fun cs b=>hsel j oj cs b hoj) hQ hy h1
   have hfree':∀k ok,ops[k]?=some ok→k≠i→(listed.setIfInBounds j true).getD k true=false→
     (∀e ∈ ok.after,Region.binds md e=true→e.on≠i)→oi.apart ops ok=true:=fun k ok hk hki hun hno=>by
    refine hfree k ok hk hki ?_ hno
    by_cases hjk:j=k
    ·subst hjk;exact hjun
    ·rw [getD_set_ne true hjk] at hun;exact hun
   refine wpOpIn_mono (fun a' w' h3=>⟨h3.2.1,ih (listed:=listed.setIfInBounds j true) h3.1 h3.2.1 ?_ hfree' (ready_mono hr (Ne.symm hji))⟩) h2
   rw [Array.setIfInBounds_comm _ _ hji]
   exact h3.2.2
theorem wpAnyI_one {i:Nat} {o:Oper} {fuel:Nat} {listed:Array Bool} {a:Act} {w:World} (hr:Region.ready md ops listed=[i]) (ho:ops[i]?=some o)
  (h:∀K':Act→World→Prop,Shut (∀a w,S w→wpAnyI F n P md ops Q S fuel (listed.setIfInBounds i true) a w→K' a w)→if Region.wanted o (yielded ops a.tmps)=true then Oper.wpIn F n P o a w K' Q else (∀f,o.about P w a.eval=some f→F.fn f)∧K' (a.put o.dst undef) w):
  wpAnyI F n P md ops Q S (fuel+1) listed a w:=
 ⟨fun h0=>(by rw [h0] at hr;cases hr),fun j hj=>by
   rw [hr] at hj
   obtain rfl:j=i:=by simpa using hj
   exact wpOpIn_step ho fun K' hK=>h K' fun a w h1 h2=>hK a w ⟨h1,h2⟩⟩
theorem wpAnyI_done {listed:Array Bool} {a:Act} {w:World} (hr:Region.ready md ops listed=[]) (h:Q .normal a w):∀fuel,wpAnyI F n P md ops Q S fuel listed a w
 |0=>⟨hr,h⟩
 |_+1=>⟨fun _=>h,by rw [hr];simp⟩
end
theorem wpIn_region_I {F:Fence} {n:Nat} {P:Program} {id:Nat} {Q:Exit→Act→World→Prop} {a:Act} {w:World} {ops:Array Oper} (S:World→Prop) (hm:P.follows .mixedOrders=true) (hS:S w.drew)
  (h:S w.drew→wpAnyI F n P .any ops Q S ops.size (Array.replicate ops.size false) a w.drew):(Code.region id ops true).wpIn F n P Q a w:=
 wpIn_region_any hm (wpAnyIn_of_I _ _ _ _ (h hS))
theorem wpIn_region_noPanic {F:Fence} {n:Nat} {P:Program} {id:Nat} {ops:Array Oper} {b:Bool} {Q:Exit→Act→World→Prop} {a:Act} {w:World} (h:(Code.region id ops b).wpIn F n P (NoPanic Q) a w):(Code.region id ops b).wpIn F n P Q a w:=
 wpIn_mono h NoPanic.imp
theorem YieldAt.wide {m m':Nat} {P:Program} {l:Nat} {args:Array Value} {W:World} {R:Ending→World→Prop} (h:YieldAt Fence.wide m P l args W R):YieldAt Fence.wide m' P l args W R:=by
 obtain⟨fn,tmps,assign,body,hy,hR⟩:=h
 exact⟨fn,tmps,assign,body,hy,hR.1,fun c cs _=>hR.2 c cs (room_wide _)⟩
end Go.Proofs.Ytfmciiffcmfagaa
namespace Go.Proofs.Ytfmciiffcmfagaa
open Go.RowKit
variable {F:Fence} {n:Nat} {P:Program}
theorem range_turnsY_boxed {α:Type} {g:Operand} {ps:Array Tmp} {assign body:Code} {Q:Exit→Act→World→Prop} {a:Act} {w:World}
  (hro:F.round=none) (h1:1≤n) {gf:Nat} {lb:Array Value} (hg:a.eval g= .func (.func gf) #[] lb) (hFg:F.fn gf) (eg:∀args w,(callFunc gf args).run P w= .ok (.enter gf args) w)
  {encs:α→Array Value} {Y X:List Nat} {Sp:List α→Prop} {S Sx:List α→List Nat→World→Prop} (hX:∀k ∈ X,k < w.heap.size) (hYl:∀k ∈ Y,k < w.heap.size)
  (hseq:TurnSeqY F (n - 1) P gf lb encs Y X Sp S Sx w) (hps:∀x,(encs x).size=ps.size)
  (hS:∀xs Z A B,S xs Z A→SameAt Z A B→S xs Z B) (hSx:∀xs Z A B,Sx xs Z A→SameAt Z A B→Sx xs Z B)
  (I:List α→List Nat→World→Prop) (Ix:Code→List α→List Nat→World→Prop) (hI:∀xs Z Z' A B,I xs Z A→Mild Z w.heap.size A B→Newer Z A.heap.size Z'→(∀k ∈ Z',k < B.heap.size)→I xs Z' B)
  (hIx:∀c xs Z Z' A B,Ix c xs Z A→Mild Z w.heap.size A B→Newer Z A.heap.size Z'→(∀k ∈ Z',k < B.heap.size)→Ix c xs Z' B) (h0:I [] X w) (hIY:∀xs Z W,I xs Z W→SameAt Y w W) (hIxY:∀c xs Z W,Ix c xs Z W→SameAt Y w W)
  (hsz:∀xs Z W,I xs Z W→w.heap.size≤W.heap.size∧∀k ∈ Z,k < W.heap.size) (t:TypeId) (cs:α→Array Value) (a₁:α→Nat→Act)
  (hassign:∀(l:Nat) (x:α) (Bk:Nat) (W:World) (K:Act→World→Prop),W.heap.size=Bk→K (a₁ x Bk) (W.alloc (.cells (cs x) t))→
    assign.wpIn (F.inRound l) (n - 1 - 1) P (Exit.then K (fun _ _ _=>False)) { tmps:=(ps.zip (encs x)).foldl (fun t (p,v)=>t.setIfInBounds p v) a.tmps,defers:=[] } W)
  (hbody:∀(l:Nat) (pre:List α) (x:α) (Z:List Nat) (Bk:Nat) (W:World),W.heap[Bk]?=some (.cells (cs x) t (0,0))→w.heap.size≤Bk→I pre Z W→Sp (pre++[x])→body.wpIn (F.inRound l) (n - 1 - 1) P (leftPost w.heap.size Z (fun xs V=>I xs Z V) (fun c xs V=>Ix c xs Z V) (pre++[x]) W) (a₁ x Bk) W)
  (hdone:∀(D:Nat) (xs:List α) (Z:List Nat) (W:World),w.heap.size≤D→(∀k ∈ Z,k≠D)→S xs Z W→I xs Z W→W.heap[D]?=some (.deferred (some []))→Q .normal { a with defers:= { target:= .collected D,args:= #[] } ::a.defers } W)
  (hstop:∀(D:Nat) (c:Code) (xs:List α) (Z:List Nat) (W:World),w.heap.size≤D→(∀k ∈ Z,k≠D)→Sx xs Z W→Ix c xs Z W→W.heap[D]?=some (.deferred (some []))→c.wpIn F n P Q { a with defers:= { target:= .collected D,args:= #[] } ::a.defers } W):
  (Code.rangeFunc g ps assign body).wpIn F n P Q a w:=by
 refine range_turnsY hro h1 hg hFg eg hX hYl hseq hps hS hSx I Ix hI hIx h0 hIY hIxY (fun x a' W=>∃Bk,W.heap[Bk]?=some (.cells (cs x) t (0,0))∧w.heap.size≤Bk∧a'=a₁ x Bk) ?_ ?_ ?_ hdone hstop
 ·rintro x a' A B ⟨k,hk,hb,rfl⟩ m
  exact⟨k,m.same k _ hk (by simp) (.inr rfl),hb,rfl⟩
 ·intro l pre x Z W K hi hK
  obtain⟨hs,hz⟩:=hsz _ _ _ hi
  have ta:Turned [] W (W.alloc (.cells (cs x) t)):=(Turned.refl [] W).alloc _
  exact hassign l x W.heap.size W K rfl (hK _ _ ((KeepsOthers.alloc _ _).from _) (fun k hk=>Below.heap_alloc W _ k (hz k hk)) (hI _ _ _ _ _ hi (Mild.of_turned (ta.mono (fun k hk=>by simp at hk))) (Newer.refl _ _) (fun k hk=>Nat.lt_of_lt_of_le (hz k hk) ta.size)) ⟨W.heap.size,heap_alloc_new W _,hs,rfl⟩)
 ·rintro l pre x Z a' W hi ⟨k,hk,hb,rfl⟩ hsp
  exact hbody l pre x Z k W hk hb hi hsp
end Go.Proofs.Ytfmciiffcmfagaa
namespace Go.Proofs.Ytfmciiffcmfagaa
open Go.RowKit Go.Shelf
theorem add_any (a b:Int) (ha:Word a) (hb:Word b) (w:World):
  Calls Try.prog 42 #[.int .u64 a, .int .u64 b] w fun e w'=>e= .returned (.tuple #[.int .u64 (satV (a+b)), .int .i64 (satE (a+b))])∧w=w':=by
 by_cases h:a+b≤18446744073709551615
 ·rw [satV_fit h,satE_fit h]
  have e1:hiW (a+b)=0:=by have:=ha.1;have:=hb.1;unfold hiW;omega
  have e2:loW (a+b)=a+b:=by have:=ha.1;have:=hb.1;unfold loW;omega
  have A:=add64 a b ha hb
  rw [e1,e2] at A
  clear e1 e2 h
  go_enter Try.func42,Try.ntmps42
  go_wp2
  go_ret2
  exact⟨rfl,rfl⟩
 ·rw [satV_big h,satE_big h]
  have e1:hiW (a+b)=1:=by have:=ha.2;have:=hb.2;unfold hiW;omega
  have A:=add64 a b ha hb
  rw [e1] at A
  clear e1 h
  go_enter Try.func42,Try.ntmps42
  go_wp2
  go_ret2
  exact⟨rfl,rfl⟩
theorem sub_any (a b:Int) (ha:Word a) (hb:Word b) (w:World):
  Calls Try.prog 40 #[.int .u64 a, .int .u64 b] w fun e w'=>e= .returned (.tuple #[.int .u64 (subV a b), .int .i64 (subE a b)])∧w=w':=by
 obtain⟨a0,a1⟩:=ha
 obtain⟨b0,b1⟩:=hb
 by_cases h:a < b
 ·rw [show subV a b=0 from if_pos h,show subE a b=2 from if_pos h]
  go_enter Try.func40,Try.ntmps40
  go_wp2
  go_ret2
  exact⟨rfl,rfl⟩
 ·rw [show subV a b=a - b from if_neg h,show subE a b=0 from if_neg h]
  go_enter Try.func40,Try.ntmps40
  go_wp2
  go_ret2
  exact⟨rfl,rfl⟩
end Go.Proofs.Ytfmciiffcmfagaa
namespace Go.Proofs.Ytfmciiffcmfagaa
open Go.RowKit
theorem run_max_un {P:Program} {w:World} (ts:Array TypeId) (t:TypeId) (k:IntKind) (x y:Int):(Builtin.max_ ts t #[.int k x, .int k y]).run P w= .ok (.int k (max x y)) w:=by
 rw [run_max_int2]
 congr 2
 split<;>omega
theorem run_min_un {P:Program} {w:World} (ts:Array TypeId) (t:TypeId) (k:IntKind) (x y:Int):(Builtin.min_ ts t #[.int k x, .int k y]).run P w= .ok (.int k (min x y)) w:=by
 rw [run_min_int2]
 congr 2
 split<;>omega
attribute [local go_sem ↓] run_min_un run_max_un
theorem bring_minmax {n lo hi:Int} (h:lo≤hi):min (max n lo) hi=bringR n lo hi:=by
 unfold bringR
 split
 ·omega
 ·split<;>omega
theorem within_any (n lo hi:Int) (h:lo≤hi) (h0:0≤lo) (h1:hi≤4611686018427387904) (w:World):
  Calls Try.prog 62 #[.int .i64 n, .int .i64 lo, .int .i64 hi] w fun e w'=>e= .returned (.int .u64 (bringR n lo hi))∧w'=w:=by
 have hb:=bring_range (n:=n) h
 rw [←bring_minmax h] at hb ⊢
 have hw:IntKind.u64.wrap (min (max n lo) hi)=min (max n lo) hi:=by rw [IntKind.wrap_u64];omega
 go_enter Try.func62,Try.ntmps62
 go_wp2
 go_ret
 exact⟨rfl,rfl⟩
theorem ucore_any (n:Int) (w:World):Calls Try.prog 61 #[.int .i64 n] w fun e w'=>e= .returned (.int .u64 (coreR n))∧w'=w:=by
 have HB:=xhd (within_any n 1 4096 (by decide) (by decide) (by decide) w)
 have hr:=core_range n
 have hb:=bring_range (n:=n) (lo:=1) (hi:=4096) (by decide)
 unfold coreR at hr ⊢
 obtain⟨b,hbb⟩:∃b,bringR n 1 4096=b:=⟨_,rfl⟩
 rw [hbb] at HB hr hb ⊢
 have hq:(1099511627776:Int).tdiv b=1099511627776 / b:=Int.tdiv_eq_ediv_of_nonneg (by decide)
 obtain⟨q,hqq⟩:∃q,1099511627776 / b=q:=⟨_,rfl⟩
 rw [hqq] at hq hr ⊢
 have hw2:IntKind.u64.wrap q=q:=by rw [IntKind.wrap_u64];omega
 have hn:¬b=0:=by omega
 clear hbb hqq
 go_enter Try.func61,Try.ntmps61
 go_wp2_with fail
 with_reducible refine HB.out.mono ?_
 rintro e w1 ⟨rfl,rfl⟩
 go_wp2
 go_ret
 exact⟨rfl,rfl⟩
theorem ureach_any (n g:Int) (w:World):Calls Try.prog 50 #[.int .i64 n, .int .i64 g] w fun e w'=>e= .returned (.int .u64 (reachR n g))∧w'=w:=by
 have HB:=xhd (within_any g 1 8 (by decide) (by decide) (by decide) w)
 have HC:=xhd (ucore_any n w)
 have hr:=reach_range n g
 unfold reachR at hr ⊢
 obtain⟨b,hbb⟩:∃b,bringR g 1 8=b:=⟨_,rfl⟩
 obtain⟨c,hcc⟩:∃c,coreR n=c:=⟨_,rfl⟩
 rw [hbb] at HB hr ⊢
 rw [hcc] at HC hr ⊢
 have hw2:IntKind.u64.wrap (c*b)=c*b:=by
  obtain⟨q,hq⟩:∃q,c*b=q:=⟨_,rfl⟩
  rw [hq] at hr ⊢
  rw [IntKind.wrap_u64];omega
 clear hbb hcc hr
 go_enter Try.func50,Try.ntmps50
 go_wp2_with fail
 with_reducible refine HC.out.mono ?_
 rintro e w1 ⟨rfl,rfl⟩
 go_wp2_with fail
 with_reducible refine HB.out.mono ?_
 rintro e w2 ⟨rfl,rfl⟩
 go_wp2
 go_ret
 exact⟨rfl,rfl⟩
theorem clamp_minmax {v f r:Int} (hf:Word f) (hr:Word r):min (max v f) (satV (f+r))=clampR v f r:=by
 unfold clampR
 have hs:f≤satV (f+r):=by
  by_cases h:f+r≤18446744073709551615
  ·rw [satV_fit h];have:=hr.1;omega
  ·rw [satV_big h];exact hf.2
 split
 ·omega
 ·split<;>omega
theorem uclamp_any (v f r:Int) (hf:Word f) (hr:Word r) (w:World):Calls Try.prog 49 #[.int .u64 v, .int .u64 f, .int .u64 r] w fun e w'=>e= .returned (.int .u64 (clampR v f r))∧w'=w:=by
 have HA:=xhd (add_any f r hf hr w)
 rw [←clamp_minmax hf hr]
 go_enter Try.func49,Try.ntmps49
 go_wp2_with fail
 with_reducible refine HA.out.mono ?_
 rintro e w1 ⟨rfl,rfl⟩
 go_wp2
 go_ret
 exact⟨rfl,rfl⟩
end Go.Proofs.Ytfmciiffcmfagaa
namespace Go.Proofs.Ytfmciiffcmfagaa
open Go.RowKit
def leftPostW {α:Type} (N:Nat) (Y:List Nat) (I:List α→World→Prop) (Ix:Code→List α→World→Prop) (xs:List α) (W:World):Exit→Act→World→Prop
 | .normal,_,W'=>SameAt [N,N+1] W W'∧W.heap.size≤W'.heap.size∧SameAt Y W W'∧I xs W'
 | .ret,_,W'=>SameAt [N,N+1] W W'∧W.heap.size≤W'.heap.size∧SameAt Y W W'∧Ix .ret xs W'
 | .exit id,_,W'=>SameAt [N,N+1] W W'∧W.heap.size≤W'.heap.size∧SameAt Y W W'∧Ix (.exit id) xs W'
 | .goto t,_,W'=>SameAt [N,N+1] W W'∧W.heap.size≤W'.heap.size∧SameAt Y W W'∧Ix (.goto t) xs W'
 | .panic _,_,_=>False
 | .outgrown,_,_=>False
def TurnSeqS {α:Type} (F:Fence) (n:Nat) (P:Program) (g:Nat) (lb:Array Value) (encs:α→Array Value) (X Y:List Nat) (Sp:List α→World→Prop) (S Sx:List α→World→Prop) (w:World):Prop:=
 ∀(l:Nat) (J Jx:List α→World→Prop) (W:World),Turned [] w W→(∀xs A B,J xs A→Turned X A B→J xs B)→
  (∀pre x A,J pre A→Sp (pre++[x]) A→YieldAt F (n - 1) P l (encs x) A fun e B=>
    SameAt Y A B∧A.heap.size≤B.heap.size∧((e= .returned (.bool true)∧J (pre++[x]) B)∨(e= .returned (.bool false)∧Jx (pre++[x]) B)))→
  J [] W→
  CallsIn F n P g (#[.func (.yield l) #[] #[]]++lb) W fun e W'=>(∃v,e= .returned v)∧((∃xs,S xs W'∧J xs W')∨(∃xs,Sx xs W'∧Jx xs W'))
variable {F:Fence} {n:Nat} {P:Program}
theorem TurnSeq.s {α:Type} {g:Nat} {lb:Array Value} {encs:α→Array Value} {X Y:List Nat} {Sp:List α→Prop} {S Sx:List α→World→Prop} {w:World} (h:TurnSeq F n P g lb encs X Y Sp S Sx w):
 TurnSeqS F n P g lb encs X Y (fun xs _=>Sp xs) S Sx w:=h
theorem RoundIn.any {m k l l':Nat} {f:FuncId} {tmps:Array Value} {assign body:Code} {w:World} {R:Ending→World→Prop} (h:RoundIn Fence.wide m P l f tmps assign body w R):RoundIn (Fence.wide.inRound l') k P l f tmps assign body w R:=
 ⟨trivial,fun c cs _=>h.2 c cs (room_wide _)⟩
end Go.Proofs.Ytfmciiffcmfagaa
namespace Go.Proofs.Ytfmciiffcmfagaa
open Go.RowKit
variable {F:Fence} {n:Nat} {P:Program}
theorem range_turnsV {α:Type} {g:Operand} {ps:Array Tmp} {assign body:Code} {Q:Exit→Act→World→Prop} {a:Act} {w:World}
  (hro:F.round=none) (h1:1≤n) {gf:Nat} {lb:Array Value} (hg:a.eval g= .func (.func gf) #[] lb) (hFg:F.fn gf) (eg:∀args w,(callFunc gf args).run P w= .ok (.enter gf args) w)
  {encs:α→Array Value} {Y X:List Nat} {Sp:List α→Prop} {S Sx:List α→List Nat→World→Prop} (hX:∀k ∈ X,k < w.heap.size) (hYl:∀k ∈ Y,k < w.heap.size)
  (hseq:TurnSeqY F (n - 1) P gf lb encs Y X Sp S Sx w) (hps:∀x,(encs x).size=ps.size)
  (hS:∀xs Z A B,S xs Z A→SameAt Z A B→S xs Z B) (hSx:∀xs Z A B,Sx xs Z A→SameAt Z A B→Sx xs Z B)
  (I:List α→List Nat→World→Prop) (Ix:Code→List α→List Nat→World→Prop)
  (hI:∀xs Z Z' A B,I xs Z A→(∀k ∈ Z,k < A.heap.size)→Turned (w.heap.size::(w.heap.size+1)::Z) A B→Newer Z A.heap.size Z'→(∀k ∈ Z',k < B.heap.size)→I xs Z' B)
  (hIx:∀c xs Z Z' A B,Ix c xs Z A→(∀k ∈ Z,k < A.heap.size)→Turned (w.heap.size::(w.heap.size+1)::Z) A B→Newer Z A.heap.size Z'→(∀k ∈ Z',k < B.heap.size)→Ix c xs Z' B)
  (h0:∀W0,Turned [] w W0→w.heap.size+2≤W0.heap.size→I [] X W0) (hIY:∀xs Z W,I xs Z W→SameAt Y w W) (hIxY:∀c xs Z W,Ix c xs Z W→SameAt Y w W)
  (hsz:∀xs Z W,I xs Z W→w.heap.size+2≤W.heap.size) (t:TypeId) (cs:α→Array Value) (a₁:α→Nat→Act)
  (hassign:∀(l:Nat) (x:α) (Bk:Nat) (W:World) (K:Act→World→Prop),W.heap.size=Bk→K (a₁ x Bk) (W.alloc (.cells (cs x) t))→
    assign.wpIn (F.inRound l) (n - 1 - 1) P (Exit.then K (fun _ _ _=>False)) { tmps:=(ps.zip (encs x)).foldl (fun t (p,v)=>t.setIfInBounds p v) a.tmps,defers:=[] } W)
  (hbody:∀(l:Nat) (pre:List α) (x:α) (Z:List Nat) (Bk:Nat) (W:World),W.heap[Bk]?=some (.cells (cs x) t (0,0))→w.heap.size+2≤Bk→(∀k ∈ Z,k < W.heap.size)→I pre Z W→Sp (pre++[x])→body.wpIn (F.inRound l) (n - 1 - 1) P (leftPostW w.heap.size Z (fun xs V=>I xs Z V) (fun c xs V=>Ix c xs Z V) (pre++[x]) W) (a₁ x Bk) W)
  (hdone:∀(xs:List α) (Z:List Nat) (W:World),S xs Z W→I xs Z W→W.heap[w.heap.size]?=some (.deferred (some []))→Q .normal { a with defers:= { target:= .collected w.heap.size,args:= #[] } ::a.defers } W)
  (hstop:∀(c:Code) (xs:List α) (Z:List Nat) (W:World),Sx xs Z W→Ix c xs Z W→W.heap[w.heap.size]?=some (.deferred (some []))→c.wpIn F n P Q { a with defers:= { target:= .collected w.heap.size,args:= #[] } ::a.defers } W):
  (Code.rangeFunc g ps assign body).wpIn F n P Q a w:=by
 refine wpIn_rangeFunc fun fn hfn=>?_
 rw [hro]
 obtain⟨N,hN⟩:∃N,w.heap.size=N:=⟨_,rfl⟩
 obtain⟨R,hR⟩:∃R:LoopState→Option Code→Loop,∀st pe,R st pe= { state:=st,pending:=pe,fn,tmps:=a.tmps,params:=ps,assign,body,defers:=N } :=⟨_,fun _ _=>rfl⟩
 obtain⟨W0,hW0⟩:∃W0,(w.alloc (.deferred (some []))).alloc (.loop (R .ready none))=W0:=⟨_,rfl⟩
 have two:Turned [] w W0:=hW0 ▸ ((Turned.refl [] w).alloc _).alloc _
 have recL:W0.heap[N+1]?=some (.loop (R .ready none)):=by
  have h:=World.alloc_heap_new (w.alloc (.deferred (some []))) (.loop (R .ready none))
  rw [World.size_alloc,hN] at h
  rw [←hW0]
  exact h
 have recD:W0.heap[N]?=some (.deferred (some [])):=by
  have h:=World.alloc_heap_new w (.deferred (some []))
  rw [hN] at h
  rw [←hW0]
  exact (Below.heap_alloc _ _ _ (by simp;omega)).trans h
 rw [hN] at hI hIx hbody hdone hstop hX h0 hsz
 have hsW0:N+2≤W0.heap.size:=(Array.getElem?_eq_some_iff.1 recL).1
 have offX:∀k ∈ X,(k≠N∧k≠N+1)∧k < W0.heap.size:=fun k hk=>by have:=hX k hk;omega
 have turnZ:∀(Z:List Nat) (W:World) (o:Obj),(∀k ∈ Z,(k≠N∧k≠N+1))→SameAt Z W (W.putObj (N+1) o):=fun Z W o hz k hk=>World.putObj_heap_other (hz k hk).2
 have turnT:∀(Z:List Nat) (W:World) (o:Obj),Turned (N::(N+1)::Z) W (W.putObj (N+1) o):=fun Z W o=>(Turned.refl _ W).grown (grownBy_putObj' W (N+1) o) (fun k e=> .inl (by cases e;simp))
 have done:∀(jump:Option Code) (W:World) (st:LoopState),W.heap[N+1]?=some (.loop (R st none))→W.heap[N]?=some (.deferred (some []))→∀st',(W.putObj (N+1) (.loop (R st' jump))).heap[N+1]?=some (.loop (R st' jump))∧(W.putObj (N+1) (.loop (R st' jump))).heap[N]?=some (.deferred (some [])):=
  fun jump W st hl hd st'=>⟨World.putObj_heap_same (Array.getElem?_eq_some_iff.1 hl).1,(World.putObj_heap_other (by omega)).trans hd⟩
 refine⟨N+1,[{ target:= .collected N,args:= #[] }],W0, { target:= .fn (.func gf) lb,args:= #[.func (.yield (N+1)) #[] #[]] },W0,gf, #[.func (.yield (N+1)) #[] #[]]++lb,W0,?_,?_,?_,?_,fun _=>h1,?_⟩
 ·rw [←hW0,hR, ←hN]
  exact run_enterLoop_outer _ _ _ _ _
 ·simp only [resolve,hg]
  simp [go_sem]
 ·intro f' hf'
  simp [Target.leads] at hf'
  subst hf'
  exact hFg
 ·simp [invoke,go_sem,eg]
 have hIx':∀c xs Z A B,Ix c xs Z A→(∀k ∈ Z,k < A.heap.size)→Turned (N::(N+1)::Z) A B→Ix c xs Z B:=fun c xs Z A B h hz m=>hIx c xs Z Z A B h hz m (Newer.refl _ _) (fun k hk=>Nat.lt_of_lt_of_le (hz k hk) m.size)
 have hI':∀xs Z A B,I xs Z A→(∀k ∈ Z,k < A.heap.size)→Turned (N::(N+1)::Z) A B→I xs Z B:=fun xs Z A B h hz m=>hI xs Z Z A B h hz m (Newer.refl _ _) (fun k hk=>Nat.lt_of_lt_of_le (hz k hk) m.size)
 have upT:∀ {Z:List Nat} {A B:World},Turned Z A B→Turned (N::(N+1)::Z) A B:=fun ht=>ht.mono (fun k hk=> .inl (by simp [hk]))
 refine (hseq (N+1) (fun xs Z W=>((I xs Z W∧W.heap[N+1]?=some (.loop (R .ready none)))∧W.heap[N]?=some (.deferred (some [])))∧∀k ∈ Z,(k≠N∧k≠N+1)∧k < W.heap.size)
  (fun xs Z W=>(∃c,(Ix c xs Z W∧W.heap[N+1]?=some (.loop (R .done (some c))))∧W.heap[N]?=some (.deferred (some [])))∧∀k ∈ Z,(k≠N∧k≠N+1)∧k < W.heap.size) W0 two (fun xs Z A h k hk=>(hIY _ _ _ h.1.1.1 k hk).trans (two.block k (hYl k hk) (by simp)).symm) (fun xs Z A h k hk=>by
    obtain⟨⟨c,⟨hi,_⟩,_⟩,_⟩:=h
    exact (hIxY _ _ _ _ hi k hk).trans (two.block k (hYl k hk) (by simp)).symm) ?_ ?_ ?_ ⟨⟨⟨h0 W0 two hsW0,recL⟩,recD⟩,offX⟩).mono ?_
 ·rintro xs Z Z' A B ⟨⟨⟨hi,hl⟩,hd⟩,hz⟩ ht hnew hub
  have hsz:N+1 < A.heap.size:=(Array.getElem?_eq_some_iff.1 hl).1
  exact⟨⟨⟨hI _ _ _ _ _ hi (fun k hk=>(hz k hk).2) (upT ht) hnew hub,ht.same hl (fun hx=>(hz _ hx).1.2 rfl)⟩,ht.same hd (fun hx=>(hz _ hx).1.1 rfl)⟩,fun k hk=>by
   have hk':=hub k hk
   rcases hnew k hk with h|h
   ·exact⟨(hz k h).1,hk'⟩
   ·omega⟩
 ·rintro xs Z Z' A B ⟨⟨c,⟨hi,hl⟩,hd⟩,hz⟩ ht hnew hub
  have hsz:N+1 < A.heap.size:=(Array.getElem?_eq_some_iff.1 hl).1
  exact⟨⟨c,⟨hIx _ _ _ _ _ _ hi (fun k hk=>(hz k hk).2) (upT ht) hnew hub,ht.same hl (fun hx=>(hz _ hx).1.2 rfl)⟩,ht.same hd (fun hx=>(hz _ hx).1.1 rfl)⟩,fun k hk=>by
   have hk':=hub k hk
   rcases hnew k hk with h|h
   ·exact⟨(hz k h).1,hk'⟩
   ·omega⟩
 ·rintro pre x Z A ⟨⟨⟨hi,hl⟩,hd⟩,hz⟩ hsp
  have hy:=run_yield (P:=P) (args:=encs x) hl (by rw [hR];exact hps x)
  rw [hR] at hy
  have hAs:=hsz _ _ _ hi
  refine⟨fn,_,assign,body,hy,roundIn_of_wpIn hfn (hassign _ x A.heap.size A _ rfl ?_)⟩
  have tB:Turned [] A (A.alloc (.cells (cs x) t)):=(Turned.refl [] A).alloc _
  have hk0:=heap_alloc_new A (.cells (cs x) t)
  obtain⟨B,hB⟩:∃B,A.alloc (.cells (cs x) t)=B:=⟨_,rfl⟩
  rw [hB] at tB hk0 ⊢
  have hlB:=tB.same hl (by simp)
  have hdB:=tB.same hd (by simp)
  have hzo:∀k ∈ Z,k≠N∧k≠N+1:=fun k hk=>(hz k hk).1
  have hzA:∀k ∈ Z,k < A.heap.size:=fun k hk=>(hz k hk).2
  have hya:SameAt Z A B:=fun k hk=>tB.block k (hzA k hk) (by simp)
  have hszB:=tB.size
  have hzB:∀k ∈ Z,k < B.heap.size:=fun k hk=>Nat.lt_of_lt_of_le (hzA k hk) hszB
  refine⟨_,run_beginRound hlB (by rw [hR]),?_⟩
  have hbusy:({ R .ready none with state:= .busy } :Loop)=R .busy none:=by rw [hR,hR]
  rw [hbusy]
  obtain⟨hlC,hdC⟩:=done none B .ready hlB hdB .busy
  have hk1:(B.putObj (N+1) (.loop (R .busy none))).heap[A.heap.size]?=some (.cells (cs x) t (0,0)):=(World.putObj_heap_other (by omega)).trans hk0
  refine wpIn_mono (hbody _ pre x Z A.heap.size _ hk1 (by omega) (fun k hk=>by have:=hzB k hk;simpa using this) (hI' _ _ _ _ (hI' _ _ _ _ hi hzA (tB.mono (fun k hk=>by simp at hk))) hzB (turnT Z B _)) hsp) ?_
  have fin:∀(jump:Option Code) (C:World),SameAt [N,N+1] (B.putObj (N+1) (.loop (R .busy none))) C→(B.putObj (N+1) (.loop (R .busy none))).heap.size≤C.heap.size→SameAt Z (B.putObj (N+1) (.loop (R .busy none))) C→
    (Instr.endRound (N+1) jump).run P C= .ok (.bool jump.isNone) (C.putObj (N+1) (.loop (R (if jump.isNone then .ready else .done) jump)))∧C.heap[N+1]?=some (.loop (R .busy none))∧C.heap[N]?=some (.deferred (some []))∧
    SameAt Z A (C.putObj (N+1) (.loop (R (if jump.isNone then .ready else .done) jump)))∧A.heap.size≤(C.putObj (N+1) (.loop (R (if jump.isNone then .ready else .done) jump))).heap.size∧∀k ∈ Z,k < C.heap.size:=by
   intro jump C hk hsz' hyc
   have hl3:=(hk (N+1) (by simp)).trans hlC
   have hd3:=(hk N (by simp)).trans hdC
   have hr:=run_endRound (P:=P) jump hl3
   rw [hR] at hr
   refine⟨?_,hl3,hd3,((hya.trans (turnZ Z B _ hzo)).trans hyc).trans (turnZ Z C _ hzo),?_,fun k hk'=>?_⟩
   ·rw [hR]
    exact hr
   ·simp at hsz' ⊢
    omega
   ·have:=hzB k hk'
    simp at hsz'
    omega
  rintro e a3 C hp
  cases e with
  |normal=>
   obtain⟨hk,hsz',hyc,hi3⟩:=hp
   obtain⟨hr,hl3,hd3,hyy,hsz,hzC⟩:=fin none C hk hsz' hyc
   obtain⟨e1,e2⟩:=done none C .busy hl3 hd3 .ready
   exact⟨_,_,hr,hyy,hsz, .inl ⟨rfl,⟨⟨hI' _ _ _ _ hi3 hzC (turnT Z C _),e1⟩,e2⟩,fun k hk'=>⟨hzo k hk',Nat.lt_of_lt_of_le (hzA k hk') hsz⟩⟩⟩
  |ret=>
   obtain⟨hk,hsz',hyc,hi3⟩:=hp
   obtain⟨hr,hl3,hd3,hyy,hsz,hzC⟩:=fin (some .ret) C hk hsz' hyc
   obtain⟨e1,e2⟩:=done (some .ret) C .busy hl3 hd3 .done
   exact⟨_,_,hr,hyy,hsz, .inr ⟨rfl,⟨.ret,⟨hIx' _ _ _ _ _ hi3 hzC (turnT Z C _),e1⟩,e2⟩,fun k hk'=>⟨hzo k hk',Nat.lt_of_lt_of_le (hzA k hk') hsz⟩⟩⟩
  |exit id=>
   obtain⟨hk,hsz',hyc,hi3⟩:=hp
   obtain⟨hr,hl3,hd3,hyy,hsz,hzC⟩:=fin (some (.exit id)) C hk hsz' hyc
   obtain⟨e1,e2⟩:=done (some (.exit id)) C .busy hl3 hd3 .done
   exact⟨_,_,hr,hyy,hsz, .inr ⟨rfl,⟨.exit id,⟨hIx' _ _ _ _ _ hi3 hzC (turnT Z C _),e1⟩,e2⟩,fun k hk'=>⟨hzo k hk',Nat.lt_of_lt_of_le (hzA k hk') hsz⟩⟩⟩
  |goto t=>
   obtain⟨hk,hsz',hyc,hi3⟩:=hp
   obtain⟨hr,hl3,hd3,hyy,hsz,hzC⟩:=fin (some (.goto t)) C hk hsz' hyc
   obtain⟨e1,e2⟩:=done (some (.goto t)) C .busy hl3 hd3 .done
   exact⟨_,_,hr,hyy,hsz, .inr ⟨rfl,⟨.goto t,⟨hIx' _ _ _ _ _ hi3 hzC (turnT Z C _),e1⟩,e2⟩,fun k hk'=>⟨hzo k hk',Nat.lt_of_lt_of_le (hzA k hk') hsz⟩⟩⟩
  |panic ch=>exact hp.elim
  |outgrown=>exact hp.elim
 ·rintro e W2 ⟨⟨v,rfl⟩,⟨xs,Z,hs,⟨⟨hi,hl⟩,hd⟩,hz⟩ |⟨xs,Z,hs,⟨c,⟨hi,hl⟩,hd⟩,hz⟩⟩
  ·have hr:=run_endLoop (P:=P) hl (by rw [hR];simp)
   rw [hR] at hr
   exact⟨none,_,hr,hdone xs Z _ (hS _ _ _ _ hs (turnZ Z W2 _ (fun k hk=>(hz k hk).1))) (hI' _ _ _ _ hi (fun k hk=>(hz k hk).2) (turnT Z W2 _)) ((World.putObj_heap_other (by omega)).trans hd)⟩
  ·have hr:=run_endLoop (P:=P) hl (by rw [hR];simp)
   rw [hR] at hr
   exact⟨some c,_,hr,hstop c xs Z _ (hSx _ _ _ _ hs (turnZ Z W2 _ (fun k hk=>(hz k hk).1))) (hIx' _ _ _ _ _ hi (fun k hk=>(hz k hk).2) (turnT Z W2 _)) ((World.putObj_heap_other (by omega)).trans hd)⟩
end Go.Proofs.Ytfmciiffcmfagaa
namespace Go.Proofs.Ytfmciiffcmfagaa
open Go.RowKit
theorem ofN_at:∀ {l:List Rq} {id:Int} {k:Nat} {q:Rq},l[k]?=some q→(findQ q.l id).isSome=true→(∀(j:Nat) (r:Rq),j < k→l[j]?=some r→(findQ r.l id).isSome=false)→ofN l id=some k
 |[],id,k,q,h,_,_=>by cases h
 |r::l,id,0,q,h,h1,_=>by
  simp only [List.getElem?_cons_zero,Option.some.injEq] at h
  subst h
  unfold ofN
  rw [if_pos h1]
 |r::l,id,k+1,q,h,h1,h2=>by
  have h0:=h2 0 r (by omega) rfl
  have ih:=ofN_at (l:=l) (id:=id) (k:=k) (q:=q) (by simpa using h) h1 fun j s hj hs=>h2 (j+1) s (by omega) (by simpa using hs)
  unfold ofN
  rw [if_neg (by rw [h0];exact Bool.false_ne_true),ih]
  rfl
theorem ofN_no:∀ {l:List Rq} {id:Int},(∀q ∈ l,(findQ q.l id).isSome=false)→ofN l id=none
 |[],id,_=>rfl
 |r::l,id,h=>by
  have ih:=ofN_no (l:=l) (id:=id) fun q hq=>h q (List.mem_cons_of_mem _ hq)
  unfold ofN
  rw [if_neg (by rw [h r (by simp)];exact Bool.false_ne_true),ih]
  rfl
theorem allC_take {l:List Rq} {k:Nat} {q:Rq} (h:l[k]?=some q):allC (l.take (k+1))=allC (l.take k)+q.l.length:=by
 have e:l.take (k+1)=l.take k++[q]:=by
  rw [List.take_add_one,h]
  rfl
 rw [e]
 clear e h
 induction l.take k with
 |nil=>simp [allC]
 |cons r t ih=>rw [List.cons_append,allC_cons,allC_cons,ih];omega
theorem allC_take_le (l:List Rq) (k:Nat):allC (l.take k)≤allC l:=by
 induction l generalizing k with
 |nil=>simp [allC]
 |cons r t ih=>
  cases k with
  |zero=>simp [allC]
  |succ k=>
   have:=ih k
   rw [List.take_succ_cons,allC_cons,allC_cons]
   omega
theorem modify_set {l:List Rq} {k:Nat} {q:Rq} (h:l[k]?=some q) (f:Rq→Rq):l.modify k f=l.set k (f q):=by
 apply List.ext_getElem?
 intro j
 rw [List.getElem?_set]
 by_cases hkj:k=j
 ·subst hkj
  have hl:k < l.length:=(List.getElem?_eq_some_iff.1 h).1
  rw [modify_same,h,if_pos rfl,if_pos hl]
  rfl
 ·rw [modify_other hkj,if_neg hkj]
theorem ofC_none {l:List Rq} {id:Int} (h:ofN l id=none):ofC l id= -1:=by unfold ofC;rw [h]
theorem ofC_some {l:List Rq} {id:Int} {k:Nat} (h:ofN l id=some k):ofC l id=k:=by unfold ofC;rw [h]
theorem addC_no {l:List Rq} {core id v w:Int} (h:addCE l core id≠0):addC l core id v w=l∧addCV l core id v w=0:=by
 unfold addC addCV
 rw [if_neg h,if_neg h]
 exact⟨rfl,rfl⟩
theorem sub_max (a b:Int):max 0 (a - b)=subV a b:=by
 unfold subV
 split<;>omega
theorem Turned.cell0 {a b:World} (t:Turned [] a b) {p:Addr} {v:Value} (h:a.cell? p=some v):b.cell? p=some v:=
 ((t.below (by simp) (Nat.le_refl _)).cell (World.block_lt_of_cell? a p h)).trans h
theorem goC_sets {l:List Rq} {id:Int} {k t:Nat} {q r:Rq} {x:Int×Int} (hk:l[k]?=some q) (hf:findQ q.l id=some x) (hr:l[t]?=some r) (hkt:k≠t):
  goC l id k t=(l.set k (q.remove id)).set t (r.add id (satV (r.f+subV x.1 q.f)) x.2):=by
 rw [goC_eq hk hf,modify_set hk,modify_set (q:=r) (by rw [List.getElem?_set_ne hkt];exact hr),sub_max]
theorem sub_word {a b:Int} (ha:Word a) (hb:Word b):Word (subV a b):=by
 obtain⟨a0,a1⟩:=ha
 obtain⟨b0,b1⟩:=hb
 unfold subV Word
 split<;>omega
theorem sum_range:∀ {t:List Tk},(∀x ∈ t,1≤x.2.2∧x.2.2≤4096)→0≤sumR (t.map (·.2.2))∧sumR (t.map (·.2.2))≤4096*t.length
 |[],_=>by simp [sumR]
 |y::t,h=>by
  have ih:=sum_range (t:=t) fun x hx=>h x (List.mem_cons_of_mem _ hx)
  have hy:=h y (by simp)
  have e0:sumR ((y::t).map (·.2.2))=y.2.2+sumR (t.map (·.2.2)):=by simp [sumR]
  rw [e0,List.length_cons]
  omega
theorem load_range {q:Rq} {c:Int} (h:QOk q c):0≤loadQ q∧loadQ q≤65536:=by
 have h1:=sum_range h.wt
 have h2:=h.len
 have h3:loadQ q=sumR (q.l.map (·.2.2)):=rfl
 rw [h3]
 generalize sumR (q.l.map (·.2.2))=s at h1 ⊢
 omega
theorem loadAt_range {l:List Rq} {c:Int} (h:COk l c) (i:Nat):0≤loadAt l i∧loadAt l i≤65536:=by
 unfold loadAt
 cases hi:l[i]? with
 |none=>simp
 |some q=>exact load_range (h.ok q (mem_at hi))
theorem readyAt_some {l:List Rq} {i:Nat} {q:Rq} (h:l[i]?=some q):readyAt l i=sortQ q.ready:=by
 unfold readyAt
 rw [h]
 rfl
theorem mostTo_succ (l:List Rq) (k:Nat):mostTo l (k+1)=if loadAt l (mostTo l k) < loadAt l k then k else mostTo l k:=rfl
theorem leastTo_succ (l:List Rq) (k:Nat):leastTo l (k+1)=if loadAt l k < loadAt l (leastTo l k) then k else leastTo l k:=rfl
end Go.Proofs.Ytfmciiffcmfagaa
