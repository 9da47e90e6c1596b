/-
  Shares by weight, plainly: who is ahead of a floor by no more than a reach has a fair share. No program.
  The document's Bring, Core, Lock, Reach, Slack, Clamp.
  Sets of small numbers, as bits of plain whole numbers. No program.
  Ledgers plainly: parties with a weight, a V, ticks held, active or not. No program.
  Ledgers plainly: who is at the floor or above; how many ticks one is behind. No program.
  Ledgers plainly: the ticks that others are behind a party, one by one. No program.
  The document's sets: Has, With, Without.
  append onto a row of one's own: where the longer row lies. No program.
  A list of like things, its cells in a row of one's own that a field of a block holds: what appends, removals and stores make of it. No program.
  The document's ledger in memory: Is, Active, Least, Behind.
  The document's ledger in memory: Least, Behind.
  What a round of a loop over a function may turn. No program.
  A loop over a function that turns memory of its own between two rounds (a heap that is popped): its contract, and the caller's law. No program.
  Inside a round of a loop over a function: a region that draws its order, walked as outside of it. No program.
  What is told of cells abides the steps of a loop over a function; a region with calls in a round; a bool that is answered out of a cell. No program.
-/
import Derived.Test.YtcgjbllmoglhfaaDoorChecked
import Derived.Test.YtcgjbllmoglhfaaDoorZAA
import Derived.Laws.Bits64
import Derived.Laws.Bits64b
import Derived.WalkKit
import Derived.Lib.Hide
import Derived.Deep.QuietTactic
import Derived.BigQuiet
import Derived.OwnWalk
import Derived.ArgAppend
import Derived.Laws.AppendOwnNone
import Derived.Maps.AppendAt
import Derived.RegionTactic
import Derived.RangeFuncNested
import Derived.RangeFuncBound
import Derived.RangeFuncCalls
import Derived.RangeFuncLeaves
import Derived.RangeFuncBox
import Derived.RangeFuncWrites
import Derived.StillTailTactics
import Derived.OrdersIn
import Derived.Deep.RegionHeld3
import Derived.Shelf.Abstract
import Derived.Test.YtcgjbllmoglhfaaDoorZAl
set_option maxRecDepth 100000
set_option maxHeartbeats 25600000
namespace Go.Proofs.YtcgjbllmoglhfaaDoor
def bringR (n lo hi:Int):Int:=if n < lo then lo else if hi < n then hi else n
theorem bring_in {n lo hi:Int} (h0:lo≤n) (h1:n≤hi):bringR n lo hi=n:=by
 unfold bringR
 rw [if_neg (by omega),if_neg (by omega)]
theorem bring_range {n lo hi:Int} (h:lo≤hi):lo≤bringR n lo hi∧bringR n lo hi≤hi:=by
 unfold bringR
 split
 ·omega
 ·split<;>omega
def upDiv (x a:Int):Int:=if 0 < x % a then x / a+1 else x / a
theorem updiv_le {x a k:Int} (ha:0 < a) (h:x≤k*a):upDiv x a≤k:=by
 unfold upDiv
 have h1:x=a*(x / a)+x % a:=(Int.mul_ediv_add_emod x a).symm
 have h2:=Int.emod_nonneg x (show a≠0 by omega)
 have h3:=Int.emod_lt_of_pos x ha
 have hk:x / a≤k:=by
  rw [Int.mul_comm] at h
  exact Int.ediv_le_of_le_mul ha (by rw [Int.mul_comm];exact h)
 split
 ·next hp=>
  rcases Int.lt_or_le (x / a) k with h4|h4
  ·omega
  ·exfalso
   have h5:x / a=k:=by omega
   rw [h5,Int.mul_comm a k] at h1
   omega
 ·exact hk
end Go.Proofs.YtcgjbllmoglhfaaDoor
namespace Go.Proofs.YtcgjbllmoglhfaaDoor
open Go.RowKit
def lockR (n:Int):Int:=720720 / bringR n 1 16
def slackR (n s c:Int):Int:=lockR n*(bringR s 1 32+bringR c 1 32)
def clampR (v f r:Int):Int:=if v < f then f else if satV (f+r) < v then satV (f+r) else v
theorem lock_range (n:Int):0≤lockR n∧lockR n≤720720:=by
 unfold lockR
 have:=bring_range (n:=n) (lo:=1) (hi:=16) (by decide)
 constructor
 ·exact Int.ediv_nonneg (by decide) (by omega)
 ·exact Int.ediv_le_self _ (by decide)
theorem slack_range (n s c:Int):0≤slackR n s c∧slackR n s c≤46126080:=by
 unfold slackR
 have h1:=lock_range n
 have h2:=bring_range (n:=s) (lo:=1) (hi:=32) (by decide)
 have h3:=bring_range (n:=c) (lo:=1) (hi:=32) (by decide)
 obtain⟨l,hl⟩:∃l,lockR n=l:=⟨_,rfl⟩
 obtain⟨b,hb⟩:∃b,bringR s 1 32+bringR c 1 32=b:=⟨_,rfl⟩
 have h4:0≤b∧b≤64:=by omega
 rw [hl] at h1 ⊢
 rw [hb]
 constructor
 ·exact Int.mul_nonneg h1.1 h4.1
 ·have:=Int.mul_le_mul h1.2 h4.2 h4.1 (by omega)
  omega
theorem bring_any (n lo hi:Int) (w:World):Calls Tryd.prog 28 #[.int .i64 n, .int .i64 lo, .int .i64 hi] w fun e w'=>e= .returned (.int .i64 (bringR n lo hi))∧w'=w:=by
 unfold bringR
 by_cases h1:n < lo
 ·rw [if_pos h1]
  go_enter Tryd.func28,Tryd.ntmps28
  go_wp2
  go_ret
  exact⟨rfl,rfl⟩
 ·rw [if_neg h1]
  by_cases h2:hi < n
  ·rw [if_pos h2]
   go_enter Tryd.func28,Tryd.ntmps28
   go_wp2
   go_ret
   exact⟨rfl,rfl⟩
  ·rw [if_neg h2]
   go_enter Tryd.func28,Tryd.ntmps28
   go_wp2
   go_ret
   exact⟨rfl,rfl⟩
theorem rlock_any (n:Int) (w:World):Calls Tryd.prog 32 #[.int .i64 n] w fun e w'=>e= .returned (.int .u64 (lockR n))∧w'=w:=by
 have HB:=xhd (bring_any n 1 16 w)
 have hr:=lock_range n
 have hb:=bring_range (n:=n) (lo:=1) (hi:=16) (by decide)
 unfold lockR at hr ⊢
 obtain⟨b,hbb⟩:∃b,bringR n 1 16=b:=⟨_,rfl⟩
 rw [hbb] at HB hr hb ⊢
 have hw:IntKind.u64.wrap b=b:=by rw [IntKind.wrap_u64];omega
 have hq:(720720:Int).tdiv b=720720 / b:=Int.tdiv_eq_ediv_of_nonneg (by decide)
 obtain⟨q,hqq⟩:∃q,720720 / b=q:=⟨_,rfl⟩
 rw [hqq] at hq hr ⊢
 have hw2:IntKind.u64.wrap q=q:=by rw [IntKind.wrap_u64];omega
 have hn:¬b=0:=by omega
 clear hbb hqq
 go_enter Tryd.func32,Tryd.ntmps32
 go_wp2_with fail
 with_reducible refine HB.out.mono ?_
 rintro e w1 ⟨rfl,rfl⟩
 go_wp2
 go_ret
 exact⟨rfl,rfl⟩
theorem rslack_any (n s c:Int) (w:World):Calls Tryd.prog 39 #[.int .i64 n, .int .i64 s, .int .i64 c] w fun e w'=>e= .returned (.int .u64 (slackR n s c))∧w'=w:=by
 have HB:=xhd (bring_any s 1 32 w)
 have HC:=xhd (bring_any c 1 32 w)
 have HL:=xhd (rlock_any n w)
 have hr:=slack_range n s c
 have h2:=bring_range (n:=s) (lo:=1) (hi:=32) (by decide)
 have h3:=bring_range (n:=c) (lo:=1) (hi:=32) (by decide)
 unfold slackR at hr ⊢
 obtain⟨b,hbb⟩:∃b,bringR s 1 32=b:=⟨_,rfl⟩
 obtain⟨d,hdd⟩:∃d,bringR c 1 32=d:=⟨_,rfl⟩
 obtain⟨l,hll⟩:∃l,lockR n=l:=⟨_,rfl⟩
 rw [hbb] at HB hr h2 ⊢
 rw [hdd] at HC hr h3 ⊢
 rw [hll] at HL hr ⊢
 have hs:IntKind.i64.wrap (b+d)=b+d:=by rw [IntKind.wrap_i64];omega
 obtain⟨e,he⟩:∃e,b+d=e:=⟨_,rfl⟩
 rw [he] at hs hr ⊢
 have hw:IntKind.u64.wrap e=e:=by rw [IntKind.wrap_u64];omega
 have hw2:IntKind.u64.wrap (l*e)=l*e:=by
  obtain⟨q,hq⟩:∃q,l*e=q:=⟨_,rfl⟩
  rw [hq] at hr ⊢
  rw [IntKind.wrap_u64];omega
 clear hbb hdd hll hr
 go_enter Tryd.func39,Tryd.ntmps39
 go_wp2_with fail
 with_reducible refine HL.out.mono ?_
 rintro r w1 ⟨rfl,rfl⟩
 go_wp2_with fail
 with_reducible refine HB.out.mono ?_
 rintro r w2 ⟨rfl,rfl⟩
 go_wp2_with fail
 with_reducible refine HC.out.mono ?_
 rintro r w3 ⟨rfl,rfl⟩
 go_wp2
 go_ret
 exact⟨rfl,rfl⟩
theorem rclamp_any (v f r:Int) (hf:Word f) (hr:Word r) (w:World):Calls Tryd.prog 38 #[.int .u64 v, .int .u64 f, .int .u64 r] w fun e w'=>e= .returned (.int .u64 (clampR v f r))∧Below w.heap.size w w':=by
 have HA:=xhd (refadd_any f r hf hr w)
 unfold clampR
 by_cases h1:v < f
 ·rw [if_pos h1]
  go_enter Tryd.func38,Tryd.ntmps38
  go_wp2
  go_ret
  exact⟨rfl,Below.refl _ _⟩
 ·rw [if_neg h1]
  obtain⟨s,hs⟩:∃s,satV (f+r)=s:=⟨_,rfl⟩
  rw [hs] at HA ⊢
  by_cases h2:s < v
  ·rw [if_pos h2]
   go_enter Tryd.func38,Tryd.ntmps38
   go_wp2_with fail
   with_reducible refine HA.out.mono ?_
   rintro e w1 ⟨rfl,hb⟩
   have HB:=xhd hb
   clear hb
   go_wp2
   go_ret
   exact⟨rfl,HB.out⟩
  ·rw [if_neg h2]
   go_enter Tryd.func38,Tryd.ntmps38
   go_wp2_with fail
   with_reducible refine HA.out.mono ?_
   rintro e w1 ⟨rfl,hb⟩
   have HB:=xhd hb
   clear hb
   go_wp2
   go_ret
   exact⟨rfl,HB.out⟩
end Go.Proofs.YtcgjbllmoglhfaaDoor
namespace Go.Proofs.YtcgjbllmoglhfaaDoor
def okI (i:Int):Bool:=decide (0≤i∧i < 64)
def hasN (s:Nat) (i:Int):Bool:=okI i&&s.testBit i.toNat
def withN (s:Nat) (i:Int):Nat:=if okI i then s|||2 ^ i.toNat else s
def withoutN (s:Nat) (i:Int):Nat:=if hasN s i then s ^^^ 2 ^ i.toNat else s
def listN (s:Nat):List Int:=((List.range 64).filter fun k=>s.testBit k).map fun k:Nat=>(k:Int)
theorem add_bit_or {s k:Nat} (h:s.testBit k=false):s+2 ^ k=s|||2 ^ k:=by
 have e:s&&& 2 ^ k=0:=by
  refine Nat.eq_of_testBit_eq fun j=>?_
  rw [Nat.testBit_and,Nat.testBit_two_pow,Nat.zero_testBit]
  by_cases hj:k=j
  ·subst hj;simp [h]
  ·simp [hj]
 have hs:=Nat.lt_two_pow_self (n:=s)
 have hk:=Nat.lt_two_pow_self (n:=k)
 have hb:BitVec.ofNat (s+k+2) s+BitVec.ofNat (s+k+2) (2 ^ k)=BitVec.ofNat (s+k+2) s|||BitVec.ofNat (s+k+2) (2 ^ k):=by
  refine BitVec.add_eq_or_of_and_eq_zero _ _ ?_
  rw [←BitVec.ofNat_and,e]
 have h1:s < 2 ^ (s+k):=Nat.lt_of_lt_of_le hs (Nat.pow_le_pow_right (by decide) (by omega))
 have h2:2 ^ k≤2 ^ (s+k):=Nat.pow_le_pow_right (by decide) (by omega)
 have h3:2 ^ (s+k+2)=2 ^ (s+k)*4:=by rw [Nat.pow_add]
 have h4:=congrArg BitVec.toNat hb
 rw [BitVec.toNat_add,BitVec.toNat_or,BitVec.toNat_ofNat,BitVec.toNat_ofNat,Nat.mod_eq_of_lt (a:=s) (by omega),Nat.mod_eq_of_lt (a:=2 ^ k) (by omega),Nat.mod_eq_of_lt (by omega)] at h4
 exact h4
theorem withN_lt {s:Nat} {i:Int} (h:s < 18446744073709551616):withN s i < 18446744073709551616:=by
 unfold withN
 split
 ·rename_i hi
  simp [okI] at hi
  exact Nat.or_lt_two_pow (n:=64) h (Nat.pow_lt_pow_right (by decide) (by omega))
 ·exact h
theorem withoutN_lt {s:Nat} {i:Int} (h:s < 18446744073709551616):withoutN s i < 18446744073709551616:=by
 unfold withoutN
 split
 ·rename_i hi
  simp [hasN,okI] at hi
  exact Nat.xor_lt_two_pow (n:=64) h (Nat.pow_lt_pow_right (by decide) (by omega))
 ·exact h
theorem bit_with (s:Nat) (i:Int) (k:Nat):(withN s i).testBit k=(s.testBit k||(okI i&&decide (i.toNat=k))):=by
 unfold withN
 split
 ·rename_i hi
  rw [Nat.testBit_or,Nat.testBit_two_pow,hi,Bool.true_and]
 ·rename_i hi
  simp at hi
  simp [hi]
theorem bit_without (s:Nat) (i:Int) (k:Nat):(withoutN s i).testBit k=(s.testBit k&&!(okI i&&decide (i.toNat=k))):=by
 unfold withoutN
 by_cases h:hasN s i=true
 ·rw [if_pos h,Nat.testBit_xor,Nat.testBit_two_pow]
  simp only [hasN,Bool.and_eq_true] at h
  by_cases hk:i.toNat=k
  ·subst hk;simp [h.1,h.2]
  ·simp [hk]
 ·rw [if_neg h]
  simp only [hasN,Bool.and_eq_true,not_and] at h
  by_cases ho:okI i=true
  ·have:=h ho
   by_cases hk:i.toNat=k
   ·subst hk;simp_all
   ·simp [hk]
  ·simp at ho;simp [ho]
theorem has_with (s:Nat) (i k:Int):hasN (withN s i) k=(hasN s k||(okI k&&decide (i=k))):=by
 unfold hasN
 rw [bit_with]
 by_cases hk:okI k=true
 ·rw [hk]
  simp only [Bool.true_and]
  by_cases hi:okI i=true
  ·rw [hi]
   simp [okI] at hi hk
   by_cases e:i=k
   ·subst e;simp
   ·have:¬i.toNat=k.toNat:=by omega
    simp [e,this]
  ·have e:¬i=k:=fun e=>hi (e ▸ hk)
   simp at hi
   simp [hi,e]
 ·simp at hk;simp [hk]
end Go.Proofs.YtcgjbllmoglhfaaDoor
namespace Go.Proofs.YtcgjbllmoglhfaaDoor
abbrev Pty:=Int×Int×Int×Bool
structure Lg where
 l:List Pty
 s:Int
 c:Int
 f:Int
def Lg.new (ws:List Int) (s c:Int):Lg:=⟨(ws.take 8).map fun w=>(bringR w 1 16,0,0,false),bringR s 1 32,bringR c 1 32,0⟩
def isP (g:Lg) (p:Int):Bool:=decide (0≤p)&&decide (p < g.l.length)
def chargeP (x:Pty):Pty:=(x.1,satV (x.2.1+lockR x.1),x.2.2.1+1,x.2.2.2)
def Lg.charge (g:Lg) (p:Int):Lg:=if isP g p=true then { g with l:=g.l.modify p.toNat chargeP } else g
def setP (g:Lg) (S:Nat) (p:Nat) (x:Pty):Pty:=(x.1,if hasN S p=true∧x.2.2.2=false then clampR x.2.1 g.f (slackR x.1 g.s g.c) else x.2.1,x.2.2.1,hasN S p)
def setTo (g:Lg) (S:Nat):Nat→List Pty
 |0=>g.l
 |k+1=>(setTo g S k).modify k (setP g S k)
def minTo (l:List Pty) (S:Nat):Nat→Option Int
 |0=>none
 |k+1=>match l[k]? with
  |none=>minTo l S k
  |some x=>if hasN S k=true then (match minTo l S k with
    |none=>some x.2.1
    |some m=>if x.2.1 < m then some x.2.1 else some m) else minTo l S k
def Lg.settle (g:Lg) (S:Nat):Lg:=
 { g with l:=setTo g S g.l.length,f:=match minTo (setTo g S g.l.length) S g.l.length with
  |none=>g.f
  |some m=>if g.f < m then m else g.f }
def weighP (g:Lg) (w:Int) (x:Pty):Pty:=if bringR w 1 16=x.1 then x else (bringR w 1 16,clampR x.2.1 g.f (lockR (bringR w 1 16)*g.s),x.2.2.1,x.2.2.2)
def Lg.weigh (g:Lg) (p w:Int):Lg:=if isP g p=true then { g with l:=g.l.modify p.toNat (weighP g w) } else g
def vAt (l:List Pty) (p:Int):Int:=if p < 0 then 0 else ((l[p.toNat]?).map (·.2.1)).getD 0
def heldAt (l:List Pty) (p:Int):Int:=if p < 0 then 0 else ((l[p.toNat]?).map (·.2.2.1)).getD 0
def wtAt (l:List Pty) (p:Int):Int:=if p < 0 then 0 else ((l[p.toNat]?).map (·.1)).getD 0
def bestTo (l:List Pty) (S:Nat):Nat→Int
 |0=> -1
 |k+1=>if hasN S k=true∧(bestTo l S k < 0∨vAt l k < vAt l (bestTo l S k)) then k else bestTo l S k
def Lg.least (g:Lg) (S:Nat):Int:=bestTo g.l S g.l.length
def actTo (l:List Pty):Nat→Nat
 |0=>0
 |k+1=>match l[k]? with
  |none=>actTo l k
  |some x=>if x.2.2.2=true then withN (actTo l k) k else actTo l k
def Lg.active (g:Lg):Nat:=actTo g.l g.l.length
def gapAt (l:List Pty) (p k:Int):Int:=if vAt l p≤vAt l k then 0 else upDiv (vAt l p - vAt l k) (lockR (wtAt l k))
def behindTo (l:List Pty) (p:Int) (S:Nat):Nat→Int
 |0=>0
 |k+1=>if (k:Int)≠p∧hasN S k=true then behindTo l p S k+gapAt l p k else behindTo l p S k
def Lg.behind (g:Lg) (p:Int) (S:Nat):Int:=if isP g p=true then behindTo g.l p S g.l.length else 0
structure LgOk (g:Lg) (n:Int):Prop where
 len:g.l.length≤8
 wt:∀x ∈ g.l,1≤x.1∧x.1≤16
 v:∀x ∈ g.l,Word x.2.1
 held:∀x ∈ g.l,0≤x.2.2.1∧x.2.2.1≤n
 s:1≤g.s∧g.s≤32
 c:1≤g.c∧g.c≤32
 f:Word g.f
section
variable {g:Lg} {n m:Int} {l:List Pty} {S k:Nat} {x:Pty} {p w:Int}
theorem mem_modify {α:Type} {f:α→α} :∀ {l:List α} {k:Nat} {y:α},y ∈ l.modify k f→y ∈ l∨∃x ∈ l,y=f x
 |[],k,y,h=>by simp at h
 |x::l,0,y,h=>by
  rw [List.modify_zero_cons,List.mem_cons] at h
  rcases h with rfl|h
  ·exact .inr ⟨x,by simp,rfl⟩
  ·exact .inl (List.mem_cons_of_mem _ h)
 |x::l,k+1,y,h=>by
  rw [List.modify_succ_cons,List.mem_cons] at h
  rcases h with rfl|h
  ·exact .inl (by simp)
  ·rcases mem_modify h with h|⟨z,hz,e⟩
   ·exact .inl (List.mem_cons_of_mem _ h)
   ·exact .inr ⟨z,List.mem_cons_of_mem _ hz,e⟩
theorem word_zero:Word 0:=by unfold Word;omega
theorem sat_word18 {x:Int} (h:0≤x):Word (satV x):=by
 unfold satV Word
 split<;>omega
theorem clamp_word18 {v f r:Int} (hv:Word v) (hf:Word f) (hr:0≤r):Word (clampR v f r)∧f≤clampR v f r:=by
 have h:=sat_word18 (x:=f+r) (by have:=hf.1;omega)
 have h1:f≤satV (f+r):=by have:=hf.2;unfold satV;split<;>omega
 unfold clampR
 split
 ·exact⟨hf,Int.le_refl _⟩
 ·split
  ·exact⟨h,h1⟩
  ·exact⟨hv,by omega⟩
theorem new_ok (ws:List Int) (s c:Int):LgOk (Lg.new ws s c) 0 where
 len:=by simp [Lg.new];omega
 wt:=fun x hx=>by
  obtain⟨w,_,rfl⟩:=List.mem_map.1 hx
  exact bring_range (by decide)
 v:=fun x hx=>by
  obtain⟨w,_,rfl⟩:=List.mem_map.1 hx
  exact word_zero
 held:=fun x hx=>by
  obtain⟨w,_,rfl⟩:=List.mem_map.1 hx
  exact⟨Int.le_refl _,Int.le_refl _⟩
 s:=bring_range (by decide)
 c:=bring_range (by decide)
 f:=word_zero
theorem LgOk.later (h:LgOk g n) (hn:n≤m):LgOk g m:=⟨h.len,h.wt,h.v,fun x hx=>⟨(h.held x hx).1,Int.le_trans (h.held x hx).2 hn⟩,h.s,h.c,h.f⟩
theorem LgOk.charge (h:LgOk g n) (p:Int):LgOk (g.charge p) (n+1):=by
 unfold Lg.charge
 split
 ·refine⟨by simpa using h.len,fun x hx=>?_,fun x hx=>?_,fun x hx=>?_,h.s,h.c,h.f⟩
  ·rcases mem_modify hx with hx|⟨y,hy,rfl⟩
   ·exact h.wt x hx
   ·exact h.wt y hy
  ·rcases mem_modify hx with hx|⟨y,hy,rfl⟩
   ·exact h.v x hx
   ·exact sat_word18 (by have:=(h.v y hy).1;have:=lock_range y.1;omega)
  ·rcases mem_modify hx with hx|⟨y,hy,rfl⟩
   ·have:=h.held x hx;omega
   ·have:=h.held y hy
    show 0≤y.2.2.1+1∧y.2.2.1+1≤n+1
    omega
 ·exact h.later (by omega)
theorem setTo_len (g:Lg) (S k:Nat):(setTo g S k).length=g.l.length:=by
 induction k with
 |zero=>rfl
 |succ k ih=>rw [setTo,List.length_modify,ih]
theorem setTo_mem (h:LgOk g n):∀k,∀x ∈ setTo g S k,(1≤x.1∧x.1≤16)∧Word x.2.1∧0≤x.2.2.1∧x.2.2.1≤n
 |0,x,hx=>⟨h.wt x hx,h.v x hx,h.held x hx⟩
 |k+1,x,hx=>by
  rcases mem_modify hx with hx|⟨y,hy,rfl⟩
  ·exact setTo_mem h k x hx
  ·obtain⟨h1,h2,h3⟩:=setTo_mem h k y hy
   refine⟨h1,?_,h3⟩
   show Word (if _ then _ else _)
   split
   ·exact (clamp_word18 h2 h.f (slack_range _ _ _).1).1
   ·exact h2
theorem minTo_mem:∀k {m:Int},minTo l S k=some m→∃x ∈ l,x.2.1=m
 |0,m,h=>by cases h
 |k+1,m,h=>by
  unfold minTo at h
  cases hx:l[k]? with
  |none=>rw [hx] at h;exact minTo_mem k h
  |some x=>
   have hm:x ∈ l:=List.mem_iff_getElem?.2 ⟨k,hx⟩
   rw [hx] at h
   simp only at h
   split at h
   ·cases hk:minTo l S k with
    |none=>rw [hk] at h;exact⟨x,hm,Option.some.inj h⟩
    |some m'=>
     rw [hk] at h
     simp only at h
     split at h
     ·exact⟨x,hm,Option.some.inj h⟩
     ·rw [←Option.some.inj h];exact minTo_mem k hk
   ·exact minTo_mem k h
theorem LgOk.settle (h:LgOk g n) (S:Nat):LgOk (g.settle S) n:=by
 have hm:=setTo_mem (S:=S) h g.l.length
 refine⟨by show (setTo g S _).length≤8;rw [setTo_len];exact h.len,fun x hx=>(hm x hx).1,fun x hx=>(hm x hx).2.1,fun x hx=>(hm x hx).2.2,h.s,h.c,?_⟩
 show Word (match minTo (setTo g S g.l.length) S g.l.length with
  |none=>g.f
  |some m=>if g.f < m then m else g.f)
 cases hk:minTo (setTo g S g.l.length) S g.l.length with
 |none=>exact h.f
 |some m=>
  obtain⟨x,hx,rfl⟩:=minTo_mem _ hk
  simp only
  split
  ·exact (hm x hx).2.1
  ·exact h.f
theorem lock_pos {w:Int} (h0:1≤w) (h1:w≤16):45045≤lockR w:=by
 unfold lockR
 rw [bring_in h0 h1]
 exact Int.le_ediv_of_mul_le (by omega) (by omega)
theorem weighP_ok (h:LgOk g n) (hx:x ∈ g.l) (w:Int):(1≤(weighP g w x).1∧(weighP g w x).1≤16)∧Word (weighP g w x).2.1∧0≤(weighP g w x).2.2.1∧(weighP g w x).2.2.1≤n:=by
 unfold weighP
 split
 ·exact⟨h.wt x hx,h.v x hx,h.held x hx⟩
 ·refine⟨bring_range (by decide),(clamp_word18 (h.v x hx) h.f ?_).1,h.held x hx⟩
  have h1:=lock_range (bringR w 1 16)
  exact Int.mul_nonneg h1.1 (by have:=h.s;omega)
theorem LgOk.weigh (h:LgOk g n) (p w:Int):LgOk (g.weigh p w) n:=by
 unfold Lg.weigh
 split
 ·refine⟨by simpa using h.len,fun x hx=>?_,fun x hx=>?_,fun x hx=>?_,h.s,h.c,h.f⟩
  ·rcases mem_modify hx with hx|⟨y,hy,rfl⟩
   ·exact h.wt x hx
   ·exact (weighP_ok h hy w).1
  ·rcases mem_modify hx with hx|⟨y,hy,rfl⟩
   ·exact h.v x hx
   ·exact (weighP_ok h hy w).2.1
  ·rcases mem_modify hx with hx|⟨y,hy,rfl⟩
   ·exact h.held x hx
   ·exact (weighP_ok h hy w).2.2
 ·exact h
end
end Go.Proofs.YtcgjbllmoglhfaaDoor
namespace Go.Proofs.YtcgjbllmoglhfaaDoor
section
variable {g:Lg} {n m:Int} {l:List Pty} {S k:Nat} {x:Pty} {p w:Int}
def AtFloor (g:Lg):Prop:=∀x ∈ g.l,x.2.2.2=true→g.f≤x.2.1
theorem floor_new (ws:List Int) (s c:Int):AtFloor (Lg.new ws s c):=fun x hx h=>by
 obtain⟨w,_,rfl⟩:=List.mem_map.1 hx
 cases h
theorem sat_ge {x y:Int} (h:x≤18446744073709551615) (hy:x≤y):x≤satV y:=by
 unfold satV
 split<;>omega
theorem AtFloor.charge (h:AtFloor g) (ho:LgOk g n) (p:Int):AtFloor (g.charge p)∧(g.charge p).f=g.f:=by
 unfold Lg.charge
 split
 ·refine⟨fun x hx ha=>?_,rfl⟩
  rcases mem_modify hx with hx|⟨y,hy,rfl⟩
  ·exact h x hx ha
  ·have h1:=h y hy ha
   have h2:=ho.v y hy
   have h3:=lock_range y.1
   exact Int.le_trans h1 (sat_ge h2.2 (by omega))
 ·exact⟨h,rfl⟩
theorem AtFloor.weigh (h:AtFloor g) (ho:LgOk g n) (p w:Int):AtFloor (g.weigh p w)∧(g.weigh p w).f=g.f:=by
 unfold Lg.weigh
 split
 ·refine⟨fun x hx ha=>?_,rfl⟩
  rcases mem_modify hx with hx|⟨y,hy,rfl⟩
  ·exact h x hx ha
  ·unfold weighP at ha ⊢
   split at ha
   ·next e=>rw [if_pos e];exact h y hy ha
   ·next e=>
    rw [if_neg e]
    refine (clamp_word18 (ho.v y hy) ho.f ?_).2
    have h1:=lock_range (bringR w 1 16)
    exact Int.mul_nonneg h1.1 (by have:=ho.s;omega)
 ·exact⟨h,rfl⟩
theorem setTo_at (g:Lg) (S:Nat):∀(k i:Nat),(setTo g S k)[i]?=if i < k then (g.l[i]?).map (setP g S i) else g.l[i]?
 |0,i=>by rw [if_neg (Nat.not_lt_zero i)];rfl
 |k+1,i=>by
  unfold setTo
  rw [List.getElem?_modify,setTo_at g S k i]
  by_cases h1:i < k
  ·have h3:¬k=i:=by omega
   rw [if_pos h1,if_pos (by omega)]
   simp [h3]
  ·by_cases h2:k=i
   ·subst h2
    rw [if_neg h1,if_pos (by omega)]
    simp
   ·rw [if_neg h1,if_neg (by omega)]
    simp [h2]
theorem minTo_le:∀(k i:Nat) {x:Pty},i < k→l[i]?=some x→hasN S i=true→∃m,minTo l S k=some m∧m≤x.2.1
 |0,i,x,h,_,_=>absurd h (Nat.not_lt_zero i)
 |k+1,i,x,h,hx,hs=>by
  unfold minTo
  by_cases e:i=k
  ·subst e
   rw [hx]
   simp only
   rw [if_pos hs]
   cases minTo l S i with
   |none=>exact⟨_,rfl,Int.le_refl _⟩
   |some m=>
    simp only
    split
    ·exact⟨_,rfl,Int.le_refl _⟩
    ·exact⟨_,rfl,by omega⟩
  ·obtain⟨m,h1,h2⟩:=minTo_le k i (by omega) hx hs
   cases hk:l[k]? with
   |none=>exact⟨m,h1,h2⟩
   |some y=>
    simp only
    split
    ·rw [h1]
     simp only
     split
     ·exact⟨_,rfl,by omega⟩
     ·exact⟨_,rfl,h2⟩
    ·exact⟨m,h1,h2⟩
theorem floor_settle (g:Lg) (S:Nat):g.f≤(g.settle S).f:=by
 show g.f≤match minTo (setTo g S g.l.length) S g.l.length with
  |none=>g.f
  |some m=>if g.f < m then m else g.f
 split
 ·exact Int.le_refl _
 ·split<;>omega
theorem settle_at (g:Lg) (S i:Nat):(g.settle S).l[i]?=(g.l[i]?).map (setP g S i):=by
 show (setTo g S g.l.length)[i]?=_
 rw [setTo_at]
 split
 ·rfl
 ·rw [List.getElem?_eq_none (by omega)]
  rfl
theorem AtFloor.settle (h:AtFloor g) (ho:LgOk g n) (S:Nat):AtFloor (g.settle S):=fun x hx ha=>by
 obtain⟨i,hi⟩:=List.mem_iff_getElem?.1 hx
 have h1:=hi
 rw [settle_at] at h1
 obtain⟨y,hy,rfl⟩:=Option.map_eq_some_iff.1 h1
 have hs:hasN S i=true:=ha
 have hyl:i < g.l.length:=(List.getElem?_eq_some_iff.1 hy).1
 have hym:y ∈ g.l:=List.mem_iff_getElem?.2 ⟨i,hy⟩
 have hge:g.f≤(setP g S i y).2.1:=by
  show g.f≤if _ then _ else _
  split
  ·exact (clamp_word18 (ho.v y hym) ho.f (slack_range _ _ _).1).2
  ·next e=>
   refine h y hym ?_
   cases hb:y.2.2.2 with
   |true=>rfl
   |false=>exact absurd ⟨hs,hb⟩ e
 obtain⟨m,hm,hle⟩:=minTo_le (l:=setTo g S g.l.length) (S:=S) g.l.length i hyl (by rw [setTo_at,if_pos hyl,hy];rfl) hs
 show (match minTo (setTo g S g.l.length) S g.l.length with
  |none=>g.f
  |some m=>if g.f < m then m else g.f)≤_
 rw [hm]
 simp only
 split
 ·exact hle
 ·exact hge
theorem settle_floor (h:AtFloor g) (ho:LgOk g n) {S i:Nat} {x:Pty} (hx:(g.settle S).l[i]?=some x) (hs:hasN S i=true):(g.settle S).f≤x.2.1:=by
 refine h.settle ho S x (List.mem_iff_getElem?.2 ⟨i,hx⟩) ?_
 rw [settle_at] at hx
 obtain⟨y,_,rfl⟩:=Option.map_eq_some_iff.1 hx
 exact hs
theorem isP_nat {g:Lg} {p:Int} (h:isP g p=true):∃i:Nat,p=i∧i < g.l.length:=by
 unfold isP at h
 rw [Bool.and_eq_true,decide_eq_true_eq,decide_eq_true_eq] at h
 exact⟨p.toNat,by omega,by omega⟩
theorem charge_l {g:Lg} {p:Nat} (hp:p < g.l.length):g.charge p= { g with l:=g.l.modify p chargeP } :=by
 unfold Lg.charge
 rw [if_pos (by simp [isP,hp]),Int.toNat_natCast]
theorem weigh_l {g:Lg} {p:Nat} (hp:p < g.l.length) (w:Int):g.weigh p w= { g with l:=g.l.modify p (weighP g w) } :=by
 unfold Lg.weigh
 rw [if_pos (by simp [isP,hp]),Int.toNat_natCast]
end
end Go.Proofs.YtcgjbllmoglhfaaDoor
namespace Go.Proofs.YtcgjbllmoglhfaaDoor
theorem updiv_pos {x a:Int} (ha:0 < a) (hx:0 < x):1≤upDiv x a:=by
 unfold upDiv
 have h1:x=a*(x / a)+x % a:=(Int.mul_ediv_add_emod x a).symm
 have h2:=Int.ediv_nonneg (Int.le_of_lt hx) (Int.le_of_lt ha)
 split
 ·omega
 ·next h=>
  rcases Int.lt_or_le 0 (x / a) with h3|h3
  ·omega
  ·have h4:x / a=0:=by omega
   have h5:=Int.emod_nonneg x (show a≠0 by omega)
   rw [h4,Int.mul_zero] at h1
   omega
theorem updiv_step {x a:Int} (ha:0 < a) (hx:0 < x):upDiv x a=1+(if x≤a then 0 else upDiv (x - a) a):=by
 by_cases h:x≤a
 ·rw [if_pos h]
  rcases Int.lt_or_eq_of_le h with h1|h1
  ·unfold upDiv
   rw [Int.emod_eq_of_lt (by omega) h1,Int.ediv_eq_zero_of_lt (by omega) h1,if_pos hx]
   omega
  ·subst h1
   unfold upDiv
   rw [Int.emod_self,Int.ediv_self (by omega)]
   simp
 ·rw [if_neg h]
  have e1:x / a=(x - a) / a+1:=by
   have:=Int.add_mul_ediv_right (x - a) 1 (show a≠0 by omega)
   rw [Int.one_mul] at this
   rw [←this]
   congr 1
   omega
  have e2:x % a=(x - a) % a:=by
   rw [Int.sub_emod_right]
  unfold upDiv
  rw [e1,e2]
  split<;>omega
section
variable {g:Lg} {n:Int} {l:List Pty} {S S' k:Nat} {x:Pty} {p w:Int}
theorem wt_lock (hw:∀x ∈ l,1≤x.1∧x.1≤16) (k:Int):0 < lockR (wtAt l k):=by
 have h:(1≤wtAt l k∧wtAt l k≤16)∨wtAt l k=0:=by
  unfold wtAt
  split
  ·exact .inr rfl
  ·cases h:l[k.toNat]? with
   |none=>exact .inr rfl
   |some x=>exact .inl (hw x (List.mem_iff_getElem?.2 ⟨_,h⟩))
 rcases h with h|h
 ·have:=lock_pos h.1 h.2;omega
 ·rw [h];decide
theorem gap_nonneg (hw:∀x ∈ l,1≤x.1∧x.1≤16) (p k:Int):0≤gapAt l p k:=by
 unfold gapAt
 split
 ·exact Int.le_refl _
 ·have:=updiv_pos (wt_lock hw k) (show 0 < vAt l p - vAt l k by omega);omega
theorem gap_pos (hw:∀x ∈ l,1≤x.1∧x.1≤16) {p k:Int} (h:vAt l k < vAt l p):1≤gapAt l p k:=by
 unfold gapAt
 rw [if_neg (by omega)]
 exact updiv_pos (wt_lock hw k) (by omega)
theorem gap_le (hw:∀x ∈ l,1≤x.1∧x.1≤16) {p k:Int} (hk:0≤k) (hkl:k < l.length) (hv:vAt l p≤28828800) (h0:0≤vAt l k):gapAt l p k≤640:=by
 unfold gapAt
 split
 ·decide
 ·have hl:45045≤lockR (wtAt l k):=by
    have e:wtAt l k=(l[k.toNat]'(by omega)).1:=by
     unfold wtAt
     rw [if_neg (by omega),List.getElem?_eq_getElem (by omega)]
     rfl
    rw [e]
    have:=hw _ (List.getElem_mem (l:=l) (n:=k.toNat) (by omega))
    exact lock_pos this.1 this.2
  refine updiv_le (by omega) ?_
  omega
theorem behindTo_nonneg (hw:∀x ∈ l,1≤x.1∧x.1≤16) (p:Int) (S:Nat):∀k,0≤behindTo l p S k
 |0=>Int.le_refl _
 |k+1=>by
  have h1:=behindTo_nonneg hw p S k
  have h2:=gap_nonneg hw p k
  unfold behindTo
  split<;>omega
theorem behindTo_le (hw:∀x ∈ l,1≤x.1∧x.1≤16) (p:Int) (S:Nat) (hv:vAt l p≤28828800) (h0:∀k:Nat,0≤vAt l k):∀k,k≤l.length→behindTo l p S k≤640*k
 |0,_=>Int.le_refl _
 |k+1,hk=>by
  have h1:=behindTo_le hw p S hv h0 k (by omega)
  have h2:=gap_le hw (p:=p) (k:=k) (by omega) (by omega) hv (h0 k)
  unfold behindTo
  split<;>omega
theorem behindTo_some (hw:∀x ∈ l,1≤x.1∧x.1≤16) {p:Int} :∀k,0 < behindTo l p S k→∃i:Nat,i < k∧(i:Int)≠p∧hasN S i=true∧vAt l i < vAt l p
 |0,h=>by simp [behindTo] at h
 |k+1,h=>by
  unfold behindTo at h
  split at h
  ·next hc=>
   by_cases hk:0 < behindTo l p S k
   ·obtain⟨i,h1,h2⟩:=behindTo_some hw k hk
    exact⟨i,by omega,h2⟩
   ·refine⟨k,by omega,hc.1,hc.2,?_⟩
    by_cases hv:vAt l p≤vAt l k
    ·unfold gapAt at h
     rw [if_pos hv] at h
     omega
    ·omega
  ·obtain⟨i,h1,h2⟩:=behindTo_some hw k h
   exact⟨i,by omega,h2⟩
theorem behindTo_none (hw:∀x ∈ l,1≤x.1∧x.1≤16) {p:Int} :∀k,behindTo l p S k=0→∀i:Nat,i < k→(i:Int)≠p→hasN S i=true→vAt l p≤vAt l i
 |0,_,i,h,_,_=>absurd h (Nat.not_lt_zero i)
 |k+1,h,i,hi,hp,hs=>by
  have h1:=behindTo_nonneg hw p S k
  have h2:=gap_nonneg hw p k
  unfold behindTo at h
  by_cases e:i=k
  ·subst e
   rw [if_pos ⟨hp,hs⟩] at h
   rcases Int.lt_or_le (vAt l i) (vAt l p) with h3|h3
   ·have:=gap_pos hw h3;omega
   ·exact h3
  ·refine behindTo_none hw k ?_ i (by omega) hp hs
   split at h<;>omega
theorem bestTo_spec (l:List Pty) (S:Nat):∀k,(bestTo l S k= -1∧∀i:Nat,i < k→hasN S i=false)∨∃j:Nat,bestTo l S k=j∧j < k∧hasN S j=true∧∀i:Nat,i < k→hasN S i=true→vAt l j≤vAt l i
 |0=> .inl ⟨rfl,fun i h=>absurd h (Nat.not_lt_zero i)⟩
 |k+1=>by
  unfold bestTo
  rcases bestTo_spec l S k with⟨h1,h2⟩ |⟨j,h1,h2,h3,h4⟩
  ·rw [h1]
   by_cases hs:hasN S k=true
   ·rw [if_pos ⟨hs, .inl (by decide)⟩]
    refine .inr ⟨k,rfl,by omega,hs,fun i hi hh=>?_⟩
    by_cases e:i=k
    ·subst e;exact Int.le_refl _
    ·rw [h2 i (by omega)] at hh;cases hh
   ·rw [if_neg (fun h=>hs h.1)]
    refine .inl ⟨rfl,fun i hi=>?_⟩
    by_cases e:i=k
    ·subst e;simpa using hs
    ·exact h2 i (by omega)
  ·rw [h1]
   by_cases hc:hasN S k=true∧((j:Int) < 0∨vAt l k < vAt l j)
   ·rw [if_pos hc]
    have hv:vAt l k < vAt l j:=hc.2.resolve_left (by omega)
    refine .inr ⟨k,rfl,by omega,hc.1,fun i hi hh=>?_⟩
    by_cases e:i=k
    ·subst e;exact Int.le_refl _
    ·have:=h4 i (by omega) hh;omega
   ·rw [if_neg hc]
    refine .inr ⟨j,rfl,by omega,h3,fun i hi hh=>?_⟩
    by_cases e:i=k
    ·subst e
     rcases Int.lt_or_le (vAt l i) (vAt l j) with hv|hv
     ·exact absurd ⟨hh, .inr hv⟩ hc
     ·exact hv
    ·exact h4 i (by omega) hh
theorem at_charge {j:Nat} (hj:j < g.l.length) (i:Nat):(g.charge j).l[i]?=if j=i then (g.l[i]?).map chargeP else g.l[i]?:=by
 have hp:isP g j=true:=by simp [isP,hj]
 unfold Lg.charge
 rw [if_pos hp]
 simp only [Int.toNat_natCast]
 rw [List.getElem?_modify]
 by_cases e:j=i
 ·simp [e]
 ·simp [e]
theorem vAt_nat (l:List Pty) (i:Nat):vAt l i=((l[i]?).map (·.2.1)).getD 0:=by
 unfold vAt
 rw [if_neg (by omega),Int.toNat_natCast]
theorem wtAt_nat (l:List Pty) (i:Nat):wtAt l i=((l[i]?).map (·.1)).getD 0:=by
 unfold wtAt
 rw [if_neg (by omega),Int.toNat_natCast]
theorem v_charge {j:Nat} (hj:j < g.l.length) (i:Nat):vAt (g.charge j).l i=if j=i then satV (vAt g.l i+lockR (wtAt g.l i)) else vAt g.l i:=by
 rw [vAt_nat,vAt_nat,wtAt_nat,at_charge hj]
 by_cases e:j=i
 ·subst e
  rw [if_pos rfl,if_pos rfl,List.getElem?_eq_getElem hj]
  rfl
 ·rw [if_neg e,if_neg e]
theorem w_charge {j:Nat} (hj:j < g.l.length) (i:Nat):wtAt (g.charge j).l i=wtAt g.l i:=by
 rw [wtAt_nat,wtAt_nat,at_charge hj]
 by_cases e:j=i
 ·subst e
  rw [if_pos rfl,List.getElem?_eq_getElem hj]
  rfl
 ·rw [if_neg e]
theorem charge_len (g:Lg) (p:Int):(g.charge p).l.length=g.l.length:=by
 unfold Lg.charge
 split
 ·simp
 ·rfl
theorem gap_charge (ho:LgOk g n) {p j:Nat} (hj:j < g.l.length) (hjp:j≠p) (hlt:vAt g.l j < vAt g.l p) (hv:vAt g.l p≤28828800) (i:Nat):
  gapAt (g.charge j).l p i=if i=j then gapAt g.l p i - 1 else gapAt g.l p i:=by
 have hvp:vAt (g.charge j).l p=vAt g.l p:=by rw [v_charge hj,if_neg hjp]
 by_cases e:i=j
 ·subst e
  rw [if_pos rfl]
  unfold gapAt
  have hl:=wt_lock ho.wt i
  have hl2:=lock_range (wtAt g.l i)
  rw [hvp,w_charge hj,v_charge hj,if_pos rfl,satV_fit (by omega),if_neg (show ¬vAt g.l p≤vAt g.l i by omega),updiv_step hl (show 0 < vAt g.l p - vAt g.l i by omega)]
  by_cases h:vAt g.l p≤vAt g.l i+lockR (wtAt g.l i)
  ·rw [if_pos h,if_pos (by omega)];omega
  ·rw [if_neg h,if_neg (by omega),show vAt g.l p - (vAt g.l i+lockR (wtAt g.l i))=vAt g.l p - vAt g.l i - lockR (wtAt g.l i) by omega]
   omega
 ·rw [if_neg e]
  unfold gapAt
  have hvi:vAt (g.charge j).l i=vAt g.l i:=by rw [v_charge hj,if_neg (fun h=>e h.symm)]
  rw [hvp,w_charge hj,hvi]
theorem behindTo_charge (ho:LgOk g n) {p j:Nat} (hj:j < g.l.length) (hjp:j≠p) (hs:hasN S j=true) (hlt:vAt g.l j < vAt g.l p) (hv:vAt g.l p≤28828800):∀k:Nat,
  behindTo (g.charge j).l p S k=if j < k then behindTo g.l p S k - 1 else behindTo g.l p S k
 |0=>by rw [if_neg (Nat.not_lt_zero j)];rfl
 |k+1=>by
  have ih:=behindTo_charge ho hj hjp hs hlt hv k
  have hg:=gap_charge ho hj hjp hlt hv k
  unfold behindTo
  rw [ih,hg]
  by_cases e:k=j
  ·subst e
   have hc:(k:Int)≠p∧hasN S k=true:=⟨by omega,hs⟩
   rw [if_neg (Nat.lt_irrefl k),if_pos rfl,if_pos (Nat.lt_succ_self k)]
   simp only [if_pos hc]
   omega
  ·rw [if_neg e]
   by_cases h:j < k
   ·rw [if_pos h,if_pos (show j < k+1 by omega)]
    split<;>omega
   ·rw [if_neg h,if_neg (show ¬j < k+1 by omega)]
theorem behind_step (ho:LgOk g n) {p:Nat} (hp:p < g.l.length) (hS:∀i:Nat,i < g.l.length→hasN S i=true) (hS':∀i:Nat,i < g.l.length→hasN S' i=decide (i≠p)) (hv:vAt g.l p≤28828800) (hb:0 < g.behind p S):
  ∃j:Nat,g.least S'=j∧j < g.l.length∧j≠p∧vAt g.l j < vAt g.l p∧(g.charge j).behind p S=g.behind p S - 1∧vAt (g.charge j).l p=vAt g.l p:=by
 have hip:isP g p=true:=by simp [isP,hp]
 unfold Lg.behind at hb ⊢
 rw [if_pos hip] at hb
 obtain⟨i,h1,h2,h3,h4⟩:=behindTo_some ho.wt _ hb
 have hi':hasN S' i=true:=by rw [hS' i h1];simp;omega
 rcases bestTo_spec g.l S' g.l.length with⟨_,h⟩ |⟨j,e1,e2,e3,e4⟩
 ·rw [h i h1] at hi';cases hi'
 ·have hjp:j≠p:=by rw [hS' j e2] at e3;simpa using e3
  have hlt:vAt g.l j < vAt g.l p:=by have:=e4 i h1 hi';omega
  have hip2:isP (g.charge j) p=true:=by simp [isP,charge_len,hp]
  refine⟨j,e1,e2,hjp,hlt,?_,by rw [v_charge e2,if_neg hjp]⟩
  rw [if_pos hip2,if_pos hip,charge_len,behindTo_charge ho e2 hjp (hS j e2) hlt hv,if_pos e2]
theorem behind_end (ho:LgOk g n) {p:Nat} (hp:p < g.l.length) (hS:∀i:Nat,i < g.l.length→hasN S i=true) (hS':∀i:Nat,i < g.l.length→hasN S' i=decide (i≠p)) (hb:g.behind p S=0) (h1:g.l.length≠1):vAt g.l p≤vAt g.l (g.least S'):=by
 have hip:isP g p=true:=by simp [isP,hp]
 unfold Lg.behind at hb
 rw [if_pos hip] at hb
 have hx:∃i:Nat,i < g.l.length∧i≠p:=by
  by_cases e:p=0
  ·exact⟨1,by omega,by omega⟩
  ·exact⟨0,by omega,by omega⟩
 obtain⟨i,hi,hip'⟩:=hx
 have hi':hasN S' i=true:=by rw [hS' i hi];simpa using hip'
 unfold Lg.least
 rcases bestTo_spec g.l S' g.l.length with⟨_,h⟩ |⟨j,e1,e2,e3,e4⟩
 ·rw [h i hi] at hi';cases hi'
 ·have hjp:j≠p:=by rw [hS' j e2] at e3;simpa using e3
  rw [e1]
  exact behindTo_none ho.wt _ hb j e2 (by omega) (hS j e2)
end
end Go.Proofs.YtcgjbllmoglhfaaDoor
namespace Go.Proofs.YtcgjbllmoglhfaaDoor
open Go.RowKit
theorem bit_shr (x k:Nat):((x:Int) / 2 ^ k).tmod 2=((x / 2 ^ k % 2:Nat):Int):=by
 have e:((x:Int) / 2 ^ k)=((x / 2 ^ k:Nat):Int):=by push_cast;rfl
 rw [e]
 rfl
theorem bit_eq (x k:Nat):(((x:Int) / 2 ^ k).tmod 2 == 1)=x.testBit k:=by
 rw [bit_shr,Nat.testBit_eq_decide_div_mod_eq]
 by_cases h:x / 2 ^ k % 2=1
 ·rw [h];rfl
 ·rw [decide_eq_false h,beq_eq_false_iff_ne]
  omega
theorem pow_u64 {u:Nat} (hu:u < 64):IntKind.u64.wrap ((2:Int) ^ u)=((2 ^ u:Nat):Int):=by
 have e:((2:Int) ^ u)=((2 ^ u:Nat):Int):=by push_cast;rfl
 have h2:2 ^ u < 18446744073709551616:=Nat.lt_of_lt_of_le (Nat.pow_lt_pow_right (by decide) hu) (by decide)
 rw [e]
 generalize 2 ^ u=p at h2
 rw [IntKind.wrap_u64]
 omega
theorem rhasS_same (s:Nat) (i:Int) (w:World):Calls Tryd.prog 37 #[.int .u64 s, .int .i64 i] w fun e w'=>e= .returned (.bool (hasN s i))∧w'=w:=by
 by_cases h0:0≤i
 ·obtain⟨u,rfl⟩:=Int.eq_ofNat_of_zero_le h0
  by_cases h1:u < 64
  ·have hb:=bit_eq s u
   have hv:hasN s (u:Int)=s.testBit u:=by
    simp [hasN,okI]
    intro _
    omega
   rw [hv]
   obtain⟨t,ht⟩:∃t,s.testBit u=t:=⟨_,rfl⟩
   rw [ht] at hb ⊢
   have d0:decide ((0:Int)≤(u:Int))=true:=by simp
   have d1:decide ((u:Int) < 64)=true:=by simp;omega
   have d2:(u:Int) < 64:=by omega
   clear hv ht
   go_enter Tryd.func37,Tryd.ntmps37
   go_wp2
   first|go_ret|(go_big_quiet (fail);go_wp2;go_ret)
   exact⟨rfl,rfl⟩
  ·have hv:hasN s (u:Int)=false:=by
     simp [hasN,okI]
     intro h
     omega
   rw [hv]
   have d0:decide ((0:Int)≤(u:Int))=true:=by simp
   have d1:decide ((u:Int) < 64)=false:=by simp;omega
   have d2:¬(u:Int) < 64:=by omega
   clear hv
   go_enter Tryd.func37,Tryd.ntmps37
   go_wp2
   first|go_ret|(go_big_quiet (fail);go_wp2;go_ret)
   exact⟨rfl,rfl⟩
 ·have hv:hasN s i=false:=by simp [hasN,okI,h0]
  rw [hv]
  have d0:decide ((0:Int)≤i)=false:=by simp;omega
  clear hv
  go_enter Tryd.func37,Tryd.ntmps37
  go_wp2
  first|go_ret|(go_big_quiet (fail);go_wp2;go_ret)
  exact⟨rfl,rfl⟩
theorem okI_of {i:Int} (h0:¬i < 0) (h1:¬63 < i):okI i=true:=by simp [okI];omega
theorem rwith_same (s:Nat) (i:Int) (w:World) (hs:s < 18446744073709551616):Calls Tryd.prog 41 #[.int .u64 s, .int .i64 i] w fun e w'=>e= .returned (.int .u64 (withN s i:Int))∧w'=w:=by
 by_cases h0:i < 0
 ·rw [show withN s i=s by simp [withN,okI];omega]
  have d0:decide (i < 0)=true:=by simpa using h0
  go_enter Tryd.func41,Tryd.ntmps41
  go_wp2
  go_ret
  exact⟨rfl,rfl⟩
 ·by_cases h1:63 < i
  ·rw [show withN s i=s by simp [withN,okI];omega]
   have d0:decide (i < 0)=false:=by simpa using h0
   have d1:decide (63 < i)=true:=by simpa using h1
   go_enter Tryd.func41,Tryd.ntmps41
   go_wp2
   go_ret
   exact⟨rfl,rfl⟩
  ·have hok:=okI_of h0 h1
   obtain⟨u,rfl⟩:=Int.eq_ofNat_of_zero_le (show 0≤i by omega)
   have hu:u < 64:=by omega
   have d0:decide ((u:Int) < 0)=false:=by simp
   have d1:decide ((63:Int) < (u:Int))=false:=by simp;omega
   have HH:=xhd (fun W=>rhasS_same s (u:Int) W)
   by_cases hb:s.testBit u=true
   ·rw [show hasN s (u:Int)=true by simp [hasN,hok,hb]] at HH
    rw [show withN s (u:Int)=s by
     refine Nat.eq_of_testBit_eq fun k=>?_
     rw [bit_with,hok,Bool.true_and]
     by_cases e:u=k
     ·subst e;simp [hb]
     ·simp [e]]
    clear hok hb
    go_enter Tryd.func41,Tryd.ntmps41
    go_wp2_with fail
    with_reducible refine (HH.out _).mono ?_
    rintro e w1 ⟨rfl,rfl⟩
    go_wp2
    go_ret
    exact⟨rfl,rfl⟩
   ·have hb':s.testBit u=false:=by simpa using hb
    rw [show hasN s (u:Int)=false by simp [hasN,hb']] at HH
    have ha:=add_bit_or hb'
    have hl:=withN_lt (i:=(u:Int)) hs
    have hv:withN s (u:Int)=s+2 ^ u:=by rw [ha];simp [withN,hok]
    rw [hv] at hl ⊢
    have hp:=pow_u64 hu
    obtain⟨p,hpp⟩:∃p,2 ^ u=p:=⟨_,rfl⟩
    rw [hpp] at hp hl ⊢
    have hw:IntKind.u64.wrap ((s:Int)+(p:Int))=((s+p:Nat):Int):=by rw [IntKind.wrap_u64];omega
    obtain⟨z,hz⟩:∃z,s+p=z:=⟨_,rfl⟩
    rw [hz] at hw ⊢
    have u0:(0:Int)≤u:=by omega
    clear hok hb hb' ha hl hv hpp hz
    go_enter Tryd.func41,Tryd.ntmps41
    go_wp2_with fail
    with_reducible refine (HH.out _).mono ?_
    rintro e w1 ⟨rfl,rfl⟩
    go_wp2
    go_ret
    exact⟨rfl,rfl⟩
theorem block_off {w:World} {b:Nat} {cs:Array Value} {t e:TypeId} {base size n:Nat} {v:Value} {xs:List Value} (hb:w.heap[b]?=some (.cells cs t (0,0))) (hr:w.ownsRow base e size v n xs) (hne:t≠e):some b≠v.ownBlock:=by
 intro h
 obtain⟨cur,hc⟩:=ownsRow_type hr b (by simp [←h])
 rw [hb] at hc
 simp at hc
 exact hne hc.2
end Go.Proofs.YtcgjbllmoglhfaaDoor
namespace Go.Proofs.YtcgjbllmoglhfaaDoor
open Go.RowKit
section
variable {α:Type}
def cellsOf (enc:α→List Value) (L:List α):List Value:=L.flatMap enc
section
variable {enc:α→List Value} {k:Nat}
theorem cellsOf_snoc (L:List α) (x:α):cellsOf enc (L++[x])=cellsOf enc L++enc x:=by simp [cellsOf]
theorem cellsOf_drop (hk:∀x,(enc x).length=k):∀(L:List α) (j:Nat),cellsOf enc (L.drop j)=(cellsOf enc L).drop (j*k)
 |[],j=>by simp [cellsOf]
 |s::L,0=>by simp [cellsOf]
 |s::L,j+1=>by
  have ih:=cellsOf_drop hk L j
  have e:(j+1)*k=(enc s).length+j*k:=by rw [hk,Nat.add_mul];omega
  simp only [cellsOf,List.drop_succ_cons,List.flatMap_cons] at ih ⊢
  rw [ih,e,List.drop_length_add_append]
theorem cellsOf_get (hk:∀x,(enc x).length=k) (L:List α) (j i:Nat) (hj:j < L.length) (hi:i < k):(cellsOf enc L)[j*k+i]?=(enc L[j])[i]?:=by
 have h:=cellsOf_drop hk L j
 rw [List.drop_eq_getElem_cons hj] at h
 have h2:((cellsOf enc L).drop (j*k))[i]?=(enc L[j])[i]?:=by
  rw [←h]
  simp only [cellsOf,List.flatMap_cons]
  rw [List.getElem?_append_left (by rw [hk];exact hi)]
 rw [←h2,List.getElem?_drop]
theorem cellsOf_set (hk:∀x,(enc x).length=k):∀(L:List α) (j i:Nat) (x:α) (u:Value) (hj:j < L.length),i < k→enc x=(enc L[j]).set i u→cellsOf enc (L.set j x)=(cellsOf enc L).set (j*k+i) u
 |s::L,0,i,x,u,_,hi,he=>by
  simp only [List.getElem_cons_zero] at he
  simp only [cellsOf,List.set_cons_zero,List.flatMap_cons,Nat.zero_mul,Nat.zero_add,he]
  rw [List.set_append_left _ _ (by rw [hk];exact hi)]
 |s::L,j+1,i,x,u,hj,hi,he=>by
  have ih:=cellsOf_set hk L j i x u (by simpa using hj) hi (by simpa using he)
  have e:(j+1)*k+i=(enc s).length+(j*k+i):=by rw [hk,Nat.add_mul];omega
  simp only [cellsOf,List.set_cons_succ,List.flatMap_cons] at ih ⊢
  rw [ih,e,List.set_append_right _ _ (by omega)]
  congr 2
  omega
end
def LAt (tS tE:TypeId) (k:Nat) (enc:α→List Value) (cs:Value→Array Value) (w:World) (b:Nat) (X:List Nat) (L:List α):Prop:=
 ∃v,w.heap[b]?=some (.cells (cs v) tS (0,0))∧w.ownsRow 0 tE k v L.length (cellsOf enc L)∧X=b::v.ownBlock.toList
section
variable {tS tE:TypeId} {k:Nat} {enc:α→List Value} {cs:Value→Array Value} {w w':World} {b:Nat} {X Y:List Nat} {L:List α}
theorem LAt.keep (h:LAt tS tE k enc cs w b X L) (ht:Turned Y w w') (hd:∀k ∈ X,k ∉ Y):LAt tS tE k enc cs w' b X L:=by
 obtain⟨v,h1,h2,rfl⟩:=h
 exact⟨v,ht.same h1 (hd _ (by simp)),ownsRow_same h2 (fun k hk hl=>ht.block k hl (hd k (List.mem_cons_of_mem _ hk))),rfl⟩
theorem LAt.lt (h:LAt tS tE k enc cs w b X L):∀k ∈ X,k < w.heap.size:=by
 obtain⟨v,h1,h2,rfl⟩:=h
 intro k hk
 rcases List.mem_cons.1 hk with rfl|hk
 ·exact lt_of_block h1
 ·exact ownsRow_lt h2 k hk
theorem LAt.head (h:LAt tS tE k enc cs w b X L):b ∈ X:=by
 obtain⟨v,h1,h2,rfl⟩:=h
 simp
theorem LAt.drewN (h:LAt tS tE k enc cs w b X L) (n:Nat):LAt tS tE k enc cs (w.drewN n) b X L:=h
theorem LAt.stored {w1:World} {v v':Value} {i:Nat} {M:List α} (hne:tS≠tE) (hcs:(cs v).setIfInBounds i v'=cs v')
  (hb:w1.heap[b]?=some (.cells (cs v) tS (0,0))) (ho:w1.ownsRow 0 tE k v' M.length (cellsOf enc M)) (hX:b ∈ X) (hT:Turned X w w1) (hN:∀g ∈ v'.ownBlock.toList,g ∈ X∨w.heap.size≤g):
  LAt tS tE k enc cs (w1.setCell ⟨b,i,none⟩ v') b (b::v'.ownBlock.toList) M∧Turned X w (w1.setCell ⟨b,i,none⟩ v')∧Newer X w.heap.size (b::v'.ownBlock.toList):=by
 refine⟨⟨v',?_,ownsRow_setCell_other ho (a:=⟨b,i,none⟩) (fun e=>block_off hb ho hne e.symm) _,rfl⟩,hT.setCell (.inl hX) _,?_⟩
 ·rw [heap_setCell_same w1 b i _ _ _ hb,hcs]
 ·intro j hj
  rcases List.mem_cons.1 hj with rfl|hj
  ·exact .inl hX
  ·exact hN j hj
theorem LAt.appended {W W2 W1:World} {v v':Value} {i:Nat} {M:List α} {n:Nat} {xs:List Value} (hne:tS≠tE) (hcs:(cs v).setIfInBounds i v'=cs v')
  (hb:W.heap[b]?=some (.cells (cs v) tS (0,0))) (ho:W.ownsRow 0 tE k v n xs) (hT2:Turned [] W W2) (hg:W2.grownBy W1 v.ownBlock)
  (hown:W1.ownsRow 0 tE k v' M.length (cellsOf enc M)) (hnew:∀g ∈ v'.ownBlock.toList,g ∈ v.ownBlock.toList∨W2.heap.size≤g):
  W1.heap[b]?=some (.cells (cs v) tS (0,0))∧LAt tS tE k enc cs (W1.setCell ⟨b,i,none⟩ v') b (b::v'.ownBlock.toList) M∧Turned (b::v.ownBlock.toList) W (W1.setCell ⟨b,i,none⟩ v')∧
   Newer (b::v.ownBlock.toList) W.heap.size (b::v'.ownBlock.toList):=by
 have hb2:=hT2.same hb (by simp)
 have hbl:=lt_of_block hb2
 have hb1:W1.heap[b]?=some (.cells (cs v) tS (0,0)):=(hg.block b hbl (block_off hb ho hne)).trans hb2
 have hs:=hT2.size
 have hT:Turned (b::v.ownBlock.toList) W W1:=Turned.grown (hT2.mono (fun k hk=>by simp at hk)) hg (fun k hk=> .inl (List.mem_cons_of_mem _ (by simp [hk])))
 obtain⟨h1,h2,h3⟩:=LAt.stored (w:=W) hne hcs hb1 hown (X:=b::v.ownBlock.toList) (by simp) hT (fun g hg'=>by
  rcases hnew g hg' with h|h
  ·exact .inl (List.mem_cons_of_mem _ h)
  ·exact .inr (by omega))
 exact⟨hb1,h1,h2,h3⟩
theorem LAt.field {cs':Value→Array Value} {i:Nat} {u:Value} (h:LAt tS tE k enc cs w b X L) (hne:tS≠tE) (hcs:∀v,(cs v).setIfInBounds i u=cs' v):
  LAt tS tE k enc cs' (w.setCell ⟨b,i,none⟩ u) b X L∧Turned X w (w.setCell ⟨b,i,none⟩ u):=by
 obtain⟨v,h1,h2,rfl⟩:=h
 refine⟨⟨v,?_,ownsRow_setCell_other h2 (a:=⟨b,i,none⟩) (fun e=>block_off h1 h2 hne e.symm) _,rfl⟩,(Turned.refl _ w).setCell (.inl (by simp)) _⟩
 rw [heap_setCell_same w b i _ _ _ h1,hcs]
theorem LAt.cellSet {g n cap:Nat} (hk:∀x,(enc x).length=k) (hne:tS≠tE) (hb:w.heap[b]?=some (.cells (cs (.slice (some ⟨g,0,none⟩) n cap)) tS (0,0))) (ho:w.ownsRow 0 tE k (.slice (some ⟨g,0,none⟩) n cap) L.length (cellsOf enc L))
  {j i:Nat} {x:α} {u:Value} (hj:j < L.length) (hi:i < k) (he:enc x=(enc L[j]).set i u):
  LAt tS tE k enc cs (w.setCell ⟨g,j*k+i,none⟩ u) b [b,g] (L.set j x)∧Turned [b,g] w (w.setCell ⟨g,j*k+i,none⟩ u):=by
 have hbg:b≠g:=fun h=>block_off hb ho hne (by simp [Value.ownBlock,h])
 refine⟨⟨.slice (some ⟨g,0,none⟩) n cap,(Below.heap_setCell _ _ _ _ hbg).trans hb,?_,by simp [Value.ownBlock]⟩,(Turned.refl _ w).setCell (.inl (by simp)) _⟩
 have hn:n=L.length:=by
  obtain⟨_,_,h1,_⟩:=ownsRow_shape ho
  simp at h1
  exact h1.2.1
 subst hn
 have h1:=(ho.stored (j*k+i) u).1
 rw [cellsOf_set hk L j i x u hj hi he,List.length_set]
 exact h1
theorem row_cells {g n cap:Nat} (hk:∀x,(enc x).length=k) (ho:w.ownsRow 0 tE k (.slice (some ⟨g,0,none⟩) n cap) L.length (cellsOf enc L)) {j:Nat} (hj:j < L.length):
  ∀i,i < k→w.cell? ⟨g,j*k+i,none⟩=(enc L[j])[i]?∧w.frozen? ⟨g,j*k+i,none⟩=false:=by
 intro i hi
 have hn:n=L.length:=by
  obtain⟨_,_,h1,_⟩:=ownsRow_shape ho
  simp at h1
  exact h1.2.1
 subst hn
 have hlt:j*k+i < L.length*k:=by
  have:(j+1)*k≤L.length*k:=Nat.mul_le_mul_right _ hj
  rw [Nat.add_mul] at this
  omega
 exact⟨by rw [ho.cellAt _ hlt];exact cellsOf_get hk L j i hj hi,ho.frozenAt _⟩
end
end
section
variable {α:Type} {tE:TypeId} {k:Nat} {enc:α→List Value} {W W':World} {g n cap:Nat} {L:List α}
end
theorem LAt.view {α:Type} {tS tE:TypeId} {k:Nat} {enc:α→List Value} {cs:Value→Array Value} {w:World} {b:Nat} {X:List Nat} {L:List α} (h:LAt tS tE k enc cs w b X L):
  ∃a cap,w.heap[b]?=some (.cells (cs (.slice a L.length cap)) tS (0,0))∧w.ownsRow 0 tE k (.slice a L.length cap) L.length (cellsOf enc L)∧X=b::(Value.slice a L.length cap).ownBlock.toList∧L.length≤cap∧cap≤maxLen∧
   ∀j,j < L.length→∃g,a=some ⟨g,0,none⟩∧b≠g∨tS=tE:=by
 obtain⟨v,h1,h2,h3⟩:=h
 obtain⟨a,cap,rfl,hc,hm⟩:=ownsRow_shape h2
 refine⟨a,cap,h1,h2,h3,hc,hm,fun j hj=>?_⟩
 obtain⟨g,cap',hv,_,_⟩:=ownsRow_pos h2 (by omega)
 simp only [Value.slice.injEq] at hv
 by_cases e:tS=tE
 ·exact⟨g, .inr e⟩
 ·exact⟨g, .inl ⟨hv.1,fun hg=>block_off h1 h2 e (by simp [Value.ownBlock,hv.1,hg])⟩⟩
section
variable {α:Type}
end
section
variable {P:Program} (w:World)
theorem run_append_any (t ty e:TypeId) (i:TypeInfo) (z:Value) (size bytes:Nat) (ht:P.underlying t=some (.slice e)) (hi:P.info? e=some i) (hz:i.zero=some z)
  (hsize:i.size=size) (hby:i.bytes=bytes) (hzs:z.cells.size=size) (hsz:0 < size)
  (v:Value) (n:Nat) (xs:List Value) (hown:w.ownsRow 0 e size v n xs)
  (ao:Option Addr) (m c:Nat) (news:List Value) (hl:news.length=m*size) (hnone:ao=none→m=0∧c=0) (hnews:∀ad,ao=some ad→∀j u,news[j]?=some u→w.cell? (ad.add j)=some u) (h1:∀u ∈ news,u.oneCell'=true)
  (h63:n+m≤maxLen) (hbytes:(n+m)*bytes≤140737488355328):
  ∃a' cap' w',(Builtin.append_ #[t,t] ty #[v, .slice ao m c]).run P w= .ok (.slice a' (n+m) cap') w'∧w'.ownsRow 0 e size (.slice a' (n+m) cap') (n+m) (xs++news)∧w.grownBy w' v.ownBlock∧
   (∀g ∈ (Value.slice a' (n+m) cap').ownBlock.toList,g ∈ v.ownBlock.toList∨w.heap.size≤g):=by
 cases hao:ao with
 |none=>
  obtain⟨rfl,rfl⟩:=hnone hao
  have hn:news=[]:=List.eq_nil_of_length_eq_zero (by simpa using hl)
  subst hn
  have hr:=run_append_owned_none (P:=P) (w:=w) 0 t ty e i size ht hi v n xs hown
  obtain⟨a',cap',rfl,hc1,hc2⟩:=ownsRow_shape hown
  exact⟨a',cap',w,hr,by simpa using hown,⟨rfl,rfl,rfl,Nat.le_refl _,fun _ _ _=>rfl⟩,fun g hg=> .inl hg⟩
 |some ad=>
  obtain⟨v',w',hr,h2,h3,_,h5⟩:=run_append_own_at (P:=P) w 0 t ty e i z size bytes ht hi hz hsize hby hzs hsz v n xs hown ad m c news hl (hnews ad hao) h1 h63 hbytes (Nat.zero_le _)
  obtain⟨a',cap',rfl,hc1,hc2⟩:=ownsRow_shape h2
  refine⟨a',cap',w',hr,h2,h3,fun g hg=>?_⟩
  rcases h5 with h5|h5
  ·exact .inl (by rw [←h5];exact hg)
  ·rw [h5] at hg
   simp at hg
   exact .inr (by omega)
theorem wp_append_any {o:Oper} {a:Act} {K:Act→World→Prop} {Q:Exit→Act→World→Prop} (s x:Operand) (t:TypeId)
  (ho:o.op= .call { callee:= .builtin .append,args:= #[s,x],argTypes:= #[t,t] })
  (e:TypeId) (i:TypeInfo) (z:Value) (size bytes:Nat) (ht:P.underlying t=some (.slice e)) (hi:P.info? e=some i) (hz:i.zero=some z)
  (hsize:i.size=size) (hby:i.bytes=bytes) (hzs:z.cells.size=size) (hsz:0 < size)
  (v:Value) (n:Nat) (xs:List Value) (hs:a.eval s=v) (hown:w.ownsRow 0 e size v n xs)
  (ao:Option Addr) (m c:Nat) (news:List Value) (hx:a.eval x= .slice ao m c) (hl:news.length=m*size) (hnone:ao=none→m=0∧c=0) (hnews:∀ad,ao=some ad→∀j u,news[j]?=some u→w.cell? (ad.add j)=some u) (h1:∀u ∈ news,u.oneCell'=true)
  (h63:n+m≤maxLen) (hbytes:(n+m)*bytes≤140737488355328)
  (h:∀a' cap' w',w'.ownsRow 0 e size (.slice a' (n+m) cap') (n+m) (xs++news)→w.grownBy w' v.ownBlock→(∀g ∈ (Value.slice a' (n+m) cap').ownBlock.toList,g ∈ v.ownBlock.toList∨w.heap.size≤g)→
    K (a.put o.dst (.slice a' (n+m) cap')) w'):o.wp P a w K Q:=by
 obtain⟨a',cap',w',hr,h2,h3,h4⟩:=run_append_any (P:=P) w t o.type e i z size bytes ht hi hz hsize hby hzs hsz v n xs hown ao m c news hl hnone hnews h1 h63 hbytes
 unfold Oper.wp execOp
 simp only [ho,resolve,invoke,builtin,Sem.run_bind,Sem.run_pure,Result.andThen_ok,List.map_toArray,List.map_cons,List.map_nil,hs,hx,hr]
 exact h a' cap' w' h2 h3 h4
end
end Go.Proofs.YtcgjbllmoglhfaaDoor
namespace Go.Proofs.YtcgjbllmoglhfaaDoor
open Go.RowKit
abbrev encPt (x:Pty):List Value:=[.int .i64 x.1, .int .u64 x.2.1, .int .i64 x.2.2.1, .bool x.2.2.2]
theorem encPt_len (x:Pty):(encPt x).length=4:=rfl
abbrev tL18:TypeId:=39
abbrev tP18:TypeId:=44
def R18 (w:World) (b:Nat) (X:List Nat) (g:Lg):Prop:=LAt tL18 tP18 4 encPt (fun v=> #[v, .int .i64 g.s, .int .i64 g.c, .int .u64 g.f]) w b X g.l
theorem cells4l {w:World} {b:Nat} {x y z u:Value} {t:TypeId} (h:w.heap[b]?=some (.cells #[x,y,z,u] t (0,0))):
  w.cell? ⟨b,0,none⟩=some x∧w.cell? ⟨b,1,none⟩=some y∧w.cell? ⟨b,2,none⟩=some z∧w.cell? ⟨b,3,none⟩=some u∧∀i,w.frozen? ⟨b,i,none⟩=false:=
 ⟨by simp [World.cell?,h],by simp [World.cell?,h],by simp [World.cell?,h],by simp [World.cell?,h],fun i=>frozen_of_row w b i _ t h⟩
section
variable {w w':World} {b:Nat} {X Y:List Nat} {g:Lg}
theorem R18.keep (h:R18 w b X g) (t:Turned Y w w') (hd:∀k ∈ X,k ∉ Y):R18 w' b X g:=LAt.keep h t hd
theorem R18.keep0 (h:R18 w b X g) (t:Turned [] w w'):R18 w' b X g:=LAt.keep h t (by simp)
theorem R18.lt (h:R18 w b X g):∀k ∈ X,k < w.heap.size:=LAt.lt h
theorem R18.rows (h:R18 w b X g):∃a cap,w.cell? ⟨b,0,none⟩=some (.slice a g.l.length cap)∧w.cell? ⟨b,1,none⟩=some (.int .i64 g.s)∧w.cell? ⟨b,2,none⟩=some (.int .i64 g.c)∧w.cell? ⟨b,3,none⟩=some (.int .u64 g.f)∧(∀i,w.frozen? ⟨b,i,none⟩=false)∧g.l.length≤maxLen∧
   ∀(j:Nat) (x:Pty),g.l[j]?=some x→∃r,a=some ⟨r,0,none⟩∧w.cell? ⟨r,j*4,none⟩=some (.int .i64 x.1)∧w.cell? ⟨r,j*4+1,none⟩=some (.int .u64 x.2.1)∧w.cell? ⟨r,j*4+2,none⟩=some (.int .i64 x.2.2.1)∧w.cell? ⟨r,j*4+3,none⟩=some (.bool x.2.2.2)∧(∀i,w.frozen? ⟨r,i,none⟩=false)∧b≠r:=by
 obtain⟨a,cap,h1,h2,h3,hc,hm,hg⟩:=LAt.view h
 obtain⟨c0,c1,c2,c3,cf⟩:=cells4l h1
 refine⟨a,cap,c0,c1,c2,c3,cf,by omega,fun j x hx=>?_⟩
 have hj:j < g.l.length:=(List.getElem?_eq_some_iff.1 hx).1
 have he:g.l[j]=x:=(List.getElem?_eq_some_iff.1 hx).2
 obtain⟨r,hg|hg⟩:=hg j hj
 ·obtain⟨rfl,hbg⟩:=hg
  have q:=row_cells encPt_len h2 hj
  rw [he] at q
  exact⟨r,rfl,(q 0 (by omega)).1,(q 1 (by omega)).1,(q 2 (by omega)).1,(q 3 (by omega)).1,fun i=>h2.frozenAt _,hbg⟩
 ·exact absurd hg (by decide)
theorem R18.put (h:R18 w b X g) {r n cap:Nat} (hv:w.cell? ⟨b,0,none⟩=some (.slice (some ⟨r,0,none⟩) n cap)) {p:Nat} {x y:Pty} (hp:g.l[p]?=some x) {i:Nat} (hi:i < 4) {u:Value} (he:encPt y=(encPt x).set i u):
  R18 (w.setCell ⟨r,p*4+i,none⟩ u) b X { g with l:=g.l.set p y } ∧Turned X w (w.setCell ⟨r,p*4+i,none⟩ u)∧(w.setCell ⟨r,p*4+i,none⟩ u).cell? ⟨b,0,none⟩=some (.slice (some ⟨r,0,none⟩) n cap):=by
 obtain⟨v0,h1,h2,h3⟩:=id h
 have e:=(cells4l h1).1
 rw [hv] at e
 cases e
 have hpl:p < g.l.length:=(List.getElem?_eq_some_iff.1 hp).1
 have hpx:g.l[p]=x:=(List.getElem?_eq_some_iff.1 hp).2
 have q:=LAt.cellSet (tS:=tL18) (tE:=tP18) (k:=4) (enc:=encPt) (cs:=fun v=> #[v, .int .i64 g.s, .int .i64 g.c, .int .u64 g.f]) encPt_len (by decide) h1 h2 (j:=p) (i:=i) (x:=y) (u:=u) hpl hi (by rw [hpx];exact he)
 have hne:b≠r:=fun e=>block_off h1 h2 (by decide) (by simp [Value.ownBlock,e])
 rw [h3]
 refine⟨q.1,q.2,?_⟩
 rw [World.cell?_of_block (Below.heap_setCell _ _ _ _ (by show b≠r;exact hne))]
 exact hv
theorem R18.setF (h:R18 w b X g) (f:Int):R18 (w.setCell ⟨b,3,none⟩ (.int .u64 f)) b X { g with f:=f } ∧Turned X w (w.setCell ⟨b,3,none⟩ (.int .u64 f)):=
 LAt.field (tS:=tL18) (tE:=tP18) (cs':=fun v=> #[v, .int .i64 g.s, .int .i64 g.c, .int .u64 f]) h (by decide) (fun _=>rfl)
theorem ris_any (h:R18 w b X g) (p:Int):Calls Tryd.prog 23 #[.pointer (some ⟨b,0,none⟩), .int .i64 p] w fun e w'=>e= .returned (.bool (isP g p))∧w=w':=by
 obtain⟨a,cap,c0,_,_,_,_,_,_⟩:=h.rows
 unfold isP
 obtain⟨n,hn⟩:∃n,g.l.length=n:=⟨_,rfl⟩
 rw [hn] at c0 ⊢
 clear h hn
 cases b1:decide (0≤p) with
 |true=>
  cases b2:decide (p < (n:Int)) with
  |true=>
   go_enter Tryd.func23,Tryd.ntmps23
   go_wp2
   go_ret
   exact⟨rfl,rfl⟩
  |false=>
   go_enter Tryd.func23,Tryd.ntmps23
   go_wp2
   go_ret
   exact⟨rfl,rfl⟩
 |false=>
  go_enter Tryd.func23,Tryd.ntmps23
  go_wp2
  go_ret
  exact⟨rfl,rfl⟩
theorem ractive_any (h:R18 w b X g) (hl:g.l.length≤8):Calls Tryd.prog 17 #[.pointer (some ⟨b,0,none⟩)] w fun e w'=>e= .returned (.int .u64 (g.active:Int))∧w=w':=by
 obtain⟨a,cap,c0,_,_,_,_,_,hr⟩:=h.rows
 have HR:=xhd hr
 have HW:=xhd (fun (s:Nat) (i:Int) (V:World) hs=>rwith_same s i V hs)
 have hlt:∀k,actTo g.l k < 18446744073709551616:=fun k=>by
  induction k with
  |zero=>show (0:Nat) < _;decide
  |succ k ih=>
   unfold actTo
   split
   ·exact ih
   ·split
    ·exact withN_lt ih
    ·exact ih
 have HLT:=xhd hlt
 unfold Lg.active
 obtain⟨n,hn⟩:∃n,g.l.length=n:=⟨_,rfl⟩
 have HN:=xhd hn
 rw [hn] at c0 hl ⊢
 clear h hr hn hlt
 go_enter Tryd.func17,Tryd.ntmps17
 go_wp2
 go_loop [3,4] (fun s i=>∃k:Nat,k≤n∧i= .int .i64 k∧s= .int .u64 (actTo g.l k:Nat)) (fun _ i=>n - (intOf i).toNat)
 case atStart=>exact⟨0,Nat.zero_le _,rfl,rfl⟩
 case round=>
  obtain⟨k,hk,rfl,rfl⟩:=hrel
  by_cases hlt:k < n
  ·have hx:g.l[k]?=some (g.l[k]'(by have:=HN.out;omega)):=List.getElem?_eq_getElem _
   obtain⟨x,hxx⟩:∃x,g.l[k]'(by have:=HN.out;omega)=x:=⟨_,rfl⟩
   rw [hxx] at hx
   obtain⟨r,rfl,_,_,_,r3,_,_⟩:=HR.out k x hx
   have es:actTo g.l (k+1)=if x.2.2.2=true then withN (actTo g.l k) k else actTo g.l k:=by
    rw [actTo,hx]
   have HC:=xhd (HW.out (actTo g.l k) k w (HLT.out k))
   have i0:(0:Int)≤k:=by omega
   have i1:(k:Int) < n:=by omega
   obtain⟨ac,hac⟩:∃ac,x.2.2.2=ac:=⟨_,rfl⟩
   rw [hac] at r3 es
   have HES:=xhd es
   have HKN:=xhd hlt
   clear hx hxx es hac hlt
   cases ac with
   |true=>
    go_wp2_with fail
    with_reducible refine HC.out.mono ?_
    rintro e w1 ⟨rfl,rfl⟩
    go_wp2
    go_round
    case rel=>exact⟨k+1,by have:=HKN.out;omega,by go_num,by rw [HES.out];rfl⟩
    case measure=>have:=HKN.out;simp [intOf];omega
   |false=>
    go_wp2
    go_round
    case rel=>exact⟨k+1,by have:=HKN.out;omega,by go_num,by rw [HES.out];rfl⟩
    case measure=>have:=HKN.out;simp [intOf];omega
  ·have hkn:k=n:=by omega
   subst hkn
   go_wp2
   go_ret
   exact⟨rfl,rfl⟩
end
end Go.Proofs.YtcgjbllmoglhfaaDoor
namespace Go.Proofs.YtcgjbllmoglhfaaDoor
open Go.RowKit
theorem bestTo_succ (l:List Pty) (S k:Nat):bestTo l S (k+1)=if hasN S k=true∧(bestTo l S k < 0∨vAt l k < vAt l (bestTo l S k)) then (k:Int) else bestTo l S k:=rfl
theorem behindTo_succ (l:List Pty) (p:Int) (S k:Nat):behindTo l p S (k+1)=if (k:Int)≠p∧hasN S k=true then behindTo l p S k+gapAt l p k else behindTo l p S k:=rfl
section
variable {w w':World} {b:Nat} {X Y:List Nat} {g:Lg} {n:Int}
theorem R18.reads (h:R18 w b X g):∃a cap,(∀V,Turned [] w V→V.cell? ⟨b,0,none⟩=some (.slice a g.l.length cap))∧∀j:Nat,j < g.l.length→∃r,a=some ⟨r,0,none⟩∧∀V,Turned [] w V→V.cell? ⟨r,j*4,none⟩=some (.int .i64 (wtAt g.l j))∧V.cell? ⟨r,j*4+1,none⟩=some (.int .u64 (vAt g.l j)):=by
 obtain⟨a,cap,c0,_,_,_,_,_,hr⟩:=h.rows
 have up:∀ {p:Addr} {v:Value} (V:World),Turned [] w V→w.cell? p=some v→V.cell? p=some v:=fun {p} {v} V tV hp=>((tV.below (by simp) (Nat.le_refl _)).cell (World.block_lt_of_cell? w p hp)).trans hp
 refine⟨a,cap,fun V tV=>up V tV c0,fun j hj=>?_⟩
 have hx:g.l[j]?=some g.l[j]:=List.getElem?_eq_getElem hj
 obtain⟨r,e,r0,r1,_⟩:=hr j _ hx
 refine⟨r,e,fun V tV=>⟨?_,?_⟩⟩
 ·rw [wtAt_nat,hx];exact up V tV r0
 ·rw [vAt_nat,hx];exact up V tV r1
theorem rleast_any (h:R18 w b X g) (hl:g.l.length≤8) (S:Nat):Calls Tryd.prog 20 #[.pointer (some ⟨b,0,none⟩), .int .u64 S] w fun e w'=>e= .returned (.int .i64 (g.least S))∧Turned [] w w':=by
 obtain⟨a,cap,hc0,hrr⟩:=h.reads
 have HC0:=xhd hc0
 have HR:=xhd hrr
 have HS:=xhd (bestTo_spec g.l S)
 have HH:=xhd (fun (i:Int) (V:World)=>rhasS_same S i V)
 unfold Lg.least
 obtain⟨n,hn⟩:∃n,g.l.length=n:=⟨_,rfl⟩
 rw [hn] at HC0 HR hl ⊢
 clear h hn hc0 hrr
 go_enter Tryd.func20,Tryd.ntmps20
 go_wp2
 go_loopw [5,6] (fun o i V=>∃k:Nat,k≤n∧i= .int .i64 k∧o= .int .i64 (bestTo g.l S k)∧Hid (Turned [] w V)) (fun _ i _=>n - (intOf i).toNat)
 case atStart=>exact⟨0,Nat.zero_le _,rfl,rfl,xhd (Turned.refl _ _)⟩
 case round=>
  obtain⟨k,hk,rfl,rfl,HT⟩:=hrel
  have c0:=HC0.out _ HT.out
  by_cases hlt:k < n
  ·obtain⟨r,rfl,hr⟩:=HR.out k hlt
   have r1:=(hr _ HT.out).2
   have eb:=bestTo_succ g.l S k
   have hb:=HS.out k
   have i0:(0:Int)≤k:=by omega
   have i1:(k:Int) < n:=by omega
   have HKN:=xhd hlt
   obtain⟨hs,hhs⟩:∃hs,hasN S k=hs:=⟨_,rfl⟩
   have HC:=xhd (fun V=>HH.out k V)
   rw [hhs] at HC eb
   obtain⟨v,hv⟩:∃v,vAt g.l k=v:=⟨_,rfl⟩
   rw [hv] at r1 eb
   cases hs with
   |false=>
    rw [if_neg (by simp)] at eb
    have HEB:=xhd eb
    clear eb hb hr hhs hv hlt
    generalize bestTo g.l S k=bt at HEB ⊢
    go_wp2_with fail
    go_quiet ((go_at_call 37;with_reducible exact Calls.quiet_of_same (HC.out _)))
    have T2:=xhd (HT.out.drewN nq)
    clear c0 r1
    go_wp2
    go_roundw
    case rel=>exact⟨k+1,by have:=HKN.out;omega,by go_num,by rw [HEB.out],T2⟩
    case measure=>have:=HKN.out;simp [intOf];omega
   |true=>
    rcases hb with⟨hb,_⟩ |⟨j,hb,hj,_,_⟩
    ·rw [hb] at eb ⊢
     rw [if_pos ⟨rfl, .inl (by decide)⟩] at eb
     have HEB:=xhd eb
     clear eb hb hr hhs hv hlt
     go_wp2_with fail
     go_quiet ((go_at_call 37;with_reducible exact Calls.quiet_of_same (HC.out _)))
     have T2:=xhd (HT.out.drewN nq)
     clear c0 r1
     go_wp2
     go_roundw
     case rel=>exact⟨k+1,by have:=HKN.out;omega,by go_num,by rw [HEB.out],T2⟩
     case measure=>have:=HKN.out;simp [intOf];omega
    ·obtain⟨r',hr',hr2⟩:=HR.out j (by omega)
     simp only [Option.some.injEq,Addr.mk.injEq,and_true] at hr'
     subst hr'
     have r2:=(hr2 _ HT.out).2
     clear hr2
     rw [hb] at eb ⊢
     obtain⟨u,hu⟩:∃u,vAt g.l j=u:=⟨_,rfl⟩
     rw [hu] at r2 eb
     have i2:(0:Int)≤j:=by omega
     have i3:(j:Int) < n:=by omega
     have b1:decide ((j:Int) < 0)=false:=by simp
     clear hb hj hr hhs hv hu hlt
     by_cases hc:v < u
     ·rw [if_pos ⟨rfl, .inr hc⟩] at eb
      have HEB:=xhd eb
      have b2:decide (v < u)=true:=by simpa using hc
      clear eb hc
      go_wp2_with fail
      go_quiet ((go_at_call 37;with_reducible exact Calls.quiet_of_same (HC.out _)))
      have T2:=xhd (HT.out.drewN nq)
      clear c0 r1 r2
      go_wp2
      go_roundw
      case rel=>exact⟨k+1,by have:=HKN.out;omega,by go_num,by rw [HEB.out],T2⟩
      case measure=>have:=HKN.out;simp [intOf];omega
     ·rw [if_neg (fun h=>h.2.elim (fun h=>by omega) hc)] at eb
      have HEB:=xhd eb
      have b2:decide (v < u)=false:=by simpa using hc
      clear eb hc
      go_wp2_with fail
      go_quiet ((go_at_call 37;with_reducible exact Calls.quiet_of_same (HC.out _)))
      have T2:=xhd (HT.out.drewN nq)
      clear c0 r1 r2
      go_wp2
      go_roundw
      case rel=>exact⟨k+1,by have:=HKN.out;omega,by go_num,by rw [HEB.out],T2⟩
      case measure=>have:=HKN.out;simp [intOf];omega
  ·have hkn:k=n:=by omega
   subst hkn
   go_wp2
   go_ret
   exact⟨rfl,HT.out⟩
theorem behindTo_top (ho:LgOk g n) (p:Int) (S:Nat):∀k,behindTo g.l p S k≤409530000000000*k
 |0=>Int.le_refl _
 |k+1=>by
  have h1:=behindTo_top ho p S k
  rw [behindTo_succ]
  have hg:gapAt g.l p k≤409530000000000:=by
   unfold gapAt
   split
   ·decide
   ·have hv:vAt g.l p≤18446744073709551615:=by
      unfold vAt
      split
      ·decide
      ·cases hx:g.l[p.toNat]? with
       |none=>decide
       |some x=>exact (ho.v x (List.mem_iff_getElem?.2 ⟨_,hx⟩)).2
    have hv2:0≤vAt g.l k:=by
     rw [vAt_nat]
     cases hx:g.l[k]? with
     |none=>decide
     |some x=>exact (ho.v x (List.mem_iff_getElem?.2 ⟨_,hx⟩)).1
    have hl:45045≤lockR (wtAt g.l k):=by
     rw [wtAt_nat]
     cases hx:g.l[k]? with
     |none=>decide
     |some x=>have:=ho.wt x (List.mem_iff_getElem?.2 ⟨_,hx⟩);exact lock_pos this.1 this.2
    refine updiv_le (by omega) ?_
    have:(409530000000000:Int)*45045≤409530000000000*lockR (wtAt g.l k):=Int.mul_le_mul_of_nonneg_left hl (by decide)
    omega
  split<;>omega
theorem vAt_word (ho:LgOk g n) (k:Nat):Word (vAt g.l k):=by
 rw [vAt_nat]
 cases hx:g.l[k]? with
 |none=>exact word_zero
 |some x=>exact ho.v x (List.mem_iff_getElem?.2 ⟨_,hx⟩)
theorem rbehind_any (h:R18 w b X g) (ho:LgOk g n) (p:Int) (S:Nat):Calls Tryd.prog 22 #[.pointer (some ⟨b,0,none⟩), .int .i64 p, .int .u64 S] w fun e w'=>e= .returned (.int .i64 (g.behind p S))∧Turned [] w w':=by
 have HI:=xhd (ris_any h p)
 have hl:=ho.len
 unfold Lg.behind
 cases hip:isP g p with
 |false=>
  rw [if_neg (by simp)]
  rw [hip] at HI
  clear h ho hip hl
  go_enter Tryd.func22,Tryd.ntmps22
  go_wp2_with fail
  with_reducible refine HI.out.mono ?_
  rintro e w1 ⟨rfl,rfl⟩
  go_wp2
  go_ret
  exact⟨rfl,Turned.refl _ _⟩
 |true=>
  rw [if_pos rfl]
  rw [hip] at HI
  obtain⟨p,rfl,hpl⟩:=isP_nat hip
  obtain⟨a,cap,hc0,hrr⟩:=h.reads
  have HC0:=xhd hc0
  have HR:=xhd hrr
  have HH:=xhd (fun (i:Int) (V:World)=>rhasS_same S i V)
  have HLK:=xhd (fun (k:Nat) (V:World)=>rlock_any (wtAt g.l k) V)
  have HTOP:=xhd (behindTo_top ho p S)
  have HNN:=xhd (behindTo_nonneg ho.wt p S)
  have HPOS:=xhd (fun k:Int=>wt_lock ho.wt k)
  have HVW:=xhd (vAt_word ho)
  have HLR:=xhd (fun k:Nat=>lock_range (wtAt g.l k))
  have j0:(0:Int)≤p:=by omega
  have j1:(p:Int) < (g.l.length:Nat):=by omega
  have HPL:=xhd hpl
  obtain⟨n',hn⟩:∃n,g.l.length=n:=⟨_,rfl⟩
  rw [hn] at HC0 HR hl j1 HPL ⊢
  clear h ho hip hn hpl hc0 hrr
  go_enter Tryd.func22,Tryd.ntmps22
  go_wp2_with fail
  with_reducible refine HI.out.mono ?_
  rintro e w1 ⟨rfl,rfl⟩
  clear HI
  go_wp2
  go_loopw [7,8] (fun o i V=>∃k:Nat,k≤n'∧i= .int .i64 k∧o= .int .i64 (behindTo g.l p S k)∧Hid (Turned [] w V)) (fun _ i _=>n' - (intOf i).toNat)
  case atStart=>exact⟨0,Nat.zero_le _,rfl,rfl,xhd (Turned.refl _ _)⟩
  case round=>
   obtain⟨k,hk,rfl,rfl,HT⟩:=hrel
   have c0:=HC0.out _ HT.out
   by_cases hlt:k < n'
   ·obtain⟨r,rfl,hr⟩:=HR.out k hlt
    obtain⟨r',hr',hr2⟩:=HR.out p HPL.out
    simp only [Option.some.injEq,Addr.mk.injEq,and_true] at hr'
    subst hr'
    have r1:=(hr _ HT.out).2
    have r2:=(hr2 _ HT.out).2
    have eb:=behindTo_succ g.l p S k
    have i0:(0:Int)≤k:=by omega
    have i1:(k:Int) < n':=by omega
    have HKN:=xhd hlt
    obtain⟨hs,hhs⟩:∃hs,hasN S k=hs:=⟨_,rfl⟩
    have HC:=xhd (fun V=>HH.out k V)
    rw [hhs] at HC eb
    obtain⟨v,hv⟩:∃v,vAt g.l k=v:=⟨_,rfl⟩
    obtain⟨u,hu⟩:∃u,vAt g.l p=u:=⟨_,rfl⟩
    have hvw:=HVW.out k
    have huw:=HVW.out p
    have htop1:=HTOP.out (k+1)
    have hnn:=HNN.out k
    have hpos:=HPOS.out k
    have hlr:=HLR.out k
    have HK2:=xhd (HLK.out k)
    have hga:gapAt g.l p k=if u≤v then 0 else upDiv (u - v) (lockR (wtAt g.l k)):=by unfold gapAt;rw [hv,hu]
    rw [hga] at eb
    rw [hv] at r1 hvw
    rw [hu] at r2 huw
    obtain⟨B1,hB1⟩:∃B,behindTo g.l p S (k+1)=B:=⟨_,rfl⟩
    rw [hB1] at eb htop1
    have HB1:=xhd hB1
    obtain⟨B,hB⟩:∃B,behindTo g.l p S k=B:=⟨_,rfl⟩
    rw [hB] at eb hnn ⊢
    by_cases hkp:(k:Int)=p
    ·have b1:((k:Int) == p)=true:=by simpa using hkp
     rw [if_neg (fun h=>h.1 hkp)] at eb
     have HEB:=xhd eb
     clear eb hr hr2 hhs hv hu hvw huw htop1 hnn hpos hlr hga hB1 hB hlt
     clear r1 r2
     have e:=hkp
     go_wp2_with fail
     go_quiet ((go_at_call 37;with_reducible exact Calls.quiet_of_same (HC.out _)))
     have T2:=xhd (HT.out.drewN nq)
     clear c0
     go_wp2
     go_roundw
     case rel=>exact⟨k+1,by have:=HKN.out;omega,by go_num,by rw [HB1.out,HEB.out],T2⟩
     case measure=>have:=HKN.out;simp [intOf];omega
    ·have b1:((k:Int) == p)=false:=by simpa using hkp
     cases hs with
     |false=>
      rw [if_neg (by simp)] at eb
      have HEB:=xhd eb
      clear eb hr hr2 hhs hv hu hvw huw htop1 hnn hpos hlr hga hB1 hB hlt
      go_wp2_with fail
      go_quiet ((go_at_call 37;with_reducible exact Calls.quiet_of_same (HC.out _)))
      have T2:=xhd (HT.out.drewN nq)
      clear c0 r1 r2
      go_wp2
      go_roundw
      case rel=>exact⟨k+1,by have:=HKN.out;omega,by go_num,by rw [HB1.out,HEB.out],T2⟩
      case measure=>have:=HKN.out;simp [intOf];omega
     |true=>
      rw [if_pos ⟨hkp,rfl⟩] at eb
      by_cases hc:u≤v
      ·rw [if_pos hc,Int.add_zero] at eb
       have HEB:=xhd eb
       have b2:decide (u≤v)=true:=by simpa using hc
       clear eb hr hr2 hhs hv hu hvw huw htop1 hnn hpos hlr hga hB1 hB hlt hc
       go_wp2_with fail
       go_quiet ((go_at_call 37;with_reducible exact Calls.quiet_of_same (HC.out _)))
       have T2:=xhd (HT.out.drewN nq)
       clear c0 r1 r2
       go_wp2
       go_roundw
       case rel=>exact⟨k+1,by have:=HKN.out;omega,by go_num,by rw [HB1.out,HEB.out],T2⟩
       case measure=>have:=HKN.out;simp [intOf];omega
      ·rw [if_neg hc] at eb
       have HEB:=xhd eb
       have b2:decide (u≤v)=false:=by simpa using hc
       have HC2:Hid (∀V,Turned [] w V→V.cell? ⟨b,0,none⟩=some (.slice (some ⟨r,0,none⟩) n' cap)∧V.cell? ⟨r,k*4,none⟩=some (.int .i64 (wtAt g.l k))∧V.cell? ⟨r,k*4+1,none⟩=some (.int .u64 v)∧V.cell? ⟨r,p*4+1,none⟩=some (.int .u64 u)):=xhd fun V tV=>by
        obtain⟨x0,x1⟩:=hr V tV
        obtain⟨_,y1⟩:=hr2 V tV
        rw [hv] at x1
        rw [hu] at y1
        exact⟨HC0.out V tV,x0,x1,y1⟩
       clear hr hr2 hhs hv hu hga hB1 hB hlt
       generalize lockR (wtAt g.l k)=c at hpos hlr HK2 eb HEB
       obtain⟨wk,hwk⟩:∃wk,wtAt g.l k=wk:=⟨_,rfl⟩
       rw [hwk] at HC2 HK2
       clear hwk
       have d0:IntKind.u64.wrap (u - v)=u - v:=by obtain⟨a1,a2⟩:=hvw;obtain⟨a3,a4⟩:=huw;rw [IntKind.wrap_u64];omega
       have hgap:0≤u - v:=by omega
       have hguw:u - v≤18446744073709551615:=by obtain⟨a1,a2⟩:=hvw;obtain⟨a3,a4⟩:=huw;omega
       have q0:0≤(u - v) / c:=Int.ediv_nonneg hgap (by omega)
       have q3:=Int.emod_nonneg (u - v) (show c≠0 by omega)
       have q4:=Int.emod_lt_of_pos (u - v) hpos
       have hup:upDiv (u - v) c=if 0 < (u - v) % c then (u - v) / c+1 else (u - v) / c:=rfl
       have q1:(u - v) / c≤upDiv (u - v) c:=by rw [hup];split<;>omega
       have td:(u - v).tdiv c=(u - v) / c:=Int.tdiv_eq_ediv_of_nonneg hgap
       have tm:(u - v).tmod c=(u - v) % c:=Int.tmod_eq_emod_of_nonneg hgap
       rw [hup] at eb q1
       obtain⟨G,hG⟩:∃G,u - v=G:=⟨_,rfl⟩
       rw [hG] at d0 td tm eb q0 q1 q3 q4 hguw
       obtain⟨Q,hQ⟩:∃Q,G / c=Q:=⟨_,rfl⟩
       obtain⟨M,hM⟩:∃M,G % c=M:=⟨_,rfl⟩
       rw [hQ] at td eb q0 q1
       rw [hM] at tm eb q1 q3 q4
       have hQu:IntKind.u64.wrap Q=Q:=by rw [IntKind.wrap_u64];have:=hnn;have:=htop1;omega
       have hQi:IntKind.i64.wrap Q=Q:=by rw [IntKind.wrap_i64];have:=htop1;omega
       have hMu:IntKind.u64.wrap M=M:=by rw [IntKind.wrap_u64];omega
       have hBQ:IntKind.i64.wrap (B+Q)=B+Q:=by rw [IntKind.wrap_i64];omega
       have hBQ1:IntKind.i64.wrap (B+Q+1)=B+Q+1:=by rw [IntKind.wrap_i64];omega
       have hcn:¬c=0:=by omega
       have HG:=xhd hG
       have HEB2:=xhd eb
       clear eb hup hvw huw htop1 hnn hlr hgap hguw q0 q1 q3 q4 hpos hQ hM hG hc HEB
       go_wp2_with fail
       go_quiet ((go_at_call 37;with_reducible exact Calls.quiet_of_same (HC.out _)))
       have T2:=xhd (HT.out.drewN nq)
       clear c0 r1 r2
       obtain⟨V2,hV2⟩:∃V2,wr.drewN nq=V2:=⟨_,rfl⟩
       rw [hV2] at T2
       simp only [hV2]
       clear hV2
       obtain⟨c0,r0,r1,r2⟩:=HC2.out _ T2.out
       go_wp2_with fail
       with_reducible refine (HK2.out _).mono ?_
       rintro e w3 ⟨rfl,rfl⟩
       go_wp2_with fail
       go_quiet (fail)
       have T4:=xhd (T2.out.drewN nq)
       clear c0 r0 r1 r2
       by_cases hm:0 < M
       ·have b3:decide (0 < M)=true:=by simpa using hm
        have hE:=HEB2.out
        rw [if_pos hm] at hE
        have HE:=xhd hE
        clear hE hm HEB2
        (try rw [HG.out])
        go_wp2
        go_roundw
        case rel=>exact⟨k+1,by have:=HKN.out;omega,by go_num,by rw [HB1.out,HE.out,Int.add_assoc],T4⟩
        case measure=>have:=HKN.out;simp [intOf];omega
       ·have b3:decide (0 < M)=false:=by simpa using hm
        have hE:=HEB2.out
        rw [if_neg hm] at hE
        have HE:=xhd hE
        clear hE hm HEB2
        (try rw [HG.out])
        go_wp2
        go_roundw
        case rel=>exact⟨k+1,by have:=HKN.out;omega,by go_num,by rw [HB1.out,HE.out],T4⟩
        case measure=>have:=HKN.out;simp [intOf];omega
   ·have hkn:k=n':=by omega
    subst hkn
    go_wp2
    go_ret
    exact⟨rfl,HT.out⟩
end
end Go.Proofs.YtcgjbllmoglhfaaDoor
namespace Go.Proofs.YtcgjbllmoglhfaaDoor
open Go.RowKit
structure Kept (X:List Nat) (n₀:Nat) (w w':World):Prop where
 os:w'.os=w.os
 tape:w'.tape=w.tape
 output:w'.output=w.output
 size:w.heap.size≤w'.heap.size
 block:∀k,k < n₀→k ∉ X→w'.heap[k]?=w.heap[k]?
theorem Kept.refl (X:List Nat) (n₀:Nat) (w:World):Kept X n₀ w w:=⟨rfl,rfl,rfl,Nat.le_refl _,fun _ _ _=>rfl⟩
theorem Kept.trans {X:List Nat} {n₀:Nat} {a b c:World} (h:Kept X n₀ a b) (g:Kept X n₀ b c):Kept X n₀ a c:=
 ⟨g.os.trans h.os,g.tape.trans h.tape,g.output.trans h.output,Nat.le_trans h.size g.size,fun k hk hx=>(g.block k hk hx).trans (h.block k hk hx)⟩
theorem Kept.drewN {X:List Nat} {n₀:Nat} {a b:World} (h:Kept X n₀ a b) (n:Nat):Kept X n₀ a (b.drewN n):=⟨h.os,h.tape,h.output,h.size,h.block⟩
theorem Kept.alloc {X:List Nat} {n₀:Nat} {a b:World} (h:Kept X n₀ a b) (hn:n₀≤b.heap.size) (o:Obj):Kept X n₀ a (b.alloc o):=
 ⟨h.os,h.tape,h.output,Nat.le_trans h.size (by simp),fun k hk hx=>(Below.heap_alloc b o k (by omega)).trans (h.block k hk hx)⟩
theorem Kept.setCell {X:List Nat} {n₀:Nat} {a b:World} (h:Kept X n₀ a b) {p:Addr} (hp:p.block ∈ X∨n₀≤p.block) (u:Value):Kept X n₀ a (b.setCell p u):=
 ⟨h.os,h.tape,h.output,Nat.le_trans h.size (by simp [World.setCell]),fun k hk hx=>
   (Below.heap_setCell b p u k (fun e=>by subst e;rcases hp with h1|h1;exact hx h1;omega)).trans (h.block k hk hx)⟩
theorem Kept.of_turned {X:List Nat} {n₀:Nat} {a b:World} (h:Turned X a b) (hn:n₀≤a.heap.size):Kept X n₀ a b:=⟨h.os,h.tape,h.output,h.size,fun k hk hx=>h.block k (by omega) hx⟩
theorem Kept.turned {X:List Nat} {n₀:Nat} {a b:World} (h:Kept X n₀ a b) (hn:a.heap.size≤n₀):Turned X a b:=⟨h.os,h.tape,h.output,h.size,fun k hk hx=>h.block k (by omega) hx⟩
theorem Kept.row {X:List Nat} {n₀:Nat} {a b:World} (h:Kept X n₀ a b) {base:Nat} {e:TypeId} {size:Nat} {v:Value} {n:Nat} {xs:List Value} (hr:a.ownsRow base e size v n xs) (hk:∀k ∈ v.ownBlock.toList,k < n₀∧k ∉ X):b.ownsRow base e size v n xs:=
 ownsRow_same hr fun k hv _=>h.block k (hk k hv).1 (hk k hv).2
theorem Kept.at {X:List Nat} {n₀:Nat} {a b:World} (h:Kept X n₀ a b) {k:Nat} {o:Obj} (ho:a.heap[k]?=some o) (hk:k < n₀) (hx:k ∉ X):b.heap[k]?=some o:=(h.block k hk hx).trans ho
end Go.Proofs.YtcgjbllmoglhfaaDoor
namespace Go.Proofs.YtcgjbllmoglhfaaDoor
open Go.RowKit
def SameAt (X:List Nat) (W W':World):Prop:=∀k ∈ X,W'.heap[k]?=W.heap[k]?
theorem SameAt.refl (X:List Nat) (W:World):SameAt X W W:=fun _ _=>rfl
theorem SameAt.trans {X:List Nat} {A B C:World} (h:SameAt X A B) (g:SameAt X B C):SameAt X A C:=fun k hk=>(g k hk).trans (h k hk)
theorem SameAt.of_turned {X Y:List Nat} {A B:World} (h:Turned Y A B) (hx:∀k ∈ X,k < A.heap.size∧k ∉ Y):SameAt X A B:=fun k hk=>h.block k (hx k hk).1 (hx k hk).2
structure Mild (X:List Nat) (B:Nat) (W W':World):Prop where
 os:W'.os=W.os
 tape:W'.tape=W.tape
 output:W'.output=W.output
 size:W.heap.size≤W'.heap.size
 same:∀(k:Nat) (o:Obj),W.heap[k]?=some o→k ∉ X→k < B∨o.isCells=true→W'.heap[k]?=some o
theorem Mild.of_turned {X:List Nat} {B:Nat} {W W':World} (h:Turned X W W'):Mild X B W W':=
 ⟨h.os,h.tape,h.output,h.size,fun _ _ ho hx _=>h.same ho hx⟩
theorem Mild.of_put {X:List Nat} {B l:Nat} {W:World} {o:Obj} (hl:W.heap[l]?=some o) (ho:o.isCells=false) (hB:B≤l) (o':Obj):Mild X B W (W.putObj l o'):=
 ⟨rfl,rfl,rfl,by simp,fun k u hu _ hk=>by
   have hne:k≠l:=by
    rintro rfl
    rw [hl] at hu
    cases hu
    rcases hk with h|h
    ·omega
    ·rw [ho] at h
     cases h
   exact (World.putObj_heap_other hne).trans hu⟩
def leftPost {α:Type} (B:Nat) (Y:List Nat) (I:List α→World→Prop) (Ix:Code→List α→World→Prop) (xs:List α) (W:World):Exit→Act→World→Prop
 | .normal,_,W'=>KeepsFrom B W W'∧SameAt Y W W'∧I xs W'
 | .ret,_,W'=>KeepsFrom B W W'∧SameAt Y W W'∧Ix .ret xs W'
 | .exit id,_,W'=>KeepsFrom B W W'∧SameAt Y W W'∧Ix (.exit id) xs W'
 | .goto t,_,W'=>KeepsFrom B W W'∧SameAt Y W W'∧Ix (.goto t) xs W'
 | .panic _,_,_=>False
 | .outgrown,_,_=>False
def TurnSeq {α:Type} (F:Fence) (n:Nat) (P:Program) (g:Nat) (lb:Array Value) (encs:α→Array Value) (X Y:List Nat) (Sp:List α→Prop) (S Sx:List α→World→Prop) (w:World):Prop:=
 ∀(l:Nat) (J Jx:List α→World→Prop) (W:World),Turned [] w W→(∀xs A B,J xs A→Turned X A B→J xs B)→
  (∀pre x A,J pre A→Sp (pre++[x])→YieldAt F (n - 1) P l (encs x) A fun e B=>
    SameAt Y A B∧A.heap.size≤B.heap.size∧((e= .returned (.bool true)∧J (pre++[x]) B)∨(e= .returned (.bool false)∧Jx (pre++[x]) B)))→
  J [] W→
  CallsIn F n P g (#[.func (.yield l) #[] #[]]++lb) W fun e W'=>(∃v,e= .returned v)∧((∃xs,S xs W'∧J xs W')∨(∃xs,Sx xs W'∧Jx xs W'))
variable {F:Fence} {n:Nat} {P:Program}
theorem range_turns {α:Type} {g:Operand} {ps:Array Tmp} {assign body:Code} {Q:Exit→Act→World→Prop} {a:Act} {w:World}
  (hro:F.round=none) (h1:1≤n) {gf:Nat} {lb:Array Value} (hg:a.eval g= .func (.func gf) #[] lb) (hFg:F.fn gf) (eg:∀args w,(callFunc gf args).run P w= .ok (.enter gf args) w)
  {encs:α→Array Value} {X Y:List Nat} {Sp:List α→Prop} {S Sx:List α→World→Prop} (hX:∀k ∈ X,k < w.heap.size) (hY:∀k ∈ Y,k < w.heap.size)
  (hseq:TurnSeq F (n - 1) P gf lb encs X Y Sp S Sx w) (hps:∀x,(encs x).size=ps.size)
  (hS:∀xs A B,S xs A→SameAt Y A B→S xs B) (hSx:∀xs A B,Sx xs A→SameAt Y A B→Sx xs B)
  (I:List α→World→Prop) (Ix:Code→List α→World→Prop) (hI:∀xs A B,I xs A→Mild X w.heap.size A B→I xs B) (hIx:∀c xs A B,Ix c xs A→Mild [] w.heap.size A B→Ix c xs B) (h0:I [] w)
  (Ax:α→Act→World→Prop) (hAx:∀x a' A B,Ax x a' A→Mild [] w.heap.size A B→Ax x a' B)
  (hassign:∀(l:Nat) (pre:List α) (x:α) (W:World) (K:Act→World→Prop),I pre W→(∀a' W',KeepsFrom w.heap.size W W'→SameAt Y W W'→I pre W'→Ax x a' W'→K a' W')→
    assign.wpIn (F.inRound l) (n - 1 - 1) P (Exit.then K (fun _ _ _=>False)) { tmps:=(ps.zip (encs x)).foldl (fun t (p,v)=>t.setIfInBounds p v) a.tmps,defers:=[] } W)
  (hbody:∀(l:Nat) (pre:List α) (x:α) (a':Act) (W:World),I pre W→Ax x a' W→Sp (pre++[x])→body.wpIn (F.inRound l) (n - 1 - 1) P (leftPost w.heap.size Y I Ix (pre++[x]) W) a' W)
  (hdone:∀(D:Nat) (xs:List α) (W:World),w.heap.size≤D→S xs W→I xs W→W.heap[D]?=some (.deferred (some []))→Q .normal { a with defers:= { target:= .collected D,args:= #[] } ::a.defers } W)
  (hstop:∀(D:Nat) (c:Code) (xs:List α) (W:World),w.heap.size≤D→Sx xs W→Ix c xs W→W.heap[D]?=some (.deferred (some []))→c.wpIn F n P Q { a with defers:= { target:= .collected D,args:= #[] } ::a.defers } W):
  (Code.rangeFunc g ps assign body).wpIn F n P Q a w:=by
 refine wpIn_rangeFunc fun fn hfn=>?_
 rw [hro]
 obtain⟨N,hN⟩:∃N,w.heap.size=N:=⟨_,rfl⟩
 obtain⟨R,hR⟩:∃R:LoopState→Option Code→Loop,∀st pe,R st pe= { state:=st,pending:=pe,fn,tmps:=a.tmps,params:=ps,assign,body,defers:=N } :=⟨_,fun _ _=>rfl⟩
 obtain⟨W0,hW0⟩:∃W0,(w.alloc (.deferred (some []))).alloc (.loop (R .ready none))=W0:=⟨_,rfl⟩
 have two:Turned [] w W0:=hW0 ▸ ((Turned.refl [] w).alloc _).alloc _
 have recL:W0.heap[N+1]?=some (.loop (R .ready none)):=by
  have h:=World.alloc_heap_new (w.alloc (.deferred (some []))) (.loop (R .ready none))
  rw [World.size_alloc,hN] at h
  rw [←hW0]
  exact h
 have recD:W0.heap[N]?=some (.deferred (some [])):=by
  have h:=World.alloc_heap_new w (.deferred (some []))
  rw [hN] at h
  rw [←hW0]
  exact (Below.heap_alloc _ _ _ (by simp;omega)).trans h
 rw [hN] at hI hIx hAx hassign hbody hdone hstop hX hY
 have offX:∀k,N≤k→k ∉ X:=fun k hk hx=>by have:=hX k hx;omega
 have offY:∀k ∈ Y,k≠N+1:=fun k hk e=>by have:=hY k hk;omega
 have turnY:∀(W:World) (o:Obj),SameAt Y W (W.putObj (N+1) o):=fun W o k hk=>World.putObj_heap_other (offY k hk)
 have done:∀(jump:Option Code) (W:World) (st:LoopState),W.heap[N+1]?=some (.loop (R st none))→W.heap[N]?=some (.deferred (some []))→∀st',(W.putObj (N+1) (.loop (R st' jump))).heap[N+1]?=some (.loop (R st' jump))∧(W.putObj (N+1) (.loop (R st' jump))).heap[N]?=some (.deferred (some [])):=
  fun jump W st hl hd st'=>⟨World.putObj_heap_same (Array.getElem?_eq_some_iff.1 hl).1,(World.putObj_heap_other (by omega)).trans hd⟩
 refine⟨N+1,[{ target:= .collected N,args:= #[] }],W0, { target:= .fn (.func gf) lb,args:= #[.func (.yield (N+1)) #[] #[]] },W0,gf, #[.func (.yield (N+1)) #[] #[]]++lb,W0,?_,?_,?_,?_,fun _=>h1,?_⟩
 ·rw [←hW0,hR, ←hN]
  exact run_enterLoop_outer _ _ _ _ _
 ·simp only [resolve,hg]
  simp [go_sem]
 ·intro f' hf'
  simp [Target.leads] at hf'
  subst hf'
  exact hFg
 ·simp [invoke,go_sem,eg]
 refine (hseq (N+1) (fun xs W=>(I xs W∧W.heap[N+1]?=some (.loop (R .ready none)))∧W.heap[N]?=some (.deferred (some [])))
  (fun xs W=>∃c,(Ix c xs W∧W.heap[N+1]?=some (.loop (R .done (some c))))∧W.heap[N]?=some (.deferred (some []))) W0 two ?_ ?_ ⟨⟨hI _ _ _ h0 (Mild.of_turned (two.mono (fun k hk=>by simp at hk))),recL⟩,recD⟩).mono ?_
 ·
  rintro xs A B ⟨⟨hi,hl⟩,hd⟩ ht
  exact⟨⟨hI _ _ _ hi (Mild.of_turned ht),ht.same hl (offX _ (by omega))⟩,ht.same hd (offX _ (Nat.le_refl _))⟩
 ·
  rintro pre x A ⟨⟨hi,hl⟩,hd⟩ hsp
  have hy:=run_yield (P:=P) (args:=encs x) hl (by rw [hR];exact hps x)
  rw [hR] at hy
  refine⟨fn,_,assign,body,hy,roundIn_of_wpIn hfn (hassign _ pre x A _ hi ?_)⟩
  intro a' B hka hya hia hax
  have hlB:=hka.same _ _ (by omega) hl rfl
  have hdB:=hka.same _ _ (Nat.le_refl _) hd rfl
  refine⟨_,run_beginRound hlB (by rw [hR]),?_⟩
  have hbusy:({ R .ready none with state:= .busy } :Loop)=R .busy none:=by rw [hR,hR]
  rw [hbusy]
  obtain⟨hlC,hdC⟩:=done none B .ready hlB hdB .busy
  have mB:∀Z,Mild Z N B (B.putObj (N+1) (.loop (R .busy none))):=fun Z=>Mild.of_put hlB rfl (by omega) _
  refine wpIn_mono (hbody _ pre x a' _ (hI _ _ _ hia (mB X)) (hAx _ _ _ _ hax (mB [])) hsp) ?_
  have fin:∀(jump:Option Code) (C:World),KeepsFrom N (B.putObj (N+1) (.loop (R .busy none))) C→SameAt Y (B.putObj (N+1) (.loop (R .busy none))) C→
    (Instr.endRound (N+1) jump).run P C= .ok (.bool jump.isNone) (C.putObj (N+1) (.loop (R (if jump.isNone then .ready else .done) jump)))∧C.heap[N+1]?=some (.loop (R .busy none))∧C.heap[N]?=some (.deferred (some []))∧
    SameAt Y A (C.putObj (N+1) (.loop (R (if jump.isNone then .ready else .done) jump)))∧A.heap.size≤(C.putObj (N+1) (.loop (R (if jump.isNone then .ready else .done) jump))).heap.size:=by
   intro jump C hk hyc
   have hl3:=hk.same _ _ (by omega) hlC rfl
   have hr:=run_endRound (P:=P) jump hl3
   rw [hR] at hr
   refine⟨?_,hl3,hk.same _ _ (Nat.le_refl _) hdC rfl,((hya.trans (turnY B _)).trans hyc).trans (turnY C _),?_⟩
   ·rw [hR]
    exact hr
   ·have h3:=hka.size
    have h4:=hk.size
    simp at h4 ⊢
    omega
  rintro e a3 C hp
  cases e with
  |normal=>
   obtain⟨hk,hyc,hi3⟩:=hp
   obtain⟨hr,hl3,hd3,hyy,hsz⟩:=fin none C hk hyc
   obtain⟨e1,e2⟩:=done none C .busy hl3 hd3 .ready
   exact⟨_,_,hr,hyy,hsz, .inl ⟨rfl,⟨hI _ _ _ hi3 (Mild.of_put hl3 rfl (by omega) _),e1⟩,e2⟩⟩
  |ret=>
   obtain⟨hk,hyc,hi3⟩:=hp
   obtain⟨hr,hl3,hd3,hyy,hsz⟩:=fin (some .ret) C hk hyc
   obtain⟨e1,e2⟩:=done (some .ret) C .busy hl3 hd3 .done
   exact⟨_,_,hr,hyy,hsz, .inr ⟨rfl, .ret,⟨hIx _ _ _ _ hi3 (Mild.of_put hl3 rfl (by omega) _),e1⟩,e2⟩⟩
  |exit id=>
   obtain⟨hk,hyc,hi3⟩:=hp
   obtain⟨hr,hl3,hd3,hyy,hsz⟩:=fin (some (.exit id)) C hk hyc
   obtain⟨e1,e2⟩:=done (some (.exit id)) C .busy hl3 hd3 .done
   exact⟨_,_,hr,hyy,hsz, .inr ⟨rfl, .exit id,⟨hIx _ _ _ _ hi3 (Mild.of_put hl3 rfl (by omega) _),e1⟩,e2⟩⟩
  |goto t=>
   obtain⟨hk,hyc,hi3⟩:=hp
   obtain⟨hr,hl3,hd3,hyy,hsz⟩:=fin (some (.goto t)) C hk hyc
   obtain⟨e1,e2⟩:=done (some (.goto t)) C .busy hl3 hd3 .done
   exact⟨_,_,hr,hyy,hsz, .inr ⟨rfl, .goto t,⟨hIx _ _ _ _ hi3 (Mild.of_put hl3 rfl (by omega) _),e1⟩,e2⟩⟩
  |panic ch=>exact hp.elim
  |outgrown=>exact hp.elim
 ·
  rintro e W2 ⟨⟨v,rfl⟩,⟨xs,hs,⟨hi,hl⟩,hd⟩ |⟨xs,hs,c,⟨hi,hl⟩,hd⟩⟩
  ·have hr:=run_endLoop (P:=P) hl (by rw [hR];simp)
   rw [hR] at hr
   exact⟨none,_,hr,hdone _ xs _ (Nat.le_refl _) (hS _ _ _ hs (turnY W2 _)) (hI _ _ _ hi (Mild.of_put hl rfl (by omega) _)) ((World.putObj_heap_other (by omega)).trans hd)⟩
  ·have hr:=run_endLoop (P:=P) hl (by rw [hR];simp)
   rw [hR] at hr
   exact⟨some c,_,hr,hstop _ c xs _ (Nat.le_refl _) (hSx _ _ _ hs (turnY W2 _)) (hIx _ _ _ _ hi (Mild.of_put hl rfl (by omega) _)) ((World.putObj_heap_other (by omega)).trans hd)⟩
theorem range_turns_plain {α:Type} {g:Operand} {ps:Array Tmp} {assign body:Code} {Q:Exit→Act→World→Prop} {a:Act} {w:World}
  (hro:F.round=none) (h1:1≤n) {gf:Nat} {lb:Array Value} (hg:a.eval g= .func (.func gf) #[] lb) (hFg:F.fn gf) (eg:∀args w,(callFunc gf args).run P w= .ok (.enter gf args) w)
  {encs:α→Array Value} {X Y:List Nat} {Sp:List α→Prop} {S Sx:List α→World→Prop} (hX:∀k ∈ X,k < w.heap.size) (hY:∀k ∈ Y,k < w.heap.size)
  (hseq:TurnSeq F (n - 1) P gf lb encs X Y Sp S Sx w) (hps:∀x,(encs x).size=ps.size)
  (hS:∀xs A B,S xs A→SameAt Y A B→S xs B) (hSx:∀xs A B,Sx xs A→SameAt Y A B→Sx xs B)
  (I:List α→World→Prop) (Ix:Code→List α→World→Prop) (hI:∀xs A B,I xs A→Mild X w.heap.size A B→I xs B) (hIx:∀c xs A B,Ix c xs A→Mild [] w.heap.size A B→Ix c xs B) (h0:I [] w)
  (a₁:α→Act)
  (hassign:∀(l:Nat) (x:α) (W:World) (K:Act→World→Prop),K (a₁ x) W→
    assign.wpIn (F.inRound l) (n - 1 - 1) P (Exit.then K (fun _ _ _=>False)) { tmps:=(ps.zip (encs x)).foldl (fun t (p,v)=>t.setIfInBounds p v) a.tmps,defers:=[] } W)
  (hbody:∀(l:Nat) (pre:List α) (x:α) (W:World),I pre W→Sp (pre++[x])→body.wpIn (F.inRound l) (n - 1 - 1) P (leftPost w.heap.size Y I Ix (pre++[x]) W) (a₁ x) W)
  (hdone:∀(D:Nat) (xs:List α) (W:World),w.heap.size≤D→S xs W→I xs W→W.heap[D]?=some (.deferred (some []))→Q .normal { a with defers:= { target:= .collected D,args:= #[] } ::a.defers } W)
  (hstop:∀(D:Nat) (c:Code) (xs:List α) (W:World),w.heap.size≤D→Sx xs W→Ix c xs W→W.heap[D]?=some (.deferred (some []))→c.wpIn F n P Q { a with defers:= { target:= .collected D,args:= #[] } ::a.defers } W):
  (Code.rangeFunc g ps assign body).wpIn F n P Q a w:=by
 refine range_turns hro h1 hg hFg eg hX hY hseq hps hS hSx I Ix hI hIx h0 (fun x a' _=>a'=a₁ x) (fun _ _ _ _ h _=>h) ?_ ?_ hdone hstop
 ·intro l pre x W K hi hK
  exact hassign l x W K (hK _ _ (KeepsFrom.refl _ _) (SameAt.refl _ _) hi rfl)
 ·rintro l pre x a' W hi rfl hsp
  exact hbody l pre x W hi hsp
end Go.Proofs.YtcgjbllmoglhfaaDoor
namespace Go.Proofs.YtcgjbllmoglhfaaDoor
open Go
def noDefer (l:List Oper):Bool:=l.all fun o=>match o.op with| .defer _=>false|_=>true
theorem noDefer_spec {ops:Array Oper} (h:noDefer ops.toList=true) {i:Nat} {o:Oper} (hi:ops[i]?=some o):∀c,o.op≠ .defer c:=by
 intro c hc
 have h1:=List.all_eq_true.1 h o (by rw [←Array.getElem?_toList] at hi;exact List.mem_of_getElem? hi)
 rw [hc] at h1
 simp at h1
theorem Oper.wpIn_of_wp {P:Program} {o:Oper} {a:Act} {w:World} {K K':Act→World→Prop} {Q:Exit→Act→World→Prop} {l n:Nat} (hnd:∀c,o.op≠ .defer c) (hK:∀a w,K a w→K' a w)
  (h:o.wp P a w K Q):o.wpIn (Fence.wide.inRound l) n P a w K' Q:=by
 unfold Oper.wp at h
 unfold Oper.wpIn
 refine⟨fun _ _=>trivial,?_⟩
 rw [Oper.semAt_eq _ _ _ hnd]
 generalize (execOp a.eval o).run P w=r at*
 cases r with
 |ok x w'=>
  cases x<;>simp only [Oper.upon] at h<;>simp only [Oper.uponIn]
  case value v=>exact hK _ _ h
  case skip=>exact hK _ _ h
  case defer d=>exact hK _ _ h
  case enter f args=>
   refine⟨fun e=>by simp [Fence.wide] at e,CallsIn.inRound l (callsIn_wide.2 (h.mono ?_))⟩
   intro e w'' he
   cases e with
   |returned v=>exact hK _ _ he
   |panicked c=>exact he
   |outgrown=>exact he
  case row row args=>
   refine⟨fun e=>by simp [Fence.wide] at e,?_⟩
   have hr:RowsIn Fence.wide (n - 1) P row args w' (fun v w''=>K' (a.put o.dst v) w''):=fun c cs _=>let ⟨v,w'',r,s⟩:=h c cs;⟨v,w'',hK _ _ r,stepsIn_wide.2 s⟩
   exact hr
 |halt x w'=>
  cases x<;>simp only [Oper.upon] at h<;>simp only [Oper.uponIn]
  exact h
section
variable {P:Program} {ops:Array Oper} {md:Region.Mode} {Q:Exit→Act→World→Prop} {r n:Nat}
theorem wpOpIn_of_wpOp (hnd:noDefer ops.toList=true) (hQ:¬LetsOut Q) {i:Nat} {K K':Act→World→Prop} {a:Act} {w:World} (hK:∀a w,K a w→K' a w) (h:wpOp P ops Q i K a w):
  wpOpIn (Fence.wide.inRound r) n P ops Q i K' a w:=by
 unfold wpOp at h
 unfold wpOpIn
 cases ho:ops[i]? with
 |none=>simp only [ho] at h ⊢;exact hK _ _ h
 |some o=>
  simp only [ho] at h ⊢
  by_cases hw:Region.wanted o (yielded ops a.tmps)=true
  ·simp only [hw,if_true] at h ⊢
   rcases h with h|h
   ·exact Oper.wpIn_of_wp (noDefer_spec hnd ho) hK h
   ·exact absurd h.2 hQ
  ·simp only [hw] at h ⊢
   exact⟨fun _ _=>trivial,hK _ _ h⟩
theorem wpAnyIn_of_wpAny (hnd:noDefer ops.toList=true) (hQ:¬LetsOut Q):∀(fuel:Nat) (listed:Array Bool) (a:Act) (w:World),wpAny P md ops Q fuel listed a w→wpAnyIn (Fence.wide.inRound r) n P md ops Q fuel listed a w
 |0,_,_,_,h=>h
 |fuel+1,_,_,_,h=>⟨h.1,fun i hi=>wpOpIn_of_wpOp hnd hQ (fun a' w' h'=>wpAnyIn_of_wpAny hnd hQ fuel _ a' w' h') (h.2 i hi)⟩
end
theorem wpRound_quiet {P:Program} {id r n:Nat} {Q:Exit→Act→World→Prop} {a:Act} {w:World} {l:List Oper} (hnd:noDefer l=true) (hQ:¬LetsOut Q) (hm:P.follows .mixedOrders=true) (hB:Region.lexB .any l.toArray=true)
  (h:wpQuiet P l.toArray (fun w'=>∃n,w'=w.drewN n) (fun a'=>∀w',(∃n,w'=w.drewN n)→Q .normal a' w') l a):(Code.region id l.toArray true).wpIn (Fence.wide.inRound r) n P Q a w:=by
 simp only [Region.lexB,Bool.and_eq_true] at hB
 refine wpIn_region_any hm (wpAnyIn_of_wpAny (by simpa using hnd) hQ _ _ _ _ ?_)
 refine wpAny_of_quiet (C:=fun w'=>∃n,w'=w.drewN n) (Q:=fun a'=>∀w',(∃n,w'=w.drewN n)→Q .normal a' w') (fun _ w' hw' h=>h w' hw') _ _ _ _ ⟨1,rfl⟩ ?_
 have:=wpAnyQ_lex (C:=fun w'=>∃n,w'=w.drewN n) (md:= .any) hB.1 l 0 (Array.replicate l.toArray.size false) a (by simp) (by simpa using hB.2) h
 simpa using this
end Go.Proofs.YtcgjbllmoglhfaaDoor
namespace Go.Proofs.YtcgjbllmoglhfaaDoor
open Go.RowKit
theorem cell1 {w:World} {b:Nat} {x:Value} {t:TypeId} (h:w.heap[b]?=some (.cells #[x] t (0,0))):w.cell? ⟨b,0,none⟩=some x:=by simp [World.cell?,h]
theorem Turned.mild {X Y:List Nat} {N:Nat} {w A B:World} (h:Turned Y w A) (m:Mild X N A B) (hN:w.heap.size≤N) (hX:∀k ∈ X,w.heap.size≤k):Turned Y w B:=
 ⟨m.os.trans h.os,m.tape.trans h.tape,m.output.trans h.output,Nat.le_trans h.size m.size,fun k hk hy=>by
   have h1:=h.block k hk hy
   have h2:A.heap[k]?=some (A.heap[k]'(by have:=h.size;omega)):=Array.getElem?_eq_getElem _
   rw [m.same k _ h2 (fun hx=>by have:=hX k hx;omega) (.inl (by omega)), ←h2,h1]⟩
theorem Mild.cells {X:List Nat} {N k:Nat} {A B:World} {cs:Array Value} {t:TypeId} {f:Nat×Nat} (m:Mild X N A B) (h:A.heap[k]?=some (.cells cs t f)) (hx:k ∉ X):B.heap[k]?=some (.cells cs t f):=m.same k _ h hx (.inr rfl)
theorem Turned.trans' {X Y:List Nat} {a b c:World} (h:Turned X a b) (g:Turned Y b c) (hs:∀k ∈ Y,a.heap.size≤k):Turned X a c:=h.trans g (fun k hk=> .inr (hs k hk))
theorem Turned.put {X:List Nat} {a b:World} (h:Turned X a b) {l:Nat} (hl:a.heap.size≤l) (o:Obj):Turned X a (b.putObj l o):=
 h.grown (grownBy_putObj' b l o) (fun k e=> .inr (by cases e;exact hl))
theorem LAt.mild {α:Type} {tS tE:TypeId} {k:Nat} {enc:α→List Value} {cs:Value→Array Value} {A B:World} {b:Nat} {Z X:List Nat} {N:Nat} {L:List α} (h:LAt tS tE k enc cs A b Z L) (m:Mild X N A B) (hd:∀k ∈ Z,k ∉ X):LAt tS tE k enc cs B b Z L:=by
 obtain⟨v,h1,h2,rfl⟩:=h
 refine⟨v,m.cells h1 (hd _ (by simp)),ownsRow_same h2 (fun k hk _=>?_),rfl⟩
 obtain⟨cur,hc⟩:=ownsRow_type h2 k hk
 rw [m.cells hc (hd k (List.mem_cons_of_mem _ hk)),hc]
theorem LAt.isCells {α:Type} {tS tE:TypeId} {k:Nat} {enc:α→List Value} {cs:Value→Array Value} {A:World} {b:Nat} {Z:List Nat} {L:List α} (h:LAt tS tE k enc cs A b Z L):∀k ∈ Z,∃c t,A.heap[k]?=some (.cells c t (0,0)):=by
 obtain⟨v,h1,h2,rfl⟩:=h
 intro k hk
 rcases List.mem_cons.1 hk with rfl|hk
 ·exact⟨_,_,h1⟩
 ·obtain⟨cur,hc⟩:=ownsRow_type h2 k hk
  exact⟨cur,_,hc⟩
end Go.Proofs.YtcgjbllmoglhfaaDoor
