/-
  From a walk to a row: slices of deeds and of integers, opened to their cells; what a law's row asks of the world behind the call.
  Plain arithmetic for numbers of 64 bits: words, the two halves of a product of 128 bits, order, distance. No program in sight.
  Plain arithmetic of numbers in digits of 16 bits, the lowest first. No program in sight.
  No contract of the shelf is wanted here: the seat's own program alone.
  The library's calls that fixq is made of, over whole numbers: bits.Add64, bits.Sub64, bits.Mul64, bits.LeadingZeros64, cmp.Compare.
  Numbers of 128 bits: what product, order and apart of package fixq answer.
  Numbers in digits, in memory; the reference's at and longer.
  The reference's number, Sum and Fits.
  The reference's Times.
  The reference's Less and Minus.
  What the reference's Add, Sub, Mul, Compare and Near answer, at every argument.
  Shares by weight, plainly: who is ahead of a floor by no more than a reach has a fair share. No program.
  The document's Bring, Core, Lock, Reach, Slack, Clamp.
  A queue, plainly: who is added, removed, weighed, picked, ticked, settled; each task is, behind each go, from the floor up to that and its reach. No program.
  Who is ready, in order, plainly: the first in order is the least. No program.
  Memory of one's own, told by the numbers of its blocks: what a call may have turned, and what stays. No program.
  append onto a row of one's own: where the longer row lies. No program.
  A list of like things, its cells in a row of one's own that a field of a block holds: what appends, removals and stores make of it. No program.
  The document's queue in memory: New, At, Load, Back.
  Sums of brought ticks and weights, as they grow; how great they are. No program.
-/
import Derived.Test.YtfmciiffcmfagaaRows
import Derived.WalkKit
import Derived.ProofKit
import Derived.OpenShut
import Derived.Deep.Slices
import Derived.Deep.Fields
import Derived.ChangeSame
import Derived.Below
import Derived.Test.YtfmciiffcmfagaaProg
import Derived.Shelf.Spec.BitsCarry
import Derived.WalkSpells
import Derived.WalkLawsBesides
import Derived.Lib.Hide
import Derived.Deep.QuietTactic
import Derived.BigQuiet
import Derived.Deep.LoopGhost
import Derived.Test.YtfmciiffcmfagaaChecked
import Derived.OneCell
import Derived.WalkSmall
import Derived.OwnWalk
import Derived.ArgAppend
import Derived.Laws.AppendOwnNone
import Derived.Maps.AppendAt
import Derived.RegionTactic
import Derived.Test.YtfmciiffcmfagaaZAl
set_option maxRecDepth 100000
set_option maxHeartbeats 25600000
namespace Go.Proofs.Ytfmciiffcmfagaa
open Go.ChangeShapes Go.WideShapes Go.ChangeAt Go.RowKit Go.Deep
theorem own:ownKnob Try.prog.godebug=none:=by kernel_rfl
theorem laidOut:laidOutB Try.prog=true:=by kernel_rfl
section
variable {H:Type} {enc:TypeId×Value→H} {P:Program}
theorem post_law {f:Func} {s:ChangeSpec} {apart fresh handsOn:Bool} {W W':World} {args:Array Value} {v:Value} {ds gs:List (DataW H)} {before pa pv:List MemPlace}
  (hW:DataW.Whole enc P f.params.toList s.vars apart W args.toList ds gs before) (hb:Below W.heap.size W W')
  (hres:∀(b:Nat) (sp:Nat→Bool) (hd:Bool),DataW.TrodAll enc P W' b sp hd f.resultTypes.toList (v.resultList f.resultTypes.size) (s.fn H (ds++gs)).results [])
  (hargs:DataW.TrodAll enc P W' 0 (fun b=>decide (b < W.heap.size)) true f.params.toList args.toList (s.fn H (ds++gs)).args pa)
  (hvars:DataW.TrodVars enc P W' (fun b=>decide (b < W.heap.size)) s.vars (s.fn H (ds++gs)).vars pv):s.post enc P f apart fresh handsOn false W args v W':=by
 exact⟨ds,gs,before,[],pa,pv,hW,hres _ _ _,hargs,hvars,hb.frame _,fun h=>by cases h⟩
variable {w:World} {base:Nat} {spare:Nat→Bool} {held:Bool}
theorem spot_none {w:World} {a:Addr} {v:Value} (h:w.cell? a=some v):∃b off,a=⟨b,off,none⟩∧b < w.heap.size:=by
 have hb:=World.block_lt_of_cell? w a h
 obtain⟨b,off,s⟩:=a
 cases s with
 |none=>exact⟨b,off,rfl,hb⟩
 |some s=>
  unfold World.cell? at h
  split at h<;>simp at h
end
end Go.Proofs.Ytfmciiffcmfagaa
namespace Go.Proofs.Ytfmciiffcmfagaa
def Word (x:Int):Prop:=0≤x∧x≤18446744073709551615
theorem Word.lo {x:Int} (h:Word x):0≤x:=h.1
theorem Word.hi {x:Int} (h:Word x):x≤18446744073709551615:=h.2
def hiW (x:Int):Int:=x / 18446744073709551616
def loW (x:Int):Int:=x % 18446744073709551616
def satV (x:Int):Int:=if x≤18446744073709551615 then x else 18446744073709551615
def satE (x:Int):Int:=if x≤18446744073709551615 then 0 else 2
theorem satV_fit {x:Int} (h:x≤18446744073709551615):satV x=x:=if_pos h
theorem satE_fit {x:Int} (h:x≤18446744073709551615):satE x=0:=if_pos h
theorem satV_big {x:Int} (h:¬x≤18446744073709551615):satV x=18446744073709551615:=if_neg h
theorem satE_big {x:Int} (h:¬x≤18446744073709551615):satE x=2:=if_neg h
def subV (a b:Int):Int:=if a < b then 0 else a - b
def subE (a b:Int):Int:=if a < b then 2 else 0
def P (k:Nat):Int:=65536 ^ k
theorem P_add (i k:Nat):P (i+k)=P i*P k:=Int.pow_add _ _ _
def pv (f:Nat→Int):Nat→Int
 |0=>0
 |k+1=>pv f k+f k*P k
def dg (l:List Int) (k:Nat):Int:=l.getD k 0
def val (l:List Int):Int:=pv (dg l) l.length
def Digit (d:Int):Prop:=0≤d∧d≤65535
def Good (l:List Int):Prop:=∀k,Digit (dg l k)
end Go.Proofs.Ytfmciiffcmfagaa
namespace Go.Proofs.Ytfmciiffcmfagaa
open Go.RowKit Go.Shelf
theorem add64 (x y:Int) (hx:Word x) (hy:Word y) (w:World):(callFunc 56 #[.int .u64 x, .int .u64 y, .int .u64 0]).run Try.prog w=
  .ok (.value (.tuple #[.int .u64 (loW (x+y)), .int .u64 (hiW (x+y))])) w:=by
 obtain⟨x0,x1⟩:=hx
 obtain⟨y0,y1⟩:=hy
 obtain⟨x,rfl⟩:=Int.eq_ofNat_of_zero_le x0
 obtain⟨y,rfl⟩:=Int.eq_ofNat_of_zero_le y0
 have h:=run_callFunc_extern (P:=Try.prog) Try.func56 (by kernel_rfl) (by kernel_rfl) (by kernel_rfl) (e:=add64Entry) (by kernel_rfl) (args:= #[.int .u64 (x:Int), .int .u64 (y:Int), .int .u64 0]) (w:=w)
 have h2:=run_add64 (P:=Try.prog) x y 0 (by omega) (by omega) (by omega) (by omega) w
 rw [h2] at h
 simp only [Result.andThen,Int.add_zero] at h
 exact h
def Digs (w:World) (v:Value) (l:List Int):Prop:=
 (v= .slice none 0 0∧l=[])∨∃g o c,v= .slice (some ⟨g,o,none⟩) l.length c∧l.length≤c∧c≤maxLen∧g < w.heap.size∧∀i,i < l.length→w.cell? ⟨g,o+i,none⟩=some (.int .u64 (dg l i))
theorem Digs.below {w w':World} {v:Value} {l:List Int} (h:Digs w v l) (hb:Below w.heap.size w w'):Digs w' v l:=by
 rcases h with h|⟨g,o,c,h1,h2,h3,h4,h5⟩
 ·exact .inl h
 ·exact .inr ⟨g,o,c,h1,h2,h3,Nat.lt_of_lt_of_le h4 hb.size,fun i hi=>(hb.cell (p:=⟨g,o+i,none⟩) h4).trans (h5 i hi)⟩
structure Num (w:World) (v:Value) (X:Int) (m:Nat):Prop where
 digs:∃L,Digs w v L∧Good L∧val L=X∧L.length≤m
theorem Num.below {w w':World} {v:Value} {X:Int} {m:Nat} (h:Num w v X m) (hb:Below w.heap.size w w'):Num w' v X m:=by
 obtain⟨L,h1,h2,h3,h4⟩:=h.digs
 exact⟨L,h1.below hb,h2,h3,h4⟩
theorem Num.mono {w:World} {v:Value} {X:Int} {m m':Nat} (h:Num w v X m) (hm:m≤m'):Num w v X m':=by
 obtain⟨L,h1,h2,h3,h4⟩:=h.digs
 exact⟨L,h1,h2,h3,by omega⟩
def Zeros (L:List Int) (k:Nat):Prop:=∀j,4≤j→j < k→dg L j=0
theorem Zeros.succ {L:List Int} {k:Nat} (h:Zeros L k) (h0:dg L k=0):Zeros L (k+1):=fun j h4 hj=>by
 by_cases e:j=k
 ·rw [e];exact h0
 ·exact h j h4 (by omega)
theorem Digs.cellAt {w:World} {A:Option Addr} {c:Nat} {L:List Int} (h:Digs w (.slice A L.length c) L):∀wr:World,Below w.heap.size w wr→∀k,k < L.length→∃g o,A=some ⟨g,o,none⟩∧wr.cell? ⟨g,o+k,none⟩=some (.int .u64 (dg L k)):=by
 intro wr hb k hk
 rcases h.below hb with⟨_,h2⟩ |⟨g,o,c',h1,_,_,_,h5⟩
 ·subst h2;simp at hk
 ·simp only [Value.slice.injEq] at h1
  exact⟨g,o,h1.1,h5 k hk⟩
end Go.Proofs.Ytfmciiffcmfagaa
namespace Go.Proofs.Ytfmciiffcmfagaa
def bringR (n lo hi:Int):Int:=if n < lo then lo else if hi < n then hi else n
theorem bring_in {n lo hi:Int} (h0:lo≤n) (h1:n≤hi):bringR n lo hi=n:=by
 unfold bringR
 rw [if_neg (by omega),if_neg (by omega)]
theorem bring_range {n lo hi:Int} (h:lo≤hi):lo≤bringR n lo hi∧bringR n lo hi≤hi:=by
 unfold bringR
 split
 ·omega
 ·split<;>omega
def sumR (l:List Int):Int:=l.foldr (· + ·) 0
end Go.Proofs.Ytfmciiffcmfagaa
namespace Go.Proofs.Ytfmciiffcmfagaa
open Go.RowKit
def coreR (n:Int):Int:=1099511627776 / bringR n 1 4096
def reachR (n g:Int):Int:=coreR n*bringR g 1 8
def clampR (v f r:Int):Int:=if v < f then f else if satV (f+r) < v then satV (f+r) else v
theorem core_range (n:Int):0≤coreR n∧coreR n≤1099511627776:=by
 unfold coreR
 have:=bring_range (n:=n) (lo:=1) (hi:=4096) (by decide)
 constructor
 ·exact Int.ediv_nonneg (by decide) (by omega)
 ·exact Int.ediv_le_self _ (by decide)
theorem reach_range (n g:Int):0≤reachR n g∧reachR n g≤8796093022208:=by
 unfold reachR
 have h1:=core_range n
 have h2:=bring_range (n:=g) (lo:=1) (hi:=8) (by decide)
 obtain⟨c,hc⟩:∃c,coreR n=c:=⟨_,rfl⟩
 obtain⟨b,hb⟩:∃b,bringR g 1 8=b:=⟨_,rfl⟩
 rw [hc] at h1 ⊢
 rw [hb] at h2 ⊢
 constructor
 ·exact Int.mul_nonneg h1.1 (by omega)
 ·have:=Int.mul_le_mul h1.2 h2.2 (by omega) (by omega)
  omega
end Go.Proofs.Ytfmciiffcmfagaa
namespace Go.Proofs.Ytfmciiffcmfagaa
structure Rq where
 g:Int
 f:Int
 l:List (Int×Int×Int)
 cur:Int
 ran:Int
def findQ:List (Int×Int×Int)→Int→Option (Int×Int)
 |[],_=>none
 |x::l,id=>if x.1=id then some x.2 else findQ l id
def minQ:List (Int×Int×Int)→Int→Int
 |[],m=>m
 |x::l,m=>minQ l (if x.2.1 < m then x.2.1 else m)
def Rq.new (grain:Int):Rq:=⟨bringR grain 1 8,0,[], -1,0⟩
def Rq.place (q:Rq) (v w:Int):Int:=clampR v q.f (reachR w q.g)
def Rq.add (q:Rq) (id v w:Int):Rq:=if id < 0∨(findQ q.l id).isSome=true∨16≤q.l.length then q else { q with l:=q.l++[(id,q.place v (bringR w 1 4096),bringR w 1 4096)] }
def Rq.remove (q:Rq) (id:Int):Rq:=if (findQ q.l id).isSome=true then { q with l:=q.l.filter (fun x=>decide (x.1≠id)),cur:=if q.cur=id then -1 else q.cur,ran:=if q.cur=id then 0 else q.ran } else q
def Rq.weigh (q:Rq) (id w:Int):Rq:=match findQ q.l id with
 |none=>q
 |some x=> { q with l:=q.l.map (fun y=>if y.1=id then (y.1,q.place y.2.1 (bringR w 1 4096),bringR w 1 4096) else y),ran:=if x.2≠bringR w 1 4096∧q.cur=id then q.g else q.ran }
def Rq.ready (q:Rq):List (Int×Int×Int):=q.l.filter (fun x=>decide (x.1≠q.cur))
def Rq.settle (q:Rq):Rq:=match q.l with
 |[]=>q
 |x::l=> { q with f:=if q.f < minQ l x.2.1 then minQ l x.2.1 else q.f }
theorem minQ_le:∀(l:List (Int×Int×Int)) (m:Int),minQ l m≤m∧∀x ∈ l,minQ l m≤x.2.1
 |[],m=>⟨Int.le_refl _,fun x hx=>by cases hx⟩
 |y::l,m=>by
  have hk:(if y.2.1 < m then y.2.1 else m)≤m∧(if y.2.1 < m then y.2.1 else m)≤y.2.1:=by split<;>omega
  obtain⟨a,b⟩:=minQ_le l (if y.2.1 < m then y.2.1 else m)
  unfold minQ
  generalize (if y.2.1 < m then y.2.1 else m)=k at hk a b
  refine⟨by omega,fun x hx=>?_⟩
  rcases List.mem_cons.1 hx with rfl|hx
  ·omega
  ·exact b x hx
theorem minQ_ge:∀(l:List (Int×Int×Int)) (m c:Int),c≤m→(∀x ∈ l,c≤x.2.1)→c≤minQ l m
 |[],_,_,h,_=>h
 |y::l,m,c,h,h2=>by
  unfold minQ
  refine minQ_ge l _ c ?_ (fun x hx=>h2 x (by simp [hx]))
  have:=h2 y (by simp)
  split<;>omega
theorem findQ_mem:∀ {l:List (Int×Int×Int)} {id:Int} {x:Int×Int},findQ l id=some x→(id,x) ∈ l
 |y::l,id,x,h=>by
  unfold findQ at h
  split at h
  ·next hc=>
   simp only [Option.some.injEq] at h
   subst h hc
   simp
  ·exact List.mem_cons_of_mem _ (findQ_mem h)
theorem findQ_none:∀ {l:List (Int×Int×Int)} {id:Int},findQ l id=none→∀x ∈ l,x.1≠id
 |y::l,id,h,x,hx=>by
  unfold findQ at h
  split at h
  ·cases h
  ·next hc=>
   rcases List.mem_cons.1 hx with rfl|hx
   ·exact hc
   ·exact findQ_none h x hx
theorem findQ_one {l:List (Int×Int×Int)} (hu:(l.map (·.1)).Nodup):∀ {x y:Int×Int×Int},x ∈ l→y ∈ l→x.1=y.1→x=y:=by
 induction l with
 |nil=>intro x y hx;cases hx
 |cons z l ih=>
  intro x y hx hy e
  simp only [List.map_cons,List.nodup_cons] at hu
  rcases List.mem_cons.1 hx with hx1|hx1
  ·rcases List.mem_cons.1 hy with hy1|hy1
   ·rw [hx1,hy1]
   ·exact absurd (List.mem_map.2 ⟨y,hy1,by rw [←e,hx1]⟩) hu.1
  ·rcases List.mem_cons.1 hy with hy1|hy1
   ·exact absurd (List.mem_map.2 ⟨x,hx1,by rw [e,hy1]⟩) hu.1
   ·exact ih hu.2 hx1 hy1 e
structure Lag (q:Rq) (B:Int):Prop where
 g1:1≤q.g
 g8:q.g≤8
 f0:0≤q.f
 fB:q.f≤B
 ids:∀x ∈ q.l,0≤x.1
 uniq:(q.l.map (·.1)).Nodup
 wt:∀x ∈ q.l,1≤x.2.2∧x.2.2≤4096
 lo:∀x ∈ q.l,q.f≤x.2.1
 hi:∀x ∈ q.l,x.2.1≤q.f+coreR x.2.2*q.g
 cur:0≤q.cur→∃x ∈ q.l,x.1=q.cur
 run:∀x ∈ q.l,x.1=q.cur→q.ran≤q.g→x.2.1≤q.f+coreR x.2.2*q.ran
theorem reach_in {w g:Int} (h1:1≤g) (h8:g≤8):reachR w g=coreR w*g:=by
 unfold reachR
 rw [bring_in h1 h8]
theorem clamp_in {v f r:Int} (hr:0≤r) (h:f+r≤18446744073709551615):f≤clampR v f r∧clampR v f r≤f+r:=by
 have e:satV (f+r)=f+r:=by unfold satV;omega
 unfold clampR
 rw [e]
 split
 ·omega
 ·split<;>omega
theorem Lag.place {q:Rq} {B:Int} (h:Lag q B) (hB:B≤9223372036854775808) (v w:Int):q.f≤q.place v w∧q.place v w≤q.f+coreR w*q.g:=by
 have hr:=reach_range w q.g
 have h0:=h.f0
 have h1:=h.fB
 unfold Rq.place
 rw [reach_in h.g1 h.g8] at hr ⊢
 exact clamp_in hr.1 (by omega)
theorem Lag.add {q:Rq} {B:Int} (h:Lag q B) (hB:B≤9223372036854775808) (id v w:Int):Lag (q.add id v w) B:=by
 unfold Rq.add
 split
 ·exact h
 ·next hc=>
  obtain⟨p1,p2⟩:=h.place hB v (bringR w 1 4096)
  have hw:=bring_range (n:=w) (lo:=1) (hi:=4096) (by decide)
  have hid:0≤id:=by omega
  have hnone:findQ q.l id=none:=by
   cases he:findQ q.l id with
   |none=>rfl
   |some x=>exact absurd (.inr (.inl (by rw [he];rfl))) hc
  have hne:=findQ_none hnone
  refine⟨h.g1,h.g8,h.f0,h.fB,?_,?_,?_,?_,?_,?_,?_⟩
  ·intro x hx
   rcases List.mem_append.1 hx with hx|hx
   ·exact h.ids x hx
   ·simp at hx;subst hx;exact hid
  ·simp only [List.map_append,List.map_cons,List.map_nil]
   rw [List.nodup_append]
   refine⟨h.uniq,by simp,fun a ha b hb=>?_⟩
   obtain⟨x,hx,rfl⟩:=List.mem_map.1 ha
   simp at hb
   subst hb
   exact hne x hx
  ·intro x hx
   rcases List.mem_append.1 hx with hx|hx
   ·exact h.wt x hx
   ·simp at hx;subst hx;exact hw
  ·intro x hx
   rcases List.mem_append.1 hx with hx|hx
   ·exact h.lo x hx
   ·simp at hx;subst hx;exact p1
  ·intro x hx
   rcases List.mem_append.1 hx with hx|hx
   ·exact h.hi x hx
   ·simp at hx;subst hx;exact p2
  ·intro h0
   obtain⟨x,hx,e⟩:=h.cur h0
   exact⟨x,List.mem_append_left _ hx,e⟩
  ·intro x hx e hr
   rcases List.mem_append.1 hx with hx|hx
   ·exact h.run x hx e hr
   ·simp at hx
    subst hx
    exfalso
    obtain⟨y,hy,e2⟩:=h.cur (show 0≤q.cur by rw [←e];exact hid)
    exact hne y hy (e2.trans e.symm)
theorem Lag.remove {q:Rq} {B:Int} (h:Lag q B) (id:Int):Lag (q.remove id) B:=by
 unfold Rq.remove
 split
 ·have sub:∀x ∈ q.l.filter (fun x=>decide (x.1≠id)),x ∈ q.l∧x.1≠id:=fun x hx=>by
    have:=List.mem_filter.1 hx
    exact⟨this.1,by simpa using this.2⟩
  refine⟨h.g1,h.g8,h.f0,h.fB,fun x hx=>h.ids x (sub x hx).1,?_,fun x hx=>h.wt x (sub x hx).1,fun x hx=>h.lo x (sub x hx).1,fun x hx=>h.hi x (sub x hx).1,?_,?_⟩
  ·exact (List.filter_sublist.map _).nodup h.uniq
  ·intro h0
   dsimp only at h0 ⊢
   by_cases hc:q.cur=id
   ·rw [if_pos hc] at h0
    omega
   ·rw [if_neg hc] at h0 ⊢
    obtain⟨x,hx,e⟩:=h.cur h0
    exact⟨x,List.mem_filter.2 ⟨hx,by simp;omega⟩,e⟩
  ·intro x hx e hr
   dsimp only at e hr ⊢
   have hs:=sub x hx
   by_cases hc:q.cur=id
   ·rw [if_pos hc] at e
    have:=h.ids x hs.1
    omega
   ·rw [if_neg hc] at e hr ⊢
    exact h.run x hs.1 e hr
 ·exact h
theorem Lag.weigh {q:Rq} {B:Int} (h:Lag q B) (hB:B≤9223372036854775808) (id w:Int):Lag (q.weigh id w) B:=by
 unfold Rq.weigh
 cases he:findQ q.l id with
 |none=>exact h
 |some x0=>
  have hm:=findQ_mem he
  have hw:=bring_range (n:=w) (lo:=1) (hi:=4096) (by decide)
  generalize bringR w 1 4096=w' at hw
  have get:∀x ∈ q.l.map (fun y=>if y.1=id then (y.1,q.place y.2.1 w',w') else y),∃y ∈ q.l,x.1=y.1∧((y.1=id∧x=(y.1,q.place y.2.1 w',w'))∨(y.1≠id∧x=y)):=fun x hx=>by
   obtain⟨y,hy,rfl⟩:=List.mem_map.1 hx
   by_cases hc:y.1=id
   ·rw [if_pos hc]
    exact⟨y,hy,rfl, .inl ⟨hc,rfl⟩⟩
   ·rw [if_neg hc]
    exact⟨y,hy,rfl, .inr ⟨hc,rfl⟩⟩
  have names:(q.l.map (fun y=>if y.1=id then (y.1,q.place y.2.1 w',w') else y)).map (·.1)=q.l.map (·.1):=by
   rw [List.map_map]
   refine List.map_congr_left fun y _=>?_
   simp only [Function.comp]
   split<;>rfl
  refine⟨h.g1,h.g8,h.f0,h.fB,?_,?_,?_,?_,?_,?_,?_⟩
  ·intro x hx
   obtain⟨y,hy,e,_⟩:=get x hx
   rw [e]
   exact h.ids y hy
  ·show (List.map _ (List.map _ q.l)).Nodup
   rw [names]
   exact h.uniq
  ·intro x hx
   obtain⟨y,hy,_,⟨_,rfl⟩ |⟨_,rfl⟩⟩:=get x hx
   ·exact hw
   ·exact h.wt _ hy
  ·intro x hx
   obtain⟨y,hy,_,⟨_,rfl⟩ |⟨_,rfl⟩⟩:=get x hx
   ·exact (h.place hB _ _).1
   ·exact h.lo _ hy
  ·intro x hx
   obtain⟨y,hy,_,⟨_,rfl⟩ |⟨_,rfl⟩⟩:=get x hx
   ·exact (h.place hB _ _).2
   ·exact h.hi _ hy
  ·intro h0
   obtain⟨y,hy,e⟩:=h.cur h0
   by_cases hc:y.1=id
   ·exact⟨(y.1,q.place y.2.1 w',w'),List.mem_map.2 ⟨y,hy,by rw [if_pos hc]⟩,e⟩
   ·exact⟨y,List.mem_map.2 ⟨y,hy,by rw [if_neg hc]⟩,e⟩
  ·intro x hx e hr
   obtain⟨y,hy,e1,⟨hc,rfl⟩ |⟨hc,rfl⟩⟩:=get x hx
   ·have ex:y=(id,x0):=findQ_one h.uniq hy hm hc
    subst ex
    simp only at e hr ⊢
    have hp:=h.place hB x0.1 w'
    by_cases hw2:x0.2≠w'
    ·rw [if_pos ⟨hw2,e.symm⟩]
     exact hp.2
    ·have hw3:x0.2=w':=by omega
     have hne:¬(x0.2≠w'∧q.cur=id):=fun hh=>hw2 hh.1
     rw [if_neg hne] at hr ⊢
     have hrun:=h.run _ hm e hr
     have hlo:=h.lo _ hm
     have hhi:=h.hi _ hm
     simp only [hw3] at hrun hhi
     have e3:q.place x0.1 w'=x0.1:=by
      unfold Rq.place
      rw [reach_in h.g1 h.g8]
      have hr2:=reach_range w' q.g
      rw [reach_in h.g1 h.g8] at hr2
      have hf:=h.fB
      have es:satV (q.f+coreR w'*q.g)=q.f+coreR w'*q.g:=by
       unfold satV
       omega
      unfold clampR
      simp only at hlo
      rw [es,if_neg (by omega),if_neg (by omega)]
     rw [e3]
     exact hrun
   ·have hne:¬(x0.2≠w'∧q.cur=id):=fun hh=>hc (e.trans hh.2)
    simp only at hr e ⊢
    rw [if_neg hne] at hr ⊢
    exact h.run _ hy e hr
theorem settle_ge (q:Rq):q.f≤q.settle.f∧q.settle.g=q.g∧q.settle.l=q.l∧q.settle.cur=q.cur∧q.settle.ran=q.ran:=by
 unfold Rq.settle
 cases hl:q.l with
 |nil=>exact⟨Int.le_refl _,rfl,hl,rfl,rfl⟩
 |cons x l=>
  dsimp only
  exact⟨by split<;>omega,rfl,rfl,rfl,rfl⟩
def ltQ (a b:Int×Int×Int):Bool:=decide (a.2.1 < b.2.1)||(decide (a.2.1=b.2.1)&&decide (a.1 < b.1))
theorem ltQ_iff {a b:Int×Int×Int} :ltQ a b=true↔a.2.1 < b.2.1∨(a.2.1=b.2.1∧a.1 < b.1):=by simp [ltQ]
theorem ltQ_not {a b:Int×Int×Int} :ltQ a b=false↔b.2.1 < a.2.1∨(a.2.1=b.2.1∧b.1≤a.1):=by
 cases h:ltQ a b with
 |true=>
  have:=ltQ_iff.1 h
  simp only [Bool.true_eq_false,false_iff]
  omega
 |false=>
  simp only [true_iff]
  have:¬(a.2.1 < b.2.1∨(a.2.1=b.2.1∧a.1 < b.1)):=fun hh=>by rw [ltQ_iff.2 hh] at h;cases h
  omega
def insQ (x:Int×Int×Int):List (Int×Int×Int)→List (Int×Int×Int)
 |[]=>[x]
 |y::l=>if ltQ y x=true then y::insQ x l else x::y::l
def sortQ (l:List (Int×Int×Int)):List (Int×Int×Int):=l.foldl (fun out x=>insQ x out) []
theorem mem_ins {x z:Int×Int×Int} :∀ {l:List (Int×Int×Int)},z ∈ insQ x l↔z=x∨z ∈ l
 |[]=>by simp [insQ]
 |y::l=>by
  unfold insQ
  split
  ·rw [List.mem_cons,mem_ins,List.mem_cons]
   constructor
   ·rintro (h|h|h)
    ·exact .inr (.inl h)
    ·exact .inl h
    ·exact .inr (.inr h)
   ·rintro (h|h|h)
    ·exact .inr (.inl h)
    ·exact .inl h
    ·exact .inr (.inr h)
  ·rw [List.mem_cons]
theorem len_ins (x:Int×Int×Int):∀l:List (Int×Int×Int),(insQ x l).length=l.length+1
 |[]=>rfl
 |y::l=>by
  unfold insQ
  split
  ·rw [List.length_cons,len_ins x l,List.length_cons]
  ·rfl
theorem ins_sorted {x:Int×Int×Int} :∀ {l:List (Int×Int×Int)},l.Pairwise (fun a b=>ltQ b a=false)→(insQ x l).Pairwise (fun a b=>ltQ b a=false)
 |[],_=>by simp [insQ]
 |y::l,h=>by
  obtain⟨h1,h2⟩:=List.pairwise_cons.1 h
  unfold insQ
  split
  ·next hc=>
   refine List.pairwise_cons.2 ⟨fun z hz=>?_,ins_sorted h2⟩
   rcases mem_ins.1 hz with rfl|hz
   ·have:=ltQ_iff.1 hc
    rw [ltQ_not]
    omega
   ·exact h1 z hz
  ·next hc=>
   have hc':ltQ y x=false:=by simpa using hc
   refine List.pairwise_cons.2 ⟨fun z hz=>?_,h⟩
   rcases List.mem_cons.1 hz with rfl|hz
   ·exact hc'
   ·have a:=ltQ_not.1 hc'
    have b:=ltQ_not.1 (h1 z hz)
    rw [ltQ_not]
    omega
theorem fold_sorted:∀(l out:List (Int×Int×Int)),out.Pairwise (fun a b=>ltQ b a=false)→(l.foldl (fun out x=>insQ x out) out).Pairwise (fun a b=>ltQ b a=false)∧(∀z,z ∈ l.foldl (fun out x=>insQ x out) out↔z ∈ l∨z ∈ out)∧(l.foldl (fun out x=>insQ x out) out).length=l.length+out.length
 |[],out,h=>⟨h,fun z=>by simp,by simp⟩
 |x::l,out,h=>by
  obtain⟨a,b,c⟩:=fold_sorted l (insQ x out) (ins_sorted h)
  refine⟨a,fun z=>?_,?_⟩
  ·rw [List.foldl_cons,b,mem_ins,List.mem_cons]
   constructor
   ·rintro (h|h|h)
    ·exact .inl (.inr h)
    ·exact .inl (.inl h)
    ·exact .inr h
   ·rintro ((h|h) |h)
    ·exact .inr (.inl h)
    ·exact .inl h
    ·exact .inr (.inr h)
  ·rw [List.foldl_cons,c,len_ins,List.length_cons]
   omega
theorem sort_sorted (l:List (Int×Int×Int)):(sortQ l).Pairwise (fun a b=>ltQ b a=false):=(fold_sorted l [] List.Pairwise.nil).1
theorem mem_sort {l:List (Int×Int×Int)} {z:Int×Int×Int} :z ∈ sortQ l↔z ∈ l:=by
 have:=(fold_sorted l [] List.Pairwise.nil).2.1 z
 simpa [sortQ] using this
end Go.Proofs.Ytfmciiffcmfagaa
namespace Go.Proofs.Ytfmciiffcmfagaa
open Go.RowKit
structure Turned (X:List Nat) (w w':World):Prop where
 os:w'.os=w.os
 tape:w'.tape=w.tape
 output:w'.output=w.output
 size:w.heap.size≤w'.heap.size
 block:∀k,k < w.heap.size→k ∉ X→w'.heap[k]?=w.heap[k]?
def Newer (X:List Nat) (n:Nat) (Y:List Nat):Prop:=∀k ∈ Y,k ∈ X∨n≤k
theorem Newer.refl (X:List Nat) (n:Nat):Newer X n X:=fun _ h=> .inl h
theorem Newer.trans {X Y Z:List Nat} {n m:Nat} (h:Newer X n Y) (g:Newer Y m Z) (hn:n≤m):Newer X n Z:=fun k hk=>by
 rcases g k hk with h1|h1
 ·exact h k h1
 ·exact .inr (by omega)
theorem Newer.mono {X Y:List Nat} {n m:Nat} (h:Newer X n Y) (hn:m≤n):Newer X m Y:=fun k hk=>by
 rcases h k hk with h1|h1
 ·exact .inl h1
 ·exact .inr (by omega)
theorem Turned.refl (X:List Nat) (w:World):Turned X w w:=⟨rfl,rfl,rfl,Nat.le_refl _,fun _ _ _=>rfl⟩
theorem Turned.trans {X Y:List Nat} {a b c:World} (h:Turned X a b) (g:Turned Y b c) (hs:Newer X a.heap.size Y):Turned X a c:=
 ⟨g.os.trans h.os,g.tape.trans h.tape,g.output.trans h.output,Nat.le_trans h.size g.size,fun k hk hx=>
   (g.block k (Nat.lt_of_lt_of_le hk h.size) (fun hy=>by rcases hs k hy with h1|h1;exact hx h1;omega)).trans (h.block k hk hx)⟩
theorem Turned.mono {X Y:List Nat} {a b:World} (h:Turned Y a b) (hs:Newer X a.heap.size Y):Turned X a b:=(Turned.refl X a).trans h hs
theorem Turned.drewN {X:List Nat} {a b:World} (h:Turned X a b) (n:Nat):Turned X a (b.drewN n):=⟨h.os,h.tape,h.output,h.size,h.block⟩
theorem Turned.drew {X:List Nat} {a b:World} (h:Turned X a b):Turned X a b.drew:=⟨h.os,h.tape,h.output,h.size,h.block⟩
theorem Turned.alloc {X:List Nat} {a b:World} (h:Turned X a b) (o:Obj):Turned X a (b.alloc o):=
 ⟨h.os,h.tape,h.output,Nat.le_trans h.size (by simp),fun k hk hx=>(Below.heap_alloc b o k (Nat.lt_of_lt_of_le hk h.size)).trans (h.block k hk hx)⟩
theorem Turned.setCell {X:List Nat} {a b:World} (h:Turned X a b) {p:Addr} (hp:p.block ∈ X∨a.heap.size≤p.block) (u:Value):Turned X a (b.setCell p u):=
 ⟨h.os,h.tape,h.output,Nat.le_trans h.size (by simp [World.setCell]),fun k hk hx=>
   (Below.heap_setCell b p u k (fun e=>by subst e;rcases hp with h1|h1;exact hx h1;omega)).trans (h.block k hk hx)⟩
theorem Turned.grown {X:List Nat} {a b c:World} {row:Option Nat} (h:Turned X a b) (hg:b.grownBy c row) (hr:∀k,row=some k→k ∈ X∨a.heap.size≤k):Turned X a c:=
 ⟨hg.os.trans h.os,hg.tape.trans h.tape,hg.output.trans h.output,Nat.le_trans h.size hg.size,fun k hk hx=>
   (hg.block k (Nat.lt_of_lt_of_le hk h.size) (fun e=>by rcases hr k e.symm with h1|h1;exact hx h1;omega)).trans (h.block k hk hx)⟩
theorem Turned.below {X:List Nat} {a b:World} {B:Nat} (h:Turned X a b) (hX:∀k ∈ X,B≤k) (hB:B≤a.heap.size):Below B a b:=
 ⟨h.os,h.tape,h.output,h.size,fun k hk=>h.block k (by omega) (fun hx=>by have:=hX k hx;omega)⟩
theorem Turned.same {X:List Nat} {a b:World} (h:Turned X a b) {k:Nat} {o:Obj} (ho:a.heap[k]?=some o) (hx:k ∉ X):b.heap[k]?=some o:=
 (h.block k (lt_of_block ho) hx).trans ho
theorem ownsRow_same {w w':World} {base:Nat} {e:TypeId} {size:Nat} {v:Value} {n:Nat} {xs:List Value} (h:w.ownsRow base e size v n xs)
  (hs:∀k ∈ v.ownBlock.toList,k < w.heap.size→w'.heap[k]?=w.heap[k]?):w'.ownsRow base e size v n xs:=by
 refine⟨h.1,?_⟩
 rcases h.2 with h2|⟨g,cap,cur,rfl,hb,hg,rest⟩
 ·exact .inl h2
 ·exact .inr ⟨g,cap,cur,rfl,hb,(hs g (by simp [Value.ownBlock]) (lt_of_block hg)).trans hg,rest⟩
theorem ownsRow_lt {w:World} {base:Nat} {e:TypeId} {size:Nat} {v:Value} {n:Nat} {xs:List Value} (h:w.ownsRow base e size v n xs):∀k ∈ v.ownBlock.toList,k < w.heap.size:=by
 intro k hk
 exact (h.lt k (by simpa using hk)).2
theorem ownsRow_type {w:World} {base:Nat} {e:TypeId} {size:Nat} {v:Value} {n:Nat} {xs:List Value} (h:w.ownsRow base e size v n xs):∀k ∈ v.ownBlock.toList,∃cur,w.heap[k]?=some (.cells cur e (0,0)):=by
 intro k hk
 rcases h.2 with⟨rfl,_⟩ |⟨g,cap,cur,rfl,hb,hg,_⟩
 ·simp [Value.ownBlock] at hk
 ·simp [Value.ownBlock] at hk
  subst hk
  exact⟨cur,hg⟩
theorem ownsRow_shape {w:World} {base:Nat} {e:TypeId} {size:Nat} {v:Value} {n:Nat} {xs:List Value} (h:w.ownsRow base e size v n xs):∃a cap,v= .slice a n cap∧n≤cap∧cap≤maxLen:=by
 rcases h.2 with⟨rfl,rfl⟩ |⟨g,cap,cur,rfl,_,_,h1,h2,_⟩
 ·exact⟨none,0,rfl,Nat.le_refl _,by simp [maxLen]⟩
 ·exact⟨_,cap,rfl,h1,h2⟩
theorem ownsRow_pos {w:World} {base:Nat} {e:TypeId} {size:Nat} {v:Value} {n:Nat} {xs:List Value} (h:w.ownsRow base e size v n xs) (hn:0 < n):∃g cap,v= .slice (some ⟨g,0,none⟩) n cap∧n≤cap∧cap≤maxLen:=by
 rcases h.2 with⟨rfl,rfl⟩ |⟨g,cap,cur,rfl,_,_,h1,h2,_⟩
 ·omega
 ·exact⟨g,cap,rfl,h1,h2⟩
theorem block_off {w:World} {b:Nat} {cs:Array Value} {t e:TypeId} {base size n:Nat} {v:Value} {xs:List Value} (hb:w.heap[b]?=some (.cells cs t (0,0))) (hr:w.ownsRow base e size v n xs) (hne:t≠e):some b≠v.ownBlock:=by
 intro h
 obtain⟨cur,hc⟩:=ownsRow_type hr b (by simp [←h])
 rw [hb] at hc
 simp at hc
 exact hne hc.2
end Go.Proofs.Ytfmciiffcmfagaa
namespace Go.Proofs.Ytfmciiffcmfagaa
open Go.RowKit
section
variable {α:Type}
def cellsOf (enc:α→List Value) (L:List α):List Value:=L.flatMap enc
section
variable {enc:α→List Value} {k:Nat}
theorem cellsOf_snoc (L:List α) (x:α):cellsOf enc (L++[x])=cellsOf enc L++enc x:=by simp [cellsOf]
theorem cellsOf_drop (hk:∀x,(enc x).length=k):∀(L:List α) (j:Nat),cellsOf enc (L.drop j)=(cellsOf enc L).drop (j*k)
 |[],j=>by simp [cellsOf]
 |s::L,0=>by simp [cellsOf]
 |s::L,j+1=>by
  have ih:=cellsOf_drop hk L j
  have e:(j+1)*k=(enc s).length+j*k:=by rw [hk,Nat.add_mul];omega
  simp only [cellsOf,List.drop_succ_cons,List.flatMap_cons] at ih ⊢
  rw [ih,e,List.drop_length_add_append]
theorem cellsOf_get (hk:∀x,(enc x).length=k) (L:List α) (j i:Nat) (hj:j < L.length) (hi:i < k):(cellsOf enc L)[j*k+i]?=(enc L[j])[i]?:=by
 have h:=cellsOf_drop hk L j
 rw [List.drop_eq_getElem_cons hj] at h
 have h2:((cellsOf enc L).drop (j*k))[i]?=(enc L[j])[i]?:=by
  rw [←h]
  simp only [cellsOf,List.flatMap_cons]
  rw [List.getElem?_append_left (by rw [hk];exact hi)]
 rw [←h2,List.getElem?_drop]
end
def LAt (tS tE:TypeId) (k:Nat) (enc:α→List Value) (cs:Value→Array Value) (w:World) (b:Nat) (X:List Nat) (L:List α):Prop:=
 ∃v,w.heap[b]?=some (.cells (cs v) tS (0,0))∧w.ownsRow 0 tE k v L.length (cellsOf enc L)∧X=b::v.ownBlock.toList
section
variable {tS tE:TypeId} {k:Nat} {enc:α→List Value} {cs:Value→Array Value} {w w':World} {b:Nat} {X Y:List Nat} {L:List α}
theorem LAt.keep (h:LAt tS tE k enc cs w b X L) (ht:Turned Y w w') (hd:∀k ∈ X,k ∉ Y):LAt tS tE k enc cs w' b X L:=by
 obtain⟨v,h1,h2,rfl⟩:=h
 exact⟨v,ht.same h1 (hd _ (by simp)),ownsRow_same h2 (fun k hk hl=>ht.block k hl (hd k (List.mem_cons_of_mem _ hk))),rfl⟩
theorem LAt.lt (h:LAt tS tE k enc cs w b X L):∀k ∈ X,k < w.heap.size:=by
 obtain⟨v,h1,h2,rfl⟩:=h
 intro k hk
 rcases List.mem_cons.1 hk with rfl|hk
 ·exact lt_of_block h1
 ·exact ownsRow_lt h2 k hk
theorem LAt.drewN (h:LAt tS tE k enc cs w b X L) (n:Nat):LAt tS tE k enc cs (w.drewN n) b X L:=h
theorem LAt.stored {w1:World} {v v':Value} {i:Nat} {M:List α} (hne:tS≠tE) (hcs:(cs v).setIfInBounds i v'=cs v')
  (hb:w1.heap[b]?=some (.cells (cs v) tS (0,0))) (ho:w1.ownsRow 0 tE k v' M.length (cellsOf enc M)) (hX:b ∈ X) (hT:Turned X w w1) (hN:∀g ∈ v'.ownBlock.toList,g ∈ X∨w.heap.size≤g):
  LAt tS tE k enc cs (w1.setCell ⟨b,i,none⟩ v') b (b::v'.ownBlock.toList) M∧Turned X w (w1.setCell ⟨b,i,none⟩ v')∧Newer X w.heap.size (b::v'.ownBlock.toList):=by
 refine⟨⟨v',?_,ownsRow_setCell_other ho (a:=⟨b,i,none⟩) (fun e=>block_off hb ho hne e.symm) _,rfl⟩,hT.setCell (.inl hX) _,?_⟩
 ·rw [heap_setCell_same w1 b i _ _ _ hb,hcs]
 ·intro j hj
  rcases List.mem_cons.1 hj with rfl|hj
  ·exact .inl hX
  ·exact hN j hj
theorem LAt.appended {W W2 W1:World} {v v':Value} {i:Nat} {M:List α} {n:Nat} {xs:List Value} (hne:tS≠tE) (hcs:(cs v).setIfInBounds i v'=cs v')
  (hb:W.heap[b]?=some (.cells (cs v) tS (0,0))) (ho:W.ownsRow 0 tE k v n xs) (hT2:Turned [] W W2) (hg:W2.grownBy W1 v.ownBlock)
  (hown:W1.ownsRow 0 tE k v' M.length (cellsOf enc M)) (hnew:∀g ∈ v'.ownBlock.toList,g ∈ v.ownBlock.toList∨W2.heap.size≤g):
  W1.heap[b]?=some (.cells (cs v) tS (0,0))∧LAt tS tE k enc cs (W1.setCell ⟨b,i,none⟩ v') b (b::v'.ownBlock.toList) M∧Turned (b::v.ownBlock.toList) W (W1.setCell ⟨b,i,none⟩ v')∧
   Newer (b::v.ownBlock.toList) W.heap.size (b::v'.ownBlock.toList):=by
 have hb2:=hT2.same hb (by simp)
 have hbl:=lt_of_block hb2
 have hb1:W1.heap[b]?=some (.cells (cs v) tS (0,0)):=(hg.block b hbl (block_off hb ho hne)).trans hb2
 have hs:=hT2.size
 have hT:Turned (b::v.ownBlock.toList) W W1:=Turned.grown (hT2.mono (fun k hk=>by simp at hk)) hg (fun k hk=> .inl (List.mem_cons_of_mem _ (by simp [hk])))
 obtain⟨h1,h2,h3⟩:=LAt.stored (w:=W) hne hcs hb1 hown (X:=b::v.ownBlock.toList) (by simp) hT (fun g hg'=>by
  rcases hnew g hg' with h|h
  ·exact .inl (List.mem_cons_of_mem _ h)
  ·exact .inr (by omega))
 exact⟨hb1,h1,h2,h3⟩
theorem row_cells {g n cap:Nat} (hk:∀x,(enc x).length=k) (ho:w.ownsRow 0 tE k (.slice (some ⟨g,0,none⟩) n cap) L.length (cellsOf enc L)) {j:Nat} (hj:j < L.length):
  ∀i,i < k→w.cell? ⟨g,j*k+i,none⟩=(enc L[j])[i]?∧w.frozen? ⟨g,j*k+i,none⟩=false:=by
 intro i hi
 have hn:n=L.length:=by
  obtain⟨_,_,h1,_⟩:=ownsRow_shape ho
  simp at h1
  exact h1.2.1
 subst hn
 have hlt:j*k+i < L.length*k:=by
  have:(j+1)*k≤L.length*k:=Nat.mul_le_mul_right _ hj
  rw [Nat.add_mul] at this
  omega
 exact⟨by rw [ho.cellAt _ hlt];exact cellsOf_get hk L j i hj hi,ho.frozenAt _⟩
end
end
section
variable {α:Type} {tE:TypeId} {k:Nat} {enc:α→List Value} {W W':World} {g n cap:Nat} {L:List α}
end
theorem LAt.view {α:Type} {tS tE:TypeId} {k:Nat} {enc:α→List Value} {cs:Value→Array Value} {w:World} {b:Nat} {X:List Nat} {L:List α} (h:LAt tS tE k enc cs w b X L):
  ∃a cap,w.heap[b]?=some (.cells (cs (.slice a L.length cap)) tS (0,0))∧w.ownsRow 0 tE k (.slice a L.length cap) L.length (cellsOf enc L)∧X=b::(Value.slice a L.length cap).ownBlock.toList∧L.length≤cap∧cap≤maxLen∧
   ∀j,j < L.length→∃g,a=some ⟨g,0,none⟩∧b≠g∨tS=tE:=by
 obtain⟨v,h1,h2,h3⟩:=h
 obtain⟨a,cap,rfl,hc,hm⟩:=ownsRow_shape h2
 refine⟨a,cap,h1,h2,h3,hc,hm,fun j hj=>?_⟩
 obtain⟨g,cap',hv,_,_⟩:=ownsRow_pos h2 (by omega)
 simp only [Value.slice.injEq] at hv
 by_cases e:tS=tE
 ·exact⟨g, .inr e⟩
 ·exact⟨g, .inl ⟨hv.1,fun hg=>block_off h1 h2 e (by simp [Value.ownBlock,hv.1,hg])⟩⟩
section
variable {α:Type}
end
section
variable {P:Program} (w:World)
theorem run_append_any (t ty e:TypeId) (i:TypeInfo) (z:Value) (size bytes:Nat) (ht:P.underlying t=some (.slice e)) (hi:P.info? e=some i) (hz:i.zero=some z)
  (hsize:i.size=size) (hby:i.bytes=bytes) (hzs:z.cells.size=size) (hsz:0 < size)
  (v:Value) (n:Nat) (xs:List Value) (hown:w.ownsRow 0 e size v n xs)
  (ao:Option Addr) (m c:Nat) (news:List Value) (hl:news.length=m*size) (hnone:ao=none→m=0∧c=0) (hnews:∀ad,ao=some ad→∀j u,news[j]?=some u→w.cell? (ad.add j)=some u) (h1:∀u ∈ news,u.oneCell'=true)
  (h63:n+m≤maxLen) (hbytes:(n+m)*bytes≤140737488355328):
  ∃a' cap' w',(Builtin.append_ #[t,t] ty #[v, .slice ao m c]).run P w= .ok (.slice a' (n+m) cap') w'∧w'.ownsRow 0 e size (.slice a' (n+m) cap') (n+m) (xs++news)∧w.grownBy w' v.ownBlock∧
   (∀g ∈ (Value.slice a' (n+m) cap').ownBlock.toList,g ∈ v.ownBlock.toList∨w.heap.size≤g):=by
 cases hao:ao with
 |none=>
  obtain⟨rfl,rfl⟩:=hnone hao
  have hn:news=[]:=List.eq_nil_of_length_eq_zero (by simpa using hl)
  subst hn
  have hr:=run_append_owned_none (P:=P) (w:=w) 0 t ty e i size ht hi v n xs hown
  obtain⟨a',cap',rfl,hc1,hc2⟩:=ownsRow_shape hown
  exact⟨a',cap',w,hr,by simpa using hown,⟨rfl,rfl,rfl,Nat.le_refl _,fun _ _ _=>rfl⟩,fun g hg=> .inl hg⟩
 |some ad=>
  obtain⟨v',w',hr,h2,h3,_,h5⟩:=run_append_own_at (P:=P) w 0 t ty e i z size bytes ht hi hz hsize hby hzs hsz v n xs hown ad m c news hl (hnews ad hao) h1 h63 hbytes (Nat.zero_le _)
  obtain⟨a',cap',rfl,hc1,hc2⟩:=ownsRow_shape h2
  refine⟨a',cap',w',hr,h2,h3,fun g hg=>?_⟩
  rcases h5 with h5|h5
  ·exact .inl (by rw [←h5];exact hg)
  ·rw [h5] at hg
   simp at hg
   exact .inr (by omega)
theorem wp_append_any {o:Oper} {a:Act} {K:Act→World→Prop} {Q:Exit→Act→World→Prop} (s x:Operand) (t:TypeId)
  (ho:o.op= .call { callee:= .builtin .append,args:= #[s,x],argTypes:= #[t,t] })
  (e:TypeId) (i:TypeInfo) (z:Value) (size bytes:Nat) (ht:P.underlying t=some (.slice e)) (hi:P.info? e=some i) (hz:i.zero=some z)
  (hsize:i.size=size) (hby:i.bytes=bytes) (hzs:z.cells.size=size) (hsz:0 < size)
  (v:Value) (n:Nat) (xs:List Value) (hs:a.eval s=v) (hown:w.ownsRow 0 e size v n xs)
  (ao:Option Addr) (m c:Nat) (news:List Value) (hx:a.eval x= .slice ao m c) (hl:news.length=m*size) (hnone:ao=none→m=0∧c=0) (hnews:∀ad,ao=some ad→∀j u,news[j]?=some u→w.cell? (ad.add j)=some u) (h1:∀u ∈ news,u.oneCell'=true)
  (h63:n+m≤maxLen) (hbytes:(n+m)*bytes≤140737488355328)
  (h:∀a' cap' w',w'.ownsRow 0 e size (.slice a' (n+m) cap') (n+m) (xs++news)→w.grownBy w' v.ownBlock→(∀g ∈ (Value.slice a' (n+m) cap').ownBlock.toList,g ∈ v.ownBlock.toList∨w.heap.size≤g)→
    K (a.put o.dst (.slice a' (n+m) cap')) w'):o.wp P a w K Q:=by
 obtain⟨a',cap',w',hr,h2,h3,h4⟩:=run_append_any (P:=P) w t o.type e i z size bytes ht hi hz hsize hby hzs hsz v n xs hown ao m c news hl hnone hnews h1 h63 hbytes
 unfold Oper.wp execOp
 simp only [ho,resolve,invoke,builtin,Sem.run_bind,Sem.run_pure,Result.andThen_ok,List.map_toArray,List.map_cons,List.map_nil,hs,hx,hr]
 exact h a' cap' w' h2 h3 h4
end
end Go.Proofs.Ytfmciiffcmfagaa
namespace Go.Proofs.Ytfmciiffcmfagaa
open Go.RowKit
abbrev Tk:=Int×Int×Int
end Go.Proofs.Ytfmciiffcmfagaa
namespace Go.Proofs.Ytfmciiffcmfagaa
def bt (t:Int):Int:=bringR t 0 2147483648
end Go.Proofs.Ytfmciiffcmfagaa
