/-
  From a walk to a row: slices of deeds and of integers, opened to their cells; what a law's row asks of the world behind the call.
  Plain arithmetic for numbers of 64 bits: words, the two halves of a product of 128 bits, order, distance. No program in sight.
  Plain arithmetic of numbers in digits of 16 bits, the lowest first. No program in sight.
  DERIVED: THE SHELF's CONTRACTS AT THIS DUMP, IN PLAIN WORDS (tools/lay-plain.mjs out of 'TryShelf.lean', which tools/lay-shelf.mjs wrote): THE SAME DECLARATIONS UNDER THE SAME NAMES: 'import', 'namespace', 'open', 'def', 'theorem' AND NOTHING ELSE: no command of the shelf's: FOR A HAND-IN. Each laying: the table of numbers ('.._ren') and one theorem, a field a fact of the dump's own or the kernel's comparison; each contract: ONE APPLICATION.
  The library's calls that fixq is made of, over whole numbers: bits.Add64, bits.Sub64, bits.Mul64, bits.LeadingZeros64, cmp.Compare.
  Numbers of 128 bits: what product, order and apart of package fixq answer.
  Numbers in digits, in memory; the reference's at and longer.
  The reference's number, Sum and Fits.
  The reference's Times.
  The reference's Less and Minus.
  What the reference's Add, Sub, Mul, Compare and Near answer, at every argument.
  Shares by weight, plainly: who is ahead of a floor by no more than a reach has a fair share. No program.
  The document's Bring, Core, Lock, Reach, Slack, Clamp.
-/
import Derived.Test.YtbfifglcnhfccaaRows
import Derived.WalkKit
import Derived.ProofKit
import Derived.OpenShut
import Derived.Deep.Slices
import Derived.Deep.Fields
import Derived.ChangeSame
import Derived.Below
import Derived.Shelf.Bits.Mul64
import Derived.Test.YtbfifglcnhfccaaProg
import Derived.Shelf.Spec.BitsCarry
import Derived.WalkSpells
import Derived.WalkLawsBesides
import Derived.Lib.Hide
import Derived.Deep.QuietTactic
import Derived.BigQuiet
import Derived.Deep.LoopGhost
import Derived.Test.YtbfifglcnhfccaaChecked
import Derived.Test.YtbfifglcnhfccaaZAl
set_option maxRecDepth 100000
set_option maxHeartbeats 25600000
namespace Go.Proofs.Ytbfifglcnhfccaa
open Go.ChangeShapes Go.WideShapes Go.ChangeAt Go.RowKit Go.Deep
theorem own:ownKnob Try.prog.godebug=none:=by kernel_rfl
theorem laidOut:laidOutB Try.prog=true:=by kernel_rfl
section
variable {H:Type} {enc:TypeId×Value→H} {P:Program}
theorem post_law {f:Func} {s:ChangeSpec} {apart fresh handsOn:Bool} {W W':World} {args:Array Value} {v:Value} {ds gs:List (DataW H)} {before pa pv:List MemPlace}
  (hW:DataW.Whole enc P f.params.toList s.vars apart W args.toList ds gs before) (hb:Below W.heap.size W W')
  (hres:∀(b:Nat) (sp:Nat→Bool) (hd:Bool),DataW.TrodAll enc P W' b sp hd f.resultTypes.toList (v.resultList f.resultTypes.size) (s.fn H (ds++gs)).results [])
  (hargs:DataW.TrodAll enc P W' 0 (fun b=>decide (b < W.heap.size)) true f.params.toList args.toList (s.fn H (ds++gs)).args pa)
  (hvars:DataW.TrodVars enc P W' (fun b=>decide (b < W.heap.size)) s.vars (s.fn H (ds++gs)).vars pv):s.post enc P f apart fresh handsOn false W args v W':=by
 exact⟨ds,gs,before,[],pa,pv,hW,hres _ _ _,hargs,hvars,hb.frame _,fun h=>by cases h⟩
variable {w:World} {base:Nat} {spare:Nat→Bool} {held:Bool}
theorem spot_none {w:World} {a:Addr} {v:Value} (h:w.cell? a=some v):∃b off,a=⟨b,off,none⟩∧b < w.heap.size:=by
 have hb:=World.block_lt_of_cell? w a h
 obtain⟨b,off,s⟩:=a
 cases s with
 |none=>exact⟨b,off,rfl,hb⟩
 |some s=>
  unfold World.cell? at h
  split at h<;>simp at h
end
end Go.Proofs.Ytbfifglcnhfccaa
namespace Go.Proofs.Ytbfifglcnhfccaa
def Word (x:Int):Prop:=0≤x∧x≤18446744073709551615
theorem Word.lo {x:Int} (h:Word x):0≤x:=h.1
theorem Word.hi {x:Int} (h:Word x):x≤18446744073709551615:=h.2
def hiW (x:Int):Int:=x / 18446744073709551616
def loW (x:Int):Int:=x % 18446744073709551616
theorem loW_word (x:Int):Word (loW x):=by unfold loW Word;omega
theorem mul_bd {a b:Int} (ha:Word a) (hb:Word b):0≤a*b∧a*b≤340282366920938463426481119284349108225:=by
 obtain⟨a0,a1⟩:=ha
 obtain⟨b0,b1⟩:=hb
 refine⟨Int.mul_nonneg a0 b0,?_⟩
 have h:=Int.mul_le_mul a1 b1 b0 (by omega)
 omega
theorem hiW_word {a b:Int} (ha:Word a) (hb:Word b):Word (hiW (a*b)):=by
 obtain⟨h0,h1⟩:=mul_bd ha hb
 unfold hiW Word;omega
def wid (h l:Int):Int:=h*18446744073709551616+l
theorem wid_hl (x:Int):wid (hiW x) (loW x)=x:=by unfold wid hiW loW;omega
def ordW (x y:Int):Int:=if x < y then -1 else if y < x then 1 else 0
theorem ordW_lt {x y:Int} (h:x < y):ordW x y= -1:=by unfold ordW;rw [if_pos h]
theorem ordW_gt {x y:Int} (h:y < x):ordW x y=1:=by unfold ordW;rw [if_neg (by omega),if_pos h]
theorem ordW_eq {x y:Int} (h:x=y):ordW x y=0:=by unfold ordW;rw [if_neg (by omega),if_neg (by omega)]
theorem ordW_ge {x y:Int} (h:¬x < y):0≤ordW x y:=by unfold ordW;rw [if_neg h];split<;>omega
theorem ordW_le {x y:Int} :ordW x y≤0↔x≤y:=by unfold ordW;split<;>(try split)<;>omega
def dist (x y:Int):Int:=if x < y then y - x else x - y
def borW (x y:Int):Int:= -(hiW (x - y))
theorem borW_bd {x y:Int} (hx:Word x) (hy:Word y):0≤borW x y∧borW x y≤1:=by
 obtain⟨a,b⟩:=hx
 obtain⟨c,d⟩:=hy
 unfold borW hiW;omega
theorem ordW_same (h l m:Int):ordW (wid h l) (wid h m)=ordW l m:=by
 unfold ordW wid
 by_cases a:l < m
 ·rw [if_pos a,if_pos (by omega)]
 ·by_cases b:m < l
  ·rw [if_neg a,if_pos b,if_neg (by omega),if_pos (by omega)]
  ·rw [if_neg a,if_neg b,if_neg (by omega),if_neg (by omega)]
theorem ordW_high {h k l m:Int} (hk:h≠k) (hl:Word l) (hm:Word m):ordW (wid h l) (wid k m)=ordW h k:=by
 obtain⟨a,b⟩:=hl
 obtain⟨c,d⟩:=hm
 unfold ordW wid
 by_cases a:h < k
 ·rw [if_pos a,if_pos (by omega)]
 ·rw [if_neg (by omega),if_pos (by omega),if_neg (by omega),if_pos (by omega)]
theorem apart_low {xh xl yh yl:Int} (h:wid yh yl≤wid xh xl):loW (xl - yl)=loW (dist (wid xh xl) (wid yh yl)):=by
 unfold dist
 rw [if_neg (by omega)]
 unfold wid loW;omega
theorem apart_high {xh xl yh yl:Int} (h1:Word xh) (h2:Word xl) (h3:Word yh) (h4:Word yl) (h:wid yh yl≤wid xh xl):loW (xh - yh - borW xl yl)=hiW (dist (wid xh xl) (wid yh yl)):=by
 unfold dist
 rw [if_neg (by omega)]
 obtain⟨a0,a1⟩:=h1
 obtain⟨b0,b1⟩:=h2
 obtain⟨c0,c1⟩:=h3
 obtain⟨d0,d1⟩:=h4
 unfold wid at*
 unfold borW loW hiW;omega
theorem dist_comm (x y:Int):dist x y=dist y x:=by unfold dist;split<;>split<;>omega
def satV (x:Int):Int:=if x≤18446744073709551615 then x else 18446744073709551615
def satE (x:Int):Int:=if x≤18446744073709551615 then 0 else 2
theorem satV_fit {x:Int} (h:x≤18446744073709551615):satV x=x:=if_pos h
theorem satE_fit {x:Int} (h:x≤18446744073709551615):satE x=0:=if_pos h
theorem satV_big {x:Int} (h:¬x≤18446744073709551615):satV x=18446744073709551615:=if_neg h
theorem satE_big {x:Int} (h:¬x≤18446744073709551615):satE x=2:=if_neg h
def nearB (a w t all k:Int):Bool:=decide (dist (a*all) (w*t)≤k*all)
def P (k:Nat):Int:=65536 ^ k
theorem P_succ (k:Nat):P (k+1)=P k*65536:=Int.pow_succ _ _
theorem P_pos (k:Nat):0 < P k:=Int.pow_pos (by omega)
theorem P_add (i k:Nat):P (i+k)=P i*P k:=Int.pow_add _ _ _
def pv (f:Nat→Int):Nat→Int
 |0=>0
 |k+1=>pv f k+f k*P k
def dg (l:List Int) (k:Nat):Int:=l.getD k 0
def val (l:List Int):Int:=pv (dg l) l.length
def Digit (d:Int):Prop:=0≤d∧d≤65535
def Good (l:List Int):Prop:=∀k,Digit (dg l k)
theorem pv_congr {f g:Nat→Int} :∀n:Nat,(∀k,k < n→f k=g k)→pv f n=pv g n
 |0,_=>rfl
 |n+1,h=>by
  have:=pv_congr n (fun k hk=>h k (by omega))
  simp only [pv]
  rw [this,h n (by omega)]
theorem dg_out {l:List Int} {k:Nat} (h:l.length≤k):dg l k=0:=by
 unfold dg
 simp [List.getD_eq_getElem?_getD,List.getElem?_eq_none h]
theorem pv_out (l:List Int):∀j:Nat,pv (dg l) (l.length+j)=val l
 |0=>rfl
 |j+1=>by
  show pv (dg l) (l.length+j)+dg l (l.length+j)*P (l.length+j)=val l
  rw [pv_out l j,dg_out (by omega)]
  omega
theorem pv_ext {l:List Int} {n:Nat} (h:l.length≤n):pv (dg l) n=val l:=by
 have:=pv_out l (n - l.length)
 rw [show l.length+(n - l.length)=n by omega] at this
 exact this
theorem pv_bd {f:Nat→Int} :∀n:Nat,(∀k,k < n→Digit (f k))→0≤pv f n∧pv f n < P n
 |0,_=>by simp [pv,P]
 |n+1,h=>by
  obtain⟨a,b⟩:=pv_bd n (fun k hk=>h k (by omega))
  obtain⟨c,d⟩:=h n (by omega)
  have hp:=P_pos n
  have e:=P_succ n
  have m0:=Int.mul_nonneg c (Int.le_of_lt hp)
  have m1:f n*P n≤65535*P n:=Int.mul_le_mul_of_nonneg_right d (Int.le_of_lt hp)
  simp only [pv]
  omega
theorem dg_range (f:Nat→Int) (n k:Nat) (h:k < n):dg ((List.range n).map f) k=f k:=by
 unfold dg
 simp [List.getD_eq_getElem?_getD,h]
theorem val_range (f:Nat→Int) (n:Nat):val ((List.range n).map f)=pv f n:=by
 unfold val
 rw [List.length_map,List.length_range]
 exact pv_congr n fun k hk=>dg_range f n k hk
theorem good_range {f:Nat→Int} {n:Nat} (h:∀k,k < n→Digit (f k)):Good ((List.range n).map f):=by
 intro k
 by_cases hk:k < n
 ·rw [dg_range f n k hk];exact h k hk
 ·rw [dg_out (by simp;omega)];exact⟨by omega,by omega⟩
theorem range_succ_map {α:Type} (f:Nat→α) (n:Nat):(List.range (n+1)).map f=(List.range n).map f++[f n]:=by
 rw [List.range_succ,List.map_append];rfl
def sumC (A B:List Int):Nat→Int
 |0=>0
 |k+1=>(dg A k+dg B k+sumC A B k) / 65536
def sumD (A B:List Int) (k:Nat):Int:=(dg A k+dg B k+sumC A B k) % 65536
theorem sumC_bd {A B:List Int} (ha:Good A) (hb:Good B):∀k,0≤sumC A B k∧sumC A B k≤1
 |0=>⟨Int.le_refl _,by simp [sumC]⟩
 |k+1=>by
  obtain⟨c0,c1⟩:=sumC_bd ha hb k
  obtain⟨a0,a1⟩:=ha k
  obtain⟨b0,b1⟩:=hb k
  simp only [sumC]
  omega
theorem sum_inv (A B:List Int):∀k,pv (sumD A B) k+sumC A B k*P k=pv (dg A) k+pv (dg B) k
 |0=>by simp [pv,sumC]
 |k+1=>by
  have h:=sum_inv A B k
  have e:=P_succ k
  simp only [pv,sumC]
  have d:sumD A B k+(dg A k+dg B k+sumC A B k) / 65536*65536=dg A k+dg B k+sumC A B k:=by unfold sumD;omega
  have d2:(sumD A B k+(dg A k+dg B k+sumC A B k) / 65536*65536)*P k=(dg A k+dg B k+sumC A B k)*P k:=by rw [d]
  rw [Int.add_mul,Int.add_mul,Int.add_mul,Int.mul_assoc,Int.mul_comm 65536 (P k), ←e] at d2
  omega
theorem sum_val {A B:List Int} (ha:Good A) (hb:Good B) {n:Nat} (h1:A.length≤n) (h2:B.length≤n):val ((List.range (n+1)).map (sumD A B))=val A+val B:=by
 have h:=sum_inv A B (n+1)
 have hc:sumC A B (n+1)=0:=by
  obtain⟨c0,c1⟩:=sumC_bd ha hb n
  simp only [sumC]
  rw [dg_out h1,dg_out h2]
  omega
 rw [hc,pv_ext (by omega),pv_ext (by omega)] at h
 rw [val_range]
 omega
theorem sum_good {A B:List Int} {n:Nat} :Good ((List.range n).map (sumD A B)):=good_range fun k _=>by unfold sumD Digit;omega
theorem pv_same {f g:Nat→Int} {n:Nat} :∀j:Nat,(∀k,n≤k→k < n+j→f k=g k)→pv f (n+j) - pv f n=pv g (n+j) - pv g n
 |0,_=>by simp
 |j+1,h=>by
  have:=pv_same j (fun k a b=>h k a (by omega))
  show pv f (n+j)+f (n+j)*P (n+j) - pv f n=pv g (n+j)+g (n+j)*P (n+j) - pv g n
  rw [h (n+j) (by omega) (by omega)]
  omega
theorem less_at {f g:Nat→Int} {i n:Nat} (hf:∀k,Digit (f k)) (hg:∀k,Digit (g k)) (hi:i < n) (heq:∀k,i < k→k < n→f k=g k) (h:f i < g i):pv f n < pv g n:=by
 have hs:=pv_same (f:=f) (g:=g) (n:=i+1) (n - (i+1)) (fun k a b=>heq k (by omega) (by omega))
 rw [show i+1+(n - (i+1))=n by omega] at hs
 have hp:=P_pos i
 obtain⟨a0,a1⟩:=pv_bd i (fun k _=>hf k)
 obtain⟨b0,b1⟩:=pv_bd i (fun k _=>hg k)
 have hm:(f i+1)*P i≤g i*P i:=Int.mul_le_mul_of_nonneg_right (by omega) (Int.le_of_lt hp)
 rw [Int.add_mul] at hm
 simp only [pv] at hs
 omega
theorem val_four {l:List Int} (h:l.length=4):val l=dg l 0+dg l 1*65536+dg l 2*4294967296+dg l 3*281474976710656:=by
 unfold val
 rw [h]
 simp only [pv,P]
 omega
theorem val_low {l:List Int} (h:∀k,4≤k→k < l.length→dg l k=0):val l=dg l 0+dg l 1*65536+dg l 2*4294967296+dg l 3*281474976710656:=by
 have h0:∀k,4≤k→dg l k=0:=fun k hk=>by
  by_cases hl:k < l.length
  ·exact h k hk hl
  ·exact dg_out (by omega)
 have hs:∀j:Nat,pv (dg l) (4+j)=pv (dg l) 4:=by
  intro j
  induction j with
  |zero=>rfl
  |succ j ih=>
   show pv (dg l) (4+j)+dg l (4+j)*P (4+j)=_
   rw [ih,h0 (4+j) (by omega)]
   omega
 have e4:pv (dg l) 4=dg l 0+dg l 1*65536+dg l 2*4294967296+dg l 3*281474976710656:=by
  simp only [pv,P]
  omega
 rw [←e4, ←hs l.length,pv_ext (by omega)]
theorem val_high {l:List Int} (hg:Good l) {i:Nat} (h4:4≤i) (hi:i < l.length) (h:0 < dg l i):¬val l≤18446744073709551615:=by
 have hl:=less_at (f:=fun k=>if k < 4 then 65535 else 0) (g:=dg l) (i:=i) (n:=i+1) (fun k=>by unfold Digit;split<;>omega) hg (by omega) (fun k a b=>by omega) (by rw [if_neg (by omega)];exact h)
 have e4:∀j:Nat,pv (fun k=>if k < 4 then (65535:Int) else 0) (4+j)=18446744073709551615:=by
  intro j
  induction j with
  |zero=>simp [pv,P]
  |succ j ih=>
   show pv _ (4+j)+(if 4+j < 4 then (65535:Int) else 0)*P (4+j)=_
   rw [ih,if_neg (by omega)]
   omega
 have e5:=e4 (i+1 - 4)
 rw [show 4+(i+1 - 4)=i+1 by omega] at e5
 rw [e5] at hl
 have hm:∀j:Nat,pv (dg l) (i+1)≤pv (dg l) (i+1+j):=by
  intro j
  induction j with
  |zero=>exact Int.le_refl _
  |succ j ih=>
   show _≤pv (dg l) (i+1+j)+dg l (i+1+j)*P (i+1+j)
   have:=Int.mul_nonneg (hg (i+1+j)).1 (Int.le_of_lt (P_pos (i+1+j)))
   omega
 have h1:=hm (l.length - (i+1))
 rw [show i+1+(l.length - (i+1))=l.length by omega] at h1
 have:val l=pv (dg l) l.length:=rfl
 omega
end Go.Proofs.Ytbfifglcnhfccaa
namespace Go.Proofs
open Go.Shelf
def Try.lays264_ren:Go.Shelf.Ren:=⟨fun|264=>88|n=>n,fun|53=>28|46=>61|n=>n,fun|n=>n⟩
theorem Try.lays264:Go.Proofs.Lays.n264 Try.prog Try.lays264_ren:= {
 mixed:=by kernel_rfl
 f264:=Try.func88.trans (congrArg some (by kernel_rfl))
 t46:=Try.underlying61
 a46:=Try.isAgg61
 z46:=Try.sizeOf61
 v46:=Try.zeroValue61
 t53:=Try.underlying28
 a53:=Try.isAgg28
 z53:=Try.sizeOf28
 v53:=Try.zeroValue28 }
open Go.RowKit Go.Lib in
theorem Try.bits_Mul64 (x y:Nat) (hx:x < 18446744073709551616) (hy:y < 18446744073709551616) (w:World):
 Calls Try.prog 88 #[.int .u64 x, .int .u64 y] w fun e w'=>e= .returned (.tuple #[.int .u64 ((x*y / 18446744073709551616:Nat):Int), .int .u64 ((x*y % 18446744073709551616:Nat):Int)])∧w'=w:=Any.bits_Mul64 Try.lays264 x y hx hy w
end Go.Proofs
namespace Go.Proofs.Ytbfifglcnhfccaa
open Go.RowKit Go.Shelf
theorem add64 (x y:Int) (hx:Word x) (hy:Word y) (w:World):(callFunc 72 #[.int .u64 x, .int .u64 y, .int .u64 0]).run Try.prog w=
  .ok (.value (.tuple #[.int .u64 (loW (x+y)), .int .u64 (hiW (x+y))])) w:=by
 obtain⟨x0,x1⟩:=hx
 obtain⟨y0,y1⟩:=hy
 obtain⟨x,rfl⟩:=Int.eq_ofNat_of_zero_le x0
 obtain⟨y,rfl⟩:=Int.eq_ofNat_of_zero_le y0
 have h:=run_callFunc_extern (P:=Try.prog) Try.func72 (by kernel_rfl) (by kernel_rfl) (by kernel_rfl) (e:=add64Entry) (by kernel_rfl) (args:= #[.int .u64 (x:Int), .int .u64 (y:Int), .int .u64 0]) (w:=w)
 have h2:=run_add64 (P:=Try.prog) x y 0 (by omega) (by omega) (by omega) (by omega) w
 rw [h2] at h
 simp only [Result.andThen,Int.add_zero] at h
 exact h
theorem sub64 (x y b:Int) (hx:Word x) (hy:Word y) (b0:0≤b) (b1:b≤1) (w:World):(callFunc 87 #[.int .u64 x, .int .u64 y, .int .u64 b]).run Try.prog w=
  .ok (.value (.tuple #[.int .u64 (loW (x - y - b)), .int .u64 (-(hiW (x - y - b)))])) w:=by
 obtain⟨x0,x1⟩:=hx
 obtain⟨y0,y1⟩:=hy
 obtain⟨x,rfl⟩:=Int.eq_ofNat_of_zero_le x0
 obtain⟨y,rfl⟩:=Int.eq_ofNat_of_zero_le y0
 obtain⟨b,rfl⟩:=Int.eq_ofNat_of_zero_le b0
 have h:=run_callFunc_extern (P:=Try.prog) Try.func87 (by kernel_rfl) (by kernel_rfl) (by kernel_rfl) (e:=sub64Entry) (by kernel_rfl) (args:= #[.int .u64 (x:Int), .int .u64 (y:Int), .int .u64 (b:Int)]) (w:=w)
 rw [run_sub64 x y b (by omega)] at h
 refine h.trans ?_
 simp only [Result.andThen]
 unfold loW hiW
 have e1:(((x+18446744073709551616 - y - b) % 18446744073709551616:Nat):Int)=((x:Int) - y - b) % 18446744073709551616:=by omega
 have e2:((if x < y+b then 1 else 0:Nat):Int)= -(((x:Int) - y - b) / 18446744073709551616):=by split<;>omega
 rw [e1,e2]
theorem sub64_0 (x y:Int) (hx:Word x) (hy:Word y) (w:World):(callFunc 87 #[.int .u64 x, .int .u64 y, .int .u64 0]).run Try.prog w=
  .ok (.value (.tuple #[.int .u64 (loW (x - y)), .int .u64 (borW x y)])) w:=by
 have h:=sub64 x y 0 hx hy (by omega) (by omega) w
 rw [Int.sub_zero] at h
 exact h
theorem mul64 (x y:Int) (hx:Word x) (hy:Word y) (w:World):
  Calls Try.prog 88 #[.int .u64 x, .int .u64 y] w fun e w'=>e= .returned (.tuple #[.int .u64 (hiW (x*y)), .int .u64 (loW (x*y))])∧w=w':=by
 obtain⟨x0,x1⟩:=hx
 obtain⟨y0,y1⟩:=hy
 obtain⟨x,rfl⟩:=Int.eq_ofNat_of_zero_le x0
 obtain⟨y,rfl⟩:=Int.eq_ofNat_of_zero_le y0
 refine (Try.bits_Mul64 x y (by omega) (by omega) w).mono fun e w' ⟨he,hw⟩=>⟨he.trans ?_,hw.symm⟩
 unfold hiW loW
 rfl
theorem isNaN_any (x:Int) (w:World):Calls Try.prog 101 #[.int .u64 x] w fun e w'=>e= .returned (.bool false)∧w=w':=by
 have h:(x != x)=false:=by simp
 go_enter Try.func101,Try.ntmps101
 go_wp2
 go_ret
 exact⟨rfl,rfl⟩
theorem cmp_any (x y:Int) (w:World):Calls Try.prog 86 #[.int .u64 x, .int .u64 y] w fun e w'=>e= .returned (.int .i64 (ordW x y))∧w=w':=by
 by_cases h1:x < y
 ·have e:=ordW_lt h1
  rw [e]
  clear e
  go_enter Try.func86,Try.ntmps86
  go_wp2_with (go_at_call 101;refine (isNaN_any _ _).mono ?_;rintro e w' ⟨rfl,rfl⟩)
  go_ret
  exact⟨rfl,rfl⟩
 ·by_cases h2:y < x
  ·have e:=ordW_gt h2
   rw [e]
   clear e
   go_enter Try.func86,Try.ntmps86
   go_wp2_with (go_at_call 101;refine (isNaN_any _ _).mono ?_;rintro e w' ⟨rfl,rfl⟩)
   go_ret
   exact⟨rfl,rfl⟩
  ·have e:=ordW_eq (x:=x) (y:=y) (by omega)
   rw [e]
   clear e
   go_enter Try.func86,Try.ntmps86
   go_wp2_with (go_at_call 101;refine (isNaN_any _ _).mono ?_;rintro e w' ⟨rfl,rfl⟩)
   go_ret
   exact⟨rfl,rfl⟩
theorem product_any (a b:Int) (ha:Word a) (hb:Word b) (w:World):
  Calls Try.prog 78 #[.int .u64 a, .int .u64 b] w fun e w'=>e= .returned (.agg #[.int .u64 (hiW (a*b)), .int .u64 (loW (a*b))])∧w.alloc (.cells #[.int .u64 (hiW (a*b)), .int .u64 (loW (a*b))] 121)=w':=by
 go_enter Try.func78,Try.ntmps78
 go_wp2_with (go_at_call 88;refine (mul64 _ _ ha hb _).mono ?_;rintro e w' ⟨rfl,rfl⟩)
 simp [bodyPost,results,Try.results78,go_sem]
theorem order_any (xh xl yh yl:Int) (h2:Word xl) (h4:Word yl) (w:World):
  Calls Try.prog 76 #[.agg #[.int .u64 xh, .int .u64 xl], .agg #[.int .u64 yh, .int .u64 yl]] w fun e w'=>e= .returned (.int .i64 (ordW (wid xh xl) (wid yh yl)))∧
   (w.alloc (.cells #[.int .u64 xh, .int .u64 xl] 121)).alloc (.cells #[.int .u64 yh, .int .u64 yl] 121)=w':=by
 by_cases h:xh=yh
 ·subst h
  rw [ordW_same]
  go_enter Try.func76,Try.ntmps76
  go_wp2_with (go_at_call 86;refine (cmp_any _ _ _).mono ?_;rintro e w' ⟨rfl,rfl⟩)
  go_ret
  exact⟨rfl,rfl⟩
 ·rw [ordW_high h h2 h4]
  go_enter Try.func76,Try.ntmps76
  go_wp2_with (go_at_call 86;refine (cmp_any _ _ _).mono ?_;rintro e w' ⟨rfl,rfl⟩)
  go_ret
  exact⟨rfl,rfl⟩
theorem apart_any (xh xl yh yl:Int) (h1:Word xh) (h2:Word xl) (h3:Word yh) (h4:Word yl) (w:World):
  Calls Try.prog 77 #[.agg #[.int .u64 xh, .int .u64 xl], .agg #[.int .u64 yh, .int .u64 yl]] w fun e w'=>
   e= .returned (.agg #[.int .u64 (hiW (dist (wid xh xl) (wid yh yl))), .int .u64 (loW (dist (wid xh xl) (wid yh yl)))])∧Below w.heap.size w w':=by
 by_cases h:wid xh xl < wid yh yl
 ·rw [dist_comm]
  obtain⟨k0,k1⟩:=borW_bd h4 h2
  rw [←apart_low (by omega), ←apart_high h3 h4 h1 h2 (by omega)]
  have e1:(ordW (wid xh xl) (wid yh yl) < 0)=True:=by rw [ordW_lt h];simp
  clear h
  go_enter Try.func77,Try.ntmps77
  go_wp2_with (first|(go_at_call 76;refine (order_any _ _ _ _ h2 h4 _).mono ?_;rintro e w1 ⟨rfl,rfl⟩) |simp only [sub64_0 yl xl h4 h2] |simp only [sub64 yh xh _ h3 h1 k0 k1])
  simp [bodyPost,results,Try.results77,go_sem]
  repeat (first|exact Below.refl _ _|refine Below.alloc ?_ (by simp<;>omega) _|refine Below.setCell ?_ (by simp<;>omega) _)
 ·obtain⟨k0,k1⟩:=borW_bd h2 h4
  rw [←apart_low (by omega), ←apart_high h1 h2 h3 h4 (by omega)]
  have e1:(ordW (wid xh xl) (wid yh yl) < 0)=False:=by
   have:=ordW_ge h
   simp;omega
  clear h
  go_enter Try.func77,Try.ntmps77
  go_wp2_with (first|(go_at_call 76;refine (order_any _ _ _ _ h2 h4 _).mono ?_;rintro e w1 ⟨rfl,rfl⟩) |simp only [sub64_0 xl yl h2 h4] |simp only [sub64 xh yh _ h1 h3 k0 k1])
  simp [bodyPost,results,Try.results77,go_sem]
  repeat (first|exact Below.refl _ _|refine Below.alloc ?_ (by simp<;>omega) _|refine Below.setCell ?_ (by simp<;>omega) _)
def Digs (w:World) (v:Value) (l:List Int):Prop:=
 (v= .slice none 0 0∧l=[])∨∃g o c,v= .slice (some ⟨g,o,none⟩) l.length c∧l.length≤c∧c≤maxLen∧g < w.heap.size∧∀i,i < l.length→w.cell? ⟨g,o+i,none⟩=some (.int .u64 (dg l i))
theorem Digs.below {w w':World} {v:Value} {l:List Int} (h:Digs w v l) (hb:Below w.heap.size w w'):Digs w' v l:=by
 rcases h with h|⟨g,o,c,h1,h2,h3,h4,h5⟩
 ·exact .inl h
 ·exact .inr ⟨g,o,c,h1,h2,h3,Nat.lt_of_lt_of_le h4 hb.size,fun i hi=>(hb.cell (p:=⟨g,o+i,none⟩) h4).trans (h5 i hi)⟩
theorem Digs.owned {w:World} {base:Nat} {v:Value} {n:Nat} {l:List Int} (h:w.ownsRow base 28 1 v n (l.map (Value.int .u64))):Digs w v l:=by
 have hlt:=h.lt
 have hlen:l.length=n:=by have:=h.1;simpa using this
 rcases h.2 with⟨h1,h2⟩ |⟨g,cap,cur,h1,h2,h3,h4,h5,h6,h7⟩
 ·refine .inl ⟨h1,?_⟩
  exact List.eq_nil_of_length_eq_zero (by omega)
 ·subst h1
  refine .inr ⟨g,0,cap,by rw [hlen],by omega,h5,(hlt g rfl).2,fun i hi=>?_⟩
  have:=h.cellAt i (by omega)
  rw [Nat.zero_add,this]
  unfold dg
  simp [List.getD_eq_getElem?_getD,hi]
structure Num (w:World) (v:Value) (X:Int) (m:Nat):Prop where
 digs:∃L,Digs w v L∧Good L∧val L=X∧L.length≤m
theorem Num.below {w w':World} {v:Value} {X:Int} {m:Nat} (h:Num w v X m) (hb:Below w.heap.size w w'):Num w' v X m:=by
 obtain⟨L,h1,h2,h3,h4⟩:=h.digs
 exact⟨L,h1.below hb,h2,h3,h4⟩
theorem Num.mono {w:World} {v:Value} {X:Int} {m m':Nat} (h:Num w v X m) (hm:m≤m'):Num w v X m':=by
 obtain⟨L,h1,h2,h3,h4⟩:=h.digs
 exact⟨L,h1,h2,h3,by omega⟩
theorem word_info:(Try.prog.info? 28).map (fun i=>(i.zero,i.size,i.bytes))=some (some (.int .u64 0),1,8):=by kernel_rfl
theorem at_any {w:World} {v:Value} {L:List Int} (h:Digs w v L) (i:Nat) (hl:L.length≤100000):
  Calls Try.prog 84 #[v, .int .i64 i] w fun e w'=>e= .returned (.int .u64 (dg L i))∧w=w':=by
 by_cases hk:i < L.length
 ·rcases h with⟨h1,h2⟩ |⟨g,o,c,h1,h2,h3,h4,h5⟩
  ·subst h2
   simp at hk
  ·subst h1
   have hc:=h5 i hk
   clear h5
   go_enter Try.func84,Try.ntmps84
   go_wp2
   go_ret
   exact⟨rfl,rfl⟩
 ·rw [dg_out (by omega)]
  rcases h with⟨h1,h2⟩ |⟨g,o,c,h1,h2,h3,h4,h5⟩
  ·subst h1 h2
   go_enter Try.func84,Try.ntmps84
   go_wp2
   go_ret
   exact⟨rfl,rfl⟩
  ·subst h1
   clear h5
   go_enter Try.func84,Try.ntmps84
   go_wp2
   go_ret
   exact⟨rfl,rfl⟩
theorem Digs.form {w:World} {v:Value} {L:List Int} (h:Digs w v L):∃A c,v= .slice A L.length c:=by
 rcases h with⟨h1,h2⟩ |⟨g,o,c,h1,_⟩
 ·exact⟨none,0,by rw [h1,h2];rfl⟩
 ·exact⟨_,c,h1⟩
theorem longer_any {w:World} {a b:Value} {A B:List Int} (ha:Digs w a A) (hb:Digs w b B):
  Calls Try.prog 85 #[a,b] w fun e w'=>e= .returned (.int .i64 ((max A.length B.length:Nat):Int))∧w=w':=by
 obtain⟨x,c,rfl⟩:=ha.form
 obtain⟨y,d,rfl⟩:=hb.form
 clear ha hb
 by_cases h:B.length < A.length
 ·rw [show max A.length B.length=A.length by omega]
  go_enter Try.func85,Try.ntmps85
  go_wp2
  go_ret
  exact⟨rfl,rfl⟩
 ·rw [show max A.length B.length=B.length by omega]
  go_enter Try.func85,Try.ntmps85
  go_wp2
  go_ret
  exact⟨rfl,rfl⟩
theorem app_below {w wr w2:World} {e:TypeId} {v:Value} {n:Nat} {xs:List Value} {o:Obj} (hb:Below w.heap.size w wr) (hown:wr.ownsRow w.heap.size e 1 v n xs) (hg:(wr.alloc o).grownBy w2 v.ownBlock):Below w.heap.size w w2:=
 (hb.alloc hb.size o).grown hg (by have:=hb.size;simp;omega) (fun k hk=>(hown.lt k hk).1)
theorem sum_any {w:World} {a b:Value} {X Y:Int} {p q:Nat} (ha:Num w a X p) (hb:Num w b Y q) (hp:p≤1000) (hq:q≤1000):
  Calls Try.prog 74 #[a,b] w fun e w'=>∃v,e= .returned v∧Num w' v (X+Y) (max p q+1)∧Below w.heap.size w w':=by
 obtain⟨A,da,ga,va,la⟩:=ha.digs
 obtain⟨B,db,gb,vb,lb⟩:=hb.digs
 clear ha hb
 have hn1:A.length≤max A.length B.length:=by omega
 have hn2:B.length≤max A.length B.length:=by omega
 have hn3:max A.length B.length≤1000:=by omega
 have hn4:max A.length B.length≤max p q:=by omega
 have HL:=xhd (longer_any da db)
 have Hfin:Hid (val ((List.range (max A.length B.length+1)).map (sumD A B))=X+Y):=by rw [←va, ←vb];exact sum_val ga gb hn1 hn2
 generalize max A.length B.length=n at HL Hfin hn1 hn2 hn3 hn4
 clear va vb
 obtain⟨i0,hi0,hz0,hz1,hz2⟩:=info_parts word_info
 go_enter Try.func74,Try.ntmps74
 go_wp2_with (go_at_call 85;refine HL.out.mono ?_;rintro e w1 ⟨rfl,rfl⟩)
 go_loopw [5,6,8] (fun o c i wr=>∃k:Nat,k≤n+1∧i= .int .i64 k∧c= .int .u64 (sumC A B k)∧wr.ownsRow w.heap.size 28 1 o k (((List.range k).map (sumD A B)).map (Value.int .u64))∧Below w.heap.size w wr) (fun _ _ i _=>n+1 - (intOf i).toNat)
 case atStart=>exact⟨0,Nat.zero_le _,rfl,rfl,World.ownsRow_nil _ _ _ _,Below.refl _ _⟩
 case round=>
  obtain⟨k,hk,rfl,rfl,hown,hbel⟩:=hrel
  by_cases hlt:k≤n
  ·have HA:=xhd (at_any (da.below hbel) k (by omega))
   have HB:=xhd (at_any (db.below hbel) k (by omega))
   obtain⟨a0,a1⟩:=ga k
   obtain⟨b0,b1⟩:=gb k
   obtain⟨c0,c1⟩:=sumC_bd ga gb k
   go_wp2_with fail
   refine (HA.out).mono ?_
   rintro e w2 ⟨rfl,rfl⟩
   go_wp2_with fail
   refine (HB.out).mono ?_
   rintro e w2 ⟨rfl,rfl⟩
   go_wp2_with (at_builtin;refine wpList_append_own _ rfl _ _ 62 rfl w.heap.size 28 i0 (.int .u64 0) 1 8 Try.underlying62 hi0 hz0 hz1 hz2 rfl (by decide) _ _ _ rfl (hown.alloc _) ⟨wr.heap.size,0,none⟩ 1 1 [.int .u64 ((dg A k+dg B k+sumC A B k) % 65536)] rfl rfl ?c1 ?c2 ?c3 ?c4 ?c5 ?_)
   case c1=>
    intro j u hj
    match j,hj with
    |0,hj=>simp at hj;subst hj;simp [Addr.add]
   case c2=>intro u hu;simp at hu;subst hu;rfl
   case c3=>unfold maxLen;omega
   case c4=>omega
   case c5=>have:=hbel.size;simp;omega
   intro v' w2 hown2 hgrow _
   have hb2:=app_below hbel hown hgrow
   have hown3:w2.ownsRow w.heap.size 28 1 v' (k+1) (((List.range (k+1)).map (sumD A B)).map (Value.int .u64)):=by
    rw [range_succ_map,List.map_append,List.map_map]
    exact hown2
   clear hown2 hgrow hown
   go_wp2
   go_roundw
   case rel=>exact⟨k+1,by omega,by go_num,rfl,hown3,hb2⟩
   case measure=>simp [intOf];omega
  ·have hkn:k=n+1:=by omega
   subst hkn
   go_wp2
   go_ret
   exact⟨_,rfl,⟨_,Digs.owned hown,sum_good,Hfin.out,by simp;omega⟩,hbel⟩
theorem number_any (a:Int) (h:Word a) (w:World):
  Calls Try.prog 75 #[.int .u64 a] w fun e w'=>∃v,e= .returned v∧Num w' v a 4∧Below w.heap.size w w':=by
 obtain⟨h0,h1⟩:=h
 go_enter Try.func75,Try.ntmps75
 go_wp2
 go_ret
 refine⟨_,rfl,⟨[a % 65536,a / 65536 % 65536,a / 4294967296 % 65536,a / 281474976710656], .inr ⟨w.heap.size,0,4,rfl,Nat.le_refl _,by unfold maxLen;omega,by simp,?_⟩,?_,?_,Nat.le_refl _⟩,(Below.refl _ _).alloc (Nat.le_refl _) _⟩
 ·intro i hi
  match i,hi with
  |0,_=>simp [go_sem,dg]
  |1,_=>simp [go_sem,dg]
  |2,_=>simp [go_sem,dg]
  |3,_=>simp [go_sem,dg]
 ·intro k
  match k with
  |0=>unfold Digit dg;simp;omega
  |1=>unfold Digit dg;simp;omega
  |2=>unfold Digit dg;simp;omega
  |3=>unfold Digit dg;simp;omega
  |k+4=>rw [dg_out (by simp)];unfold Digit;omega
 ·rw [val_four rfl]
  simp [dg]
  omega
def Zeros (L:List Int) (k:Nat):Prop:=∀j,4≤j→j < k→dg L j=0
theorem Zeros.succ {L:List Int} {k:Nat} (h:Zeros L k) (h0:dg L k=0):Zeros L (k+1):=fun j h4 hj=>by
 by_cases e:j=k
 ·rw [e];exact h0
 ·exact h j h4 (by omega)
theorem fits_any {w:World} {v:Value} {X:Int} {m:Nat} (h:Num w v X m) (hm:m≤1000):
  Calls Try.prog 73 #[v] w fun e w'=>e= .returned (.tuple #[.int .u64 (satV X), .int .i64 (satE X)])∧w=w':=by
 obtain⟨L,dl,gl,vl,ll⟩:=h.digs
 have HL:=xhd vl
 have A0:=xhd (at_any dl 0 (by omega))
 have A1:=xhd (at_any dl 1 (by omega))
 have A2:=xhd (at_any dl 2 (by omega))
 have A3:=xhd (at_any dl 3 (by omega))
 have hcell:∀A c,v= .slice A L.length c→∀k,k < L.length→∃g o,A=some ⟨g,o,none⟩∧w.cell? ⟨g,o+k,none⟩=some (.int .u64 (dg L k)):=by
  intro A c hv k hk
  rcases dl with⟨_,h2⟩ |⟨g,o,c',h1,_,_,_,h5⟩
  ·subst h2;simp at hk
  ·rw [hv] at h1
   simp only [Value.slice.injEq] at h1
   exact⟨g,o,h1.1,h5 k hk⟩
 obtain⟨A,c,rfl⟩:=dl.form
 have HC:=xhd (hcell A c rfl)
 clear h vl hcell dl
 have hd:=fun k=>(gl k)
 obtain⟨x0,y0⟩:=hd 0
 obtain⟨x1,y1⟩:=hd 1
 obtain⟨x2,y2⟩:=hd 2
 obtain⟨x3,y3⟩:=hd 3
 clear hd
 go_enter Try.func73,Try.ntmps73
 go_wp2
 go_loop [4] (fun i=>∃k:Nat,i= .int .i64 k∧4≤k∧k≤1004∧Zeros L k) (fun i=>1004 - (intOf i).toNat)
 case atStart=>exact⟨4,rfl,by omega,by omega,fun j a b=>by omega⟩
 case round=>
  obtain⟨k,rfl,h4,hk,hz⟩:=hrel
  by_cases hlt:k < L.length
  ·obtain⟨g,o,rfl,hc⟩:=HC.out k hlt
   obtain⟨xk,yk⟩:=gl k
   by_cases hp:0 < dg L k
   ·go_wp2
    go_ret2
    have hb:=val_high gl h4 hlt hp
    rw [HL.out] at hb
    rw [satV_big hb,satE_big hb]
    exact⟨rfl,rfl⟩
   ·have h0:dg L k=0:=by omega
    have hz':=hz.succ h0
    clear h0
    go_wp2
    go_round
    case rel=>exact⟨k+1,by go_num,by omega,by omega,hz'⟩
    case measure=>simp [intOf];omega
  ·go_wp2_with fail
   refine A0.out.mono ?_
   rintro e w1 ⟨rfl,rfl⟩
   go_wp2_with fail
   refine A1.out.mono ?_
   rintro e w1 ⟨rfl,rfl⟩
   go_wp2_with fail
   refine A2.out.mono ?_
   rintro e w1 ⟨rfl,rfl⟩
   go_wp2_with fail
   refine A3.out.mono ?_
   rintro e w1 ⟨rfl,rfl⟩
   go_wp2
   go_ret2
   have hv:=val_low (l:=L) (fun j a b=>hz j a (by omega))
   rw [HL.out] at hv
   have hfit:X≤18446744073709551615:=by omega
   rw [satV_fit hfit,satE_fit hfit,hv]
   exact⟨rfl,rfl⟩
theorem Digs.cellAt {w:World} {A:Option Addr} {c:Nat} {L:List Int} (h:Digs w (.slice A L.length c) L):∀wr:World,Below w.heap.size w wr→∀k,k < L.length→∃g o,A=some ⟨g,o,none⟩∧wr.cell? ⟨g,o+k,none⟩=some (.int .u64 (dg L k)):=by
 intro wr hb k hk
 rcases h.below hb with⟨_,h2⟩ |⟨g,o,c',h1,_,_,_,h5⟩
 ·subst h2;simp at hk
 ·simp only [Value.slice.injEq] at h1
  exact⟨g,o,h1.1,h5 k hk⟩
theorem refadd_any (a b:Int) (ha:Word a) (hb:Word b) (w:World):
  Calls Try.prog 52 #[.int .u64 a, .int .u64 b] w fun e w'=>e= .returned (.tuple #[.int .u64 (satV (a+b)), .int .i64 (satE (a+b))])∧Below w.heap.size w w':=by
 have N1:=xhd (number_any a ha)
 have N2:=xhd (number_any b hb)
 go_enter Try.func52,Try.ntmps52
 go_wp2_with fail
 refine (N1.out _).mono ?_
 rintro e w1 ⟨v1,rfl,n1,b1⟩
 go_wp2_with fail
 refine (N2.out _).mono ?_
 rintro e w2 ⟨v2,rfl,n2,b2⟩
 have S:=xhd (sum_any (n1.below b2) n2 (by omega) (by omega))
 go_wp2_with fail
 refine S.out.mono ?_
 rintro e w3 ⟨v3,rfl,n3,b3⟩
 have F:=xhd (fits_any n3 (by omega))
 go_wp2_with fail
 refine F.out.mono ?_
 rintro e w4 ⟨rfl,rfl⟩
 go_wp2
 go_ret2
 have z1:=b1.size
 have z2:=b2.size
 exact⟨rfl,(b1.trans (b2.mono z1)).trans (b3.mono (by omega))⟩
end Go.Proofs.Ytbfifglcnhfccaa
namespace Go.Proofs.Ytbfifglcnhfccaa
def bringR (n lo hi:Int):Int:=if n < lo then lo else if hi < n then hi else n
theorem bring_in {n lo hi:Int} (h0:lo≤n) (h1:n≤hi):bringR n lo hi=n:=by
 unfold bringR
 rw [if_neg (by omega),if_neg (by omega)]
theorem bring_range {n lo hi:Int} (h:lo≤hi):lo≤bringR n lo hi∧bringR n lo hi≤hi:=by
 unfold bringR
 split
 ·omega
 ·split<;>omega
def sumR (l:List Int):Int:=l.foldr (· + ·) 0
def ticksR (ts:List Int):List Int:=ts.map (fun t=>bringR t 0 2147483648)
def weightsR (ws:List Int):List Int:=ws.map (fun w=>bringR w 1 4096)
def offR (ts ws:List Int) (i:Nat):Int:=((((ticksR ts)[i]?).getD 0*sumR (weightsR ws) - ((weightsR ws)[i]?).getD 0*sumR (ticksR ts)).natAbs:Nat)
def upDiv (x a:Int):Int:=if 0 < x % a then x / a+1 else x / a
def worstTo (ts ws:List Int):Nat→Int
 |0=>0
 |n+1=>if worstTo ts ws n < upDiv (offR ts ws n) (sumR (weightsR ws)) then upDiv (offR ts ws n) (sumR (weightsR ws)) else worstTo ts ws n
def worstR (ts ws:List Int):Int:=if ts.length≠ws.length∨64 < ts.length then -1 else worstTo ts ws ts.length
def fairR (ts ws:List Int) (k:Int):Bool:=decide (0≤worstR ts ws)&&decide (worstR ts ws≤bringR k 0 2147483648)
theorem updiv_le {x a k:Int} (ha:0 < a) (h:x≤k*a):upDiv x a≤k:=by
 unfold upDiv
 have h1:x=a*(x / a)+x % a:=(Int.mul_ediv_add_emod x a).symm
 have h2:=Int.emod_nonneg x (show a≠0 by omega)
 have h3:=Int.emod_lt_of_pos x ha
 have hk:x / a≤k:=by
  rw [Int.mul_comm] at h
  exact Int.ediv_le_of_le_mul ha (by rw [Int.mul_comm];exact h)
 split
 ·next hp=>
  rcases Int.lt_or_le (x / a) k with h4|h4
  ·omega
  ·exfalso
   have h5:x / a=k:=by omega
   rw [h5,Int.mul_comm a k] at h1
   omega
 ·exact hk
theorem updiv_ge {x a:Int} (ha:0 < a) (h:0≤x):0≤upDiv x a:=by
 unfold upDiv
 have:=Int.ediv_nonneg h (Int.le_of_lt ha)
 split<;>omega
theorem worst_le {ts ws:List Int} {k:Int} (ha:0 < sumR (weightsR ws)) (hk:0≤k):∀n,(∀i,i < n→offR ts ws i≤k*sumR (weightsR ws))→0≤worstTo ts ws n∧worstTo ts ws n≤k
 |0,_=>⟨Int.le_refl _,hk⟩
 |n+1,h=>by
  obtain⟨i1,i2⟩:=worst_le ha hk n (fun i hi=>h i (by omega))
  have h1:=updiv_le ha (h n (by omega))
  have h0:0≤upDiv (offR ts ws n) (sumR (weightsR ws)):=updiv_ge ha (by unfold offR;omega)
  unfold worstTo
  split
  ·exact⟨h0,h1⟩
  ·exact⟨i1,i2⟩
def crossR (t w:Int) (P:List (Int×Int)):Int:=sumR (P.map (fun x=>t*x.2 - w*x.1))
theorem cross_sum (t w:Int):∀P:List (Int×Int),crossR t w P=t*sumR (P.map (·.2)) - w*sumR (P.map (·.1))
 |[]=>by simp [crossR,sumR]
 |x::P=>by
  have ih:=cross_sum t w P
  simp only [crossR,sumR,List.map_cons,List.foldr_cons] at ih ⊢
  rw [ih,Int.mul_add,Int.mul_add]
  omega
theorem sum_pos:∀ {P:List (Int×Int)},(∀y ∈ P,0 < y.2)→0≤sumR (P.map (·.2))∧∀x ∈ P,x.2≤sumR (P.map (·.2))
 |[],_=>⟨by simp [sumR],fun x hx=>by cases hx⟩
 |y::P,h=>by
  obtain⟨i1,i2⟩:=sum_pos (P:=P) (fun z hz=>h z (by simp [hz]))
  have hy:=h y (by simp)
  have e:sumR ((y::P).map (·.2))=y.2+sumR (P.map (·.2)):=by simp [sumR]
  rw [e]
  refine⟨by omega,fun x hx=>?_⟩
  rcases List.mem_cons.1 hx with rfl|hx
  ·omega
  ·have:=i2 x hx
   omega
end Go.Proofs.Ytbfifglcnhfccaa
namespace Go.Proofs.Ytbfifglcnhfccaa
open Go.RowKit
def coreR (n:Int):Int:=1099511627776 / bringR n 1 4096
def reachR (n g:Int):Int:=coreR n*bringR g 1 8
def clampR (v f r:Int):Int:=if v < f then f else if satV (f+r) < v then satV (f+r) else v
theorem core_range (n:Int):0≤coreR n∧coreR n≤1099511627776:=by
 unfold coreR
 have:=bring_range (n:=n) (lo:=1) (hi:=4096) (by decide)
 constructor
 ·exact Int.ediv_nonneg (by decide) (by omega)
 ·exact Int.ediv_le_self _ (by decide)
theorem reach_range (n g:Int):0≤reachR n g∧reachR n g≤8796093022208:=by
 unfold reachR
 have h1:=core_range n
 have h2:=bring_range (n:=g) (lo:=1) (hi:=8) (by decide)
 obtain⟨c,hc⟩:∃c,coreR n=c:=⟨_,rfl⟩
 obtain⟨b,hb⟩:∃b,bringR g 1 8=b:=⟨_,rfl⟩
 rw [hc] at h1 ⊢
 rw [hb] at h2 ⊢
 constructor
 ·exact Int.mul_nonneg h1.1 (by omega)
 ·have:=Int.mul_le_mul h1.2 h2.2 (by omega) (by omega)
  omega
theorem bring_any (n lo hi:Int) (w:World):Calls Try.prog 31 #[.int .i64 n, .int .i64 lo, .int .i64 hi] w fun e w'=>e= .returned (.int .i64 (bringR n lo hi))∧w'=w:=by
 unfold bringR
 by_cases h1:n < lo
 ·rw [if_pos h1]
  go_enter Try.func31,Try.ntmps31
  go_wp2
  go_ret
  exact⟨rfl,rfl⟩
 ·rw [if_neg h1]
  by_cases h2:hi < n
  ·rw [if_pos h2]
   go_enter Try.func31,Try.ntmps31
   go_wp2
   go_ret
   exact⟨rfl,rfl⟩
  ·rw [if_neg h2]
   go_enter Try.func31,Try.ntmps31
   go_wp2
   go_ret
   exact⟨rfl,rfl⟩
theorem rcore_any (n:Int) (w:World):Calls Try.prog 53 #[.int .i64 n] w fun e w'=>e= .returned (.int .u64 (coreR n))∧w'=w:=by
 have HB:=xhd (bring_any n 1 4096 w)
 have hr:=core_range n
 have hb:=bring_range (n:=n) (lo:=1) (hi:=4096) (by decide)
 unfold coreR at hr ⊢
 obtain⟨b,hbb⟩:∃b,bringR n 1 4096=b:=⟨_,rfl⟩
 rw [hbb] at HB hr hb ⊢
 have hw:IntKind.u64.wrap b=b:=by rw [IntKind.wrap_u64];omega
 have hq:(1099511627776:Int).tdiv b=1099511627776 / b:=Int.tdiv_eq_ediv_of_nonneg (by decide)
 obtain⟨q,hqq⟩:∃q,1099511627776 / b=q:=⟨_,rfl⟩
 rw [hqq] at hq hr ⊢
 have hw2:IntKind.u64.wrap q=q:=by rw [IntKind.wrap_u64];omega
 have hn:¬b=0:=by omega
 clear hbb hqq
 go_enter Try.func53,Try.ntmps53
 go_wp2_with fail
 with_reducible refine HB.out.mono ?_
 rintro e w1 ⟨rfl,rfl⟩
 go_wp2
 go_ret
 exact⟨rfl,rfl⟩
theorem rreach_any (n g:Int) (w:World):Calls Try.prog 69 #[.int .i64 n, .int .i64 g] w fun e w'=>e= .returned (.int .u64 (reachR n g))∧w'=w:=by
 have HB:=xhd (bring_any g 1 8 w)
 have HC:=xhd (rcore_any n w)
 have hr:=reach_range n g
 have hb:=bring_range (n:=g) (lo:=1) (hi:=8) (by decide)
 unfold reachR at hr ⊢
 obtain⟨b,hbb⟩:∃b,bringR g 1 8=b:=⟨_,rfl⟩
 obtain⟨c,hcc⟩:∃c,coreR n=c:=⟨_,rfl⟩
 rw [hbb] at HB hr hb ⊢
 rw [hcc] at HC hr ⊢
 have hw:IntKind.u64.wrap b=b:=by rw [IntKind.wrap_u64];omega
 have hw2:IntKind.u64.wrap (c*b)=c*b:=by
  obtain⟨q,hq⟩:∃q,c*b=q:=⟨_,rfl⟩
  rw [hq] at hr ⊢
  rw [IntKind.wrap_u64];omega
 clear hbb hcc hr
 go_enter Try.func69,Try.ntmps69
 go_wp2_with fail
 with_reducible refine HC.out.mono ?_
 rintro e w1 ⟨rfl,rfl⟩
 go_wp2_with fail
 with_reducible refine HB.out.mono ?_
 rintro e w2 ⟨rfl,rfl⟩
 go_wp2
 go_ret
 exact⟨rfl,rfl⟩
theorem rclamp_any (v f r:Int) (hf:Word f) (hr:Word r) (w:World):Calls Try.prog 68 #[.int .u64 v, .int .u64 f, .int .u64 r] w fun e w'=>e= .returned (.int .u64 (clampR v f r))∧Below w.heap.size w w':=by
 have HA:=xhd (refadd_any f r hf hr w)
 unfold clampR
 by_cases h1:v < f
 ·rw [if_pos h1]
  go_enter Try.func68,Try.ntmps68
  go_wp2
  go_ret
  exact⟨rfl,Below.refl _ _⟩
 ·rw [if_neg h1]
  obtain⟨s,hs⟩:∃s,satV (f+r)=s:=⟨_,rfl⟩
  rw [hs] at HA ⊢
  by_cases h2:s < v
  ·rw [if_pos h2]
   go_enter Try.func68,Try.ntmps68
   go_wp2_with fail
   with_reducible refine HA.out.mono ?_
   rintro e w1 ⟨rfl,hb⟩
   have HB:=xhd hb
   clear hb
   go_wp2
   go_ret
   exact⟨rfl,HB.out⟩
  ·rw [if_neg h2]
   go_enter Try.func68,Try.ntmps68
   go_wp2_with fail
   with_reducible refine HA.out.mono ?_
   rintro e w1 ⟨rfl,hb⟩
   have HB:=xhd hb
   clear hb
   go_wp2
   go_ret
   exact⟨rfl,HB.out⟩
end Go.Proofs.Ytbfifglcnhfccaa
