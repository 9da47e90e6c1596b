/-
  From a walk to a row: slices of deeds and of integers, opened to their cells; what a law's row asks of the world behind the call.
  Plain arithmetic for numbers of 64 bits: words, the two halves of a product of 128 bits, order, distance. No program in sight.
  Plain arithmetic of numbers in digits of 16 bits, the lowest first. No program in sight.
  No contract of the shelf is wanted here: the seat's own program alone.
  The library's calls that fixq is made of, over whole numbers: bits.Add64, bits.Sub64, bits.Mul64, bits.LeadingZeros64, cmp.Compare.
  Numbers of 128 bits: what product, order and apart of package fixq answer.
  Numbers in digits, in memory; the reference's at and longer.
  The reference's number, Sum and Fits.
  The reference's Times.
  The reference's Less and Minus.
  What the reference's Add, Sub, Mul, Compare and Near answer, at every argument.
  Shares by weight, plainly: who is ahead of a floor by no more than a reach has a fair share. No program.
  The document's Bring, Core, Lock, Reach, Slack, Clamp.
  A queue, plainly: who is added, removed, weighed, picked, ticked, settled; each task is, behind each go, from the floor up to that and its reach. No program.
  Who is ready, in order, plainly: the first in order is the least. No program.
  Memory of one's own, told by the numbers of its blocks: what a call may have turned, and what stays. No program.
  append onto a row of one's own: where the longer row lies. No program.
  A list of like things, its cells in a row of one's own that a field of a block holds: what appends, removals and stores make of it. No program.
-/
import Derived.Test.YtfmciiffcmfagaaGreatRows
import Derived.WalkKit
import Derived.ProofKit
import Derived.OpenShut
import Derived.Deep.Slices
import Derived.Deep.Fields
import Derived.ChangeSame
import Derived.Below
import Derived.Test.YtfmciiffcmfagaaGreatProg
import Derived.Shelf.Spec.BitsCarry
import Derived.WalkSpells
import Derived.WalkLawsBesides
import Derived.Lib.Hide
import Derived.Deep.QuietTactic
import Derived.BigQuiet
import Derived.Deep.LoopGhost
import Derived.Test.YtfmciiffcmfagaaGreatChecked
import Derived.OneCell
import Derived.WalkSmall
import Derived.OwnWalk
import Derived.ArgAppend
import Derived.Laws.AppendOwnNone
import Derived.Maps.AppendAt
import Derived.RegionTactic
import Derived.Test.YtfmciiffcmfagaaGreatZAl
set_option maxRecDepth 100000
set_option maxHeartbeats 25600000
namespace Go.Proofs.YtfmciiffcmfagaaGreat
open Go.ChangeShapes Go.WideShapes Go.ChangeAt Go.RowKit Go.Deep
theorem own:ownKnob Tryz.prog.godebug=none:=by kernel_rfl
theorem laidOut:laidOutB Tryz.prog=true:=by kernel_rfl
section
variable {H:Type} {enc:TypeId×Value→H} {P:Program}
theorem post_law {f:Func} {s:ChangeSpec} {apart fresh handsOn:Bool} {W W':World} {args:Array Value} {v:Value} {ds gs:List (DataW H)} {before pa pv:List MemPlace}
  (hW:DataW.Whole enc P f.params.toList s.vars apart W args.toList ds gs before) (hb:Below W.heap.size W W')
  (hres:∀(b:Nat) (sp:Nat→Bool) (hd:Bool),DataW.TrodAll enc P W' b sp hd f.resultTypes.toList (v.resultList f.resultTypes.size) (s.fn H (ds++gs)).results [])
  (hargs:DataW.TrodAll enc P W' 0 (fun b=>decide (b < W.heap.size)) true f.params.toList args.toList (s.fn H (ds++gs)).args pa)
  (hvars:DataW.TrodVars enc P W' (fun b=>decide (b < W.heap.size)) s.vars (s.fn H (ds++gs)).vars pv):s.post enc P f apart fresh handsOn false W args v W':=by
 exact⟨ds,gs,before,[],pa,pv,hW,hres _ _ _,hargs,hvars,hb.frame _,fun h=>by cases h⟩
variable {w:World} {base:Nat} {spare:Nat→Bool} {held:Bool}
theorem spot_none {w:World} {a:Addr} {v:Value} (h:w.cell? a=some v):∃b off,a=⟨b,off,none⟩∧b < w.heap.size:=by
 have hb:=World.block_lt_of_cell? w a h
 obtain⟨b,off,s⟩:=a
 cases s with
 |none=>exact⟨b,off,rfl,hb⟩
 |some s=>
  unfold World.cell? at h
  split at h<;>simp at h
end
end Go.Proofs.YtfmciiffcmfagaaGreat
namespace Go.Proofs.YtfmciiffcmfagaaGreat
def Word (x:Int):Prop:=0≤x∧x≤18446744073709551615
theorem Word.lo {x:Int} (h:Word x):0≤x:=h.1
theorem Word.hi {x:Int} (h:Word x):x≤18446744073709551615:=h.2
def hiW (x:Int):Int:=x / 18446744073709551616
def loW (x:Int):Int:=x % 18446744073709551616
def satV (x:Int):Int:=if x≤18446744073709551615 then x else 18446744073709551615
def satE (x:Int):Int:=if x≤18446744073709551615 then 0 else 2
theorem satV_fit {x:Int} (h:x≤18446744073709551615):satV x=x:=if_pos h
theorem satE_fit {x:Int} (h:x≤18446744073709551615):satE x=0:=if_pos h
theorem satV_big {x:Int} (h:¬x≤18446744073709551615):satV x=18446744073709551615:=if_neg h
theorem satE_big {x:Int} (h:¬x≤18446744073709551615):satE x=2:=if_neg h
def subV (a b:Int):Int:=if a < b then 0 else a - b
def subE (a b:Int):Int:=if a < b then 2 else 0
def P (k:Nat):Int:=65536 ^ k
theorem P_succ (k:Nat):P (k+1)=P k*65536:=Int.pow_succ _ _
theorem P_pos (k:Nat):0 < P k:=Int.pow_pos (by omega)
def pv (f:Nat→Int):Nat→Int
 |0=>0
 |k+1=>pv f k+f k*P k
def dg (l:List Int) (k:Nat):Int:=l.getD k 0
def val (l:List Int):Int:=pv (dg l) l.length
def Digit (d:Int):Prop:=0≤d∧d≤65535
def Good (l:List Int):Prop:=∀k,Digit (dg l k)
theorem pv_congr {f g:Nat→Int} :∀n:Nat,(∀k,k < n→f k=g k)→pv f n=pv g n
 |0,_=>rfl
 |n+1,h=>by
  have:=pv_congr n (fun k hk=>h k (by omega))
  simp only [pv]
  rw [this,h n (by omega)]
theorem dg_out {l:List Int} {k:Nat} (h:l.length≤k):dg l k=0:=by
 unfold dg
 simp [List.getD_eq_getElem?_getD,List.getElem?_eq_none h]
theorem pv_out (l:List Int):∀j:Nat,pv (dg l) (l.length+j)=val l
 |0=>rfl
 |j+1=>by
  show pv (dg l) (l.length+j)+dg l (l.length+j)*P (l.length+j)=val l
  rw [pv_out l j,dg_out (by omega)]
  omega
theorem pv_ext {l:List Int} {n:Nat} (h:l.length≤n):pv (dg l) n=val l:=by
 have:=pv_out l (n - l.length)
 rw [show l.length+(n - l.length)=n by omega] at this
 exact this
theorem pv_bd {f:Nat→Int} :∀n:Nat,(∀k,k < n→Digit (f k))→0≤pv f n∧pv f n < P n
 |0,_=>by simp [pv,P]
 |n+1,h=>by
  obtain⟨a,b⟩:=pv_bd n (fun k hk=>h k (by omega))
  obtain⟨c,d⟩:=h n (by omega)
  have hp:=P_pos n
  have e:=P_succ n
  have m0:=Int.mul_nonneg c (Int.le_of_lt hp)
  have m1:f n*P n≤65535*P n:=Int.mul_le_mul_of_nonneg_right d (Int.le_of_lt hp)
  simp only [pv]
  omega
theorem dg_range (f:Nat→Int) (n k:Nat) (h:k < n):dg ((List.range n).map f) k=f k:=by
 unfold dg
 simp [List.getD_eq_getElem?_getD,h]
theorem val_range (f:Nat→Int) (n:Nat):val ((List.range n).map f)=pv f n:=by
 unfold val
 rw [List.length_map,List.length_range]
 exact pv_congr n fun k hk=>dg_range f n k hk
theorem good_range {f:Nat→Int} {n:Nat} (h:∀k,k < n→Digit (f k)):Good ((List.range n).map f):=by
 intro k
 by_cases hk:k < n
 ·rw [dg_range f n k hk];exact h k hk
 ·rw [dg_out (by simp;omega)];exact⟨by omega,by omega⟩
theorem range_succ_map {α:Type} (f:Nat→α) (n:Nat):(List.range (n+1)).map f=(List.range n).map f++[f n]:=by
 rw [List.range_succ,List.map_append];rfl
def sumC (A B:List Int):Nat→Int
 |0=>0
 |k+1=>(dg A k+dg B k+sumC A B k) / 65536
def sumD (A B:List Int) (k:Nat):Int:=(dg A k+dg B k+sumC A B k) % 65536
theorem sumC_bd {A B:List Int} (ha:Good A) (hb:Good B):∀k,0≤sumC A B k∧sumC A B k≤1
 |0=>⟨Int.le_refl _,by simp [sumC]⟩
 |k+1=>by
  obtain⟨c0,c1⟩:=sumC_bd ha hb k
  obtain⟨a0,a1⟩:=ha k
  obtain⟨b0,b1⟩:=hb k
  simp only [sumC]
  omega
theorem sum_inv (A B:List Int):∀k,pv (sumD A B) k+sumC A B k*P k=pv (dg A) k+pv (dg B) k
 |0=>by simp [pv,sumC]
 |k+1=>by
  have h:=sum_inv A B k
  have e:=P_succ k
  simp only [pv,sumC]
  have d:sumD A B k+(dg A k+dg B k+sumC A B k) / 65536*65536=dg A k+dg B k+sumC A B k:=by unfold sumD;omega
  have d2:(sumD A B k+(dg A k+dg B k+sumC A B k) / 65536*65536)*P k=(dg A k+dg B k+sumC A B k)*P k:=by rw [d]
  rw [Int.add_mul,Int.add_mul,Int.add_mul,Int.mul_assoc,Int.mul_comm 65536 (P k), ←e] at d2
  omega
theorem sum_val {A B:List Int} (ha:Good A) (hb:Good B) {n:Nat} (h1:A.length≤n) (h2:B.length≤n):val ((List.range (n+1)).map (sumD A B))=val A+val B:=by
 have h:=sum_inv A B (n+1)
 have hc:sumC A B (n+1)=0:=by
  obtain⟨c0,c1⟩:=sumC_bd ha hb n
  simp only [sumC]
  rw [dg_out h1,dg_out h2]
  omega
 rw [hc,pv_ext (by omega),pv_ext (by omega)] at h
 rw [val_range]
 omega
theorem sum_good {A B:List Int} {n:Nat} :Good ((List.range n).map (sumD A B)):=good_range fun k _=>by unfold sumD Digit;omega
theorem pv_same {f g:Nat→Int} {n:Nat} :∀j:Nat,(∀k,n≤k→k < n+j→f k=g k)→pv f (n+j) - pv f n=pv g (n+j) - pv g n
 |0,_=>by simp
 |j+1,h=>by
  have:=pv_same j (fun k a b=>h k a (by omega))
  show pv f (n+j)+f (n+j)*P (n+j) - pv f n=pv g (n+j)+g (n+j)*P (n+j) - pv g n
  rw [h (n+j) (by omega) (by omega)]
  omega
theorem less_at {f g:Nat→Int} {i n:Nat} (hf:∀k,Digit (f k)) (hg:∀k,Digit (g k)) (hi:i < n) (heq:∀k,i < k→k < n→f k=g k) (h:f i < g i):pv f n < pv g n:=by
 have hs:=pv_same (f:=f) (g:=g) (n:=i+1) (n - (i+1)) (fun k a b=>heq k (by omega) (by omega))
 rw [show i+1+(n - (i+1))=n by omega] at hs
 have hp:=P_pos i
 obtain⟨a0,a1⟩:=pv_bd i (fun k _=>hf k)
 obtain⟨b0,b1⟩:=pv_bd i (fun k _=>hg k)
 have hm:(f i+1)*P i≤g i*P i:=Int.mul_le_mul_of_nonneg_right (by omega) (Int.le_of_lt hp)
 rw [Int.add_mul] at hm
 simp only [pv] at hs
 omega
theorem val_four {l:List Int} (h:l.length=4):val l=dg l 0+dg l 1*65536+dg l 2*4294967296+dg l 3*281474976710656:=by
 unfold val
 rw [h]
 simp only [pv,P]
 omega
theorem val_low {l:List Int} (h:∀k,4≤k→k < l.length→dg l k=0):val l=dg l 0+dg l 1*65536+dg l 2*4294967296+dg l 3*281474976710656:=by
 have h0:∀k,4≤k→dg l k=0:=fun k hk=>by
  by_cases hl:k < l.length
  ·exact h k hk hl
  ·exact dg_out (by omega)
 have hs:∀j:Nat,pv (dg l) (4+j)=pv (dg l) 4:=by
  intro j
  induction j with
  |zero=>rfl
  |succ j ih=>
   show pv (dg l) (4+j)+dg l (4+j)*P (4+j)=_
   rw [ih,h0 (4+j) (by omega)]
   omega
 have e4:pv (dg l) 4=dg l 0+dg l 1*65536+dg l 2*4294967296+dg l 3*281474976710656:=by
  simp only [pv,P]
  omega
 rw [←e4, ←hs l.length,pv_ext (by omega)]
theorem val_high {l:List Int} (hg:Good l) {i:Nat} (h4:4≤i) (hi:i < l.length) (h:0 < dg l i):¬val l≤18446744073709551615:=by
 have hl:=less_at (f:=fun k=>if k < 4 then 65535 else 0) (g:=dg l) (i:=i) (n:=i+1) (fun k=>by unfold Digit;split<;>omega) hg (by omega) (fun k a b=>by omega) (by rw [if_neg (by omega)];exact h)
 have e4:∀j:Nat,pv (fun k=>if k < 4 then (65535:Int) else 0) (4+j)=18446744073709551615:=by
  intro j
  induction j with
  |zero=>simp [pv,P]
  |succ j ih=>
   show pv _ (4+j)+(if 4+j < 4 then (65535:Int) else 0)*P (4+j)=_
   rw [ih,if_neg (by omega)]
   omega
 have e5:=e4 (i+1 - 4)
 rw [show 4+(i+1 - 4)=i+1 by omega] at e5
 rw [e5] at hl
 have hm:∀j:Nat,pv (dg l) (i+1)≤pv (dg l) (i+1+j):=by
  intro j
  induction j with
  |zero=>exact Int.le_refl _
  |succ j ih=>
   show _≤pv (dg l) (i+1+j)+dg l (i+1+j)*P (i+1+j)
   have:=Int.mul_nonneg (hg (i+1+j)).1 (Int.le_of_lt (P_pos (i+1+j)))
   omega
 have h1:=hm (l.length - (i+1))
 rw [show i+1+(l.length - (i+1))=l.length by omega] at h1
 have:val l=pv (dg l) l.length:=rfl
 omega
end Go.Proofs.YtfmciiffcmfagaaGreat
namespace Go.Proofs.YtfmciiffcmfagaaGreat
open Go.RowKit Go.Shelf
theorem add64 (x y:Int) (hx:Word x) (hy:Word y) (w:World):(callFunc 84 #[.int .u64 x, .int .u64 y, .int .u64 0]).run Tryz.prog w=
  .ok (.value (.tuple #[.int .u64 (loW (x+y)), .int .u64 (hiW (x+y))])) w:=by
 obtain⟨x0,x1⟩:=hx
 obtain⟨y0,y1⟩:=hy
 obtain⟨x,rfl⟩:=Int.eq_ofNat_of_zero_le x0
 obtain⟨y,rfl⟩:=Int.eq_ofNat_of_zero_le y0
 have h:=run_callFunc_extern (P:=Tryz.prog) Tryz.func84 (by kernel_rfl) (by kernel_rfl) (by kernel_rfl) (e:=add64Entry) (by kernel_rfl) (args:= #[.int .u64 (x:Int), .int .u64 (y:Int), .int .u64 0]) (w:=w)
 have h2:=run_add64 (P:=Tryz.prog) x y 0 (by omega) (by omega) (by omega) (by omega) w
 rw [h2] at h
 simp only [Result.andThen,Int.add_zero] at h
 exact h
def Digs (w:World) (v:Value) (l:List Int):Prop:=
 (v= .slice none 0 0∧l=[])∨∃g o c,v= .slice (some ⟨g,o,none⟩) l.length c∧l.length≤c∧c≤maxLen∧g < w.heap.size∧∀i,i < l.length→w.cell? ⟨g,o+i,none⟩=some (.int .u64 (dg l i))
theorem Digs.below {w w':World} {v:Value} {l:List Int} (h:Digs w v l) (hb:Below w.heap.size w w'):Digs w' v l:=by
 rcases h with h|⟨g,o,c,h1,h2,h3,h4,h5⟩
 ·exact .inl h
 ·exact .inr ⟨g,o,c,h1,h2,h3,Nat.lt_of_lt_of_le h4 hb.size,fun i hi=>(hb.cell (p:=⟨g,o+i,none⟩) h4).trans (h5 i hi)⟩
theorem Digs.owned {w:World} {base:Nat} {v:Value} {n:Nat} {l:List Int} (h:w.ownsRow base 29 1 v n (l.map (Value.int .u64))):Digs w v l:=by
 have hlt:=h.lt
 have hlen:l.length=n:=by have:=h.1;simpa using this
 rcases h.2 with⟨h1,h2⟩ |⟨g,cap,cur,h1,h2,h3,h4,h5,h6,h7⟩
 ·refine .inl ⟨h1,?_⟩
  exact List.eq_nil_of_length_eq_zero (by omega)
 ·subst h1
  refine .inr ⟨g,0,cap,by rw [hlen],by omega,h5,(hlt g rfl).2,fun i hi=>?_⟩
  have:=h.cellAt i (by omega)
  rw [Nat.zero_add,this]
  unfold dg
  simp [List.getD_eq_getElem?_getD,hi]
structure Num (w:World) (v:Value) (X:Int) (m:Nat):Prop where
 digs:∃L,Digs w v L∧Good L∧val L=X∧L.length≤m
theorem Num.below {w w':World} {v:Value} {X:Int} {m:Nat} (h:Num w v X m) (hb:Below w.heap.size w w'):Num w' v X m:=by
 obtain⟨L,h1,h2,h3,h4⟩:=h.digs
 exact⟨L,h1.below hb,h2,h3,h4⟩
theorem Num.mono {w:World} {v:Value} {X:Int} {m m':Nat} (h:Num w v X m) (hm:m≤m'):Num w v X m':=by
 obtain⟨L,h1,h2,h3,h4⟩:=h.digs
 exact⟨L,h1,h2,h3,by omega⟩
theorem word_info:(Tryz.prog.info? 29).map (fun i=>(i.zero,i.size,i.bytes))=some (some (.int .u64 0),1,8):=by kernel_rfl
theorem at_any {w:World} {v:Value} {L:List Int} (h:Digs w v L) (i:Nat) (hl:L.length≤100000):
  Calls Tryz.prog 99 #[v, .int .i64 i] w fun e w'=>e= .returned (.int .u64 (dg L i))∧w=w':=by
 by_cases hk:i < L.length
 ·rcases h with⟨h1,h2⟩ |⟨g,o,c,h1,h2,h3,h4,h5⟩
  ·subst h2
   simp at hk
  ·subst h1
   have hc:=h5 i hk
   clear h5
   go_enter Tryz.func99,Tryz.ntmps99
   go_wp2
   go_ret
   exact⟨rfl,rfl⟩
 ·rw [dg_out (by omega)]
  rcases h with⟨h1,h2⟩ |⟨g,o,c,h1,h2,h3,h4,h5⟩
  ·subst h1 h2
   go_enter Tryz.func99,Tryz.ntmps99
   go_wp2
   go_ret
   exact⟨rfl,rfl⟩
  ·subst h1
   clear h5
   go_enter Tryz.func99,Tryz.ntmps99
   go_wp2
   go_ret
   exact⟨rfl,rfl⟩
theorem Digs.form {w:World} {v:Value} {L:List Int} (h:Digs w v L):∃A c,v= .slice A L.length c:=by
 rcases h with⟨h1,h2⟩ |⟨g,o,c,h1,_⟩
 ·exact⟨none,0,by rw [h1,h2];rfl⟩
 ·exact⟨_,c,h1⟩
theorem longer_any {w:World} {a b:Value} {A B:List Int} (ha:Digs w a A) (hb:Digs w b B):
  Calls Tryz.prog 100 #[a,b] w fun e w'=>e= .returned (.int .i64 ((max A.length B.length:Nat):Int))∧w=w':=by
 obtain⟨x,c,rfl⟩:=ha.form
 obtain⟨y,d,rfl⟩:=hb.form
 clear ha hb
 by_cases h:B.length < A.length
 ·rw [show max A.length B.length=A.length by omega]
  go_enter Tryz.func100,Tryz.ntmps100
  go_wp2
  go_ret
  exact⟨rfl,rfl⟩
 ·rw [show max A.length B.length=B.length by omega]
  go_enter Tryz.func100,Tryz.ntmps100
  go_wp2
  go_ret
  exact⟨rfl,rfl⟩
theorem app_below {w wr w2:World} {e:TypeId} {v:Value} {n:Nat} {xs:List Value} {o:Obj} (hb:Below w.heap.size w wr) (hown:wr.ownsRow w.heap.size e 1 v n xs) (hg:(wr.alloc o).grownBy w2 v.ownBlock):Below w.heap.size w w2:=
 (hb.alloc hb.size o).grown hg (by have:=hb.size;simp;omega) (fun k hk=>(hown.lt k hk).1)
theorem sum_any {w:World} {a b:Value} {X Y:Int} {p q:Nat} (ha:Num w a X p) (hb:Num w b Y q) (hp:p≤1000) (hq:q≤1000):
  Calls Tryz.prog 87 #[a,b] w fun e w'=>∃v,e= .returned v∧Num w' v (X+Y) (max p q+1)∧Below w.heap.size w w':=by
 obtain⟨A,da,ga,va,la⟩:=ha.digs
 obtain⟨B,db,gb,vb,lb⟩:=hb.digs
 clear ha hb
 have hn1:A.length≤max A.length B.length:=by omega
 have hn2:B.length≤max A.length B.length:=by omega
 have hn3:max A.length B.length≤1000:=by omega
 have hn4:max A.length B.length≤max p q:=by omega
 have HL:=xhd (longer_any da db)
 have Hfin:Hid (val ((List.range (max A.length B.length+1)).map (sumD A B))=X+Y):=by rw [←va, ←vb];exact sum_val ga gb hn1 hn2
 generalize max A.length B.length=n at HL Hfin hn1 hn2 hn3 hn4
 clear va vb
 obtain⟨i0,hi0,hz0,hz1,hz2⟩:=info_parts word_info
 go_enter Tryz.func87,Tryz.ntmps87
 go_wp2_with (go_at_call 100;refine HL.out.mono ?_;rintro e w1 ⟨rfl,rfl⟩)
 go_loopw [5,6,8] (fun o c i wr=>∃k:Nat,k≤n+1∧i= .int .i64 k∧c= .int .u64 (sumC A B k)∧wr.ownsRow w.heap.size 29 1 o k (((List.range k).map (sumD A B)).map (Value.int .u64))∧Below w.heap.size w wr) (fun _ _ i _=>n+1 - (intOf i).toNat)
 case atStart=>exact⟨0,Nat.zero_le _,rfl,rfl,World.ownsRow_nil _ _ _ _,Below.refl _ _⟩
 case round=>
  obtain⟨k,hk,rfl,rfl,hown,hbel⟩:=hrel
  by_cases hlt:k≤n
  ·have HA:=xhd (at_any (da.below hbel) k (by omega))
   have HB:=xhd (at_any (db.below hbel) k (by omega))
   obtain⟨a0,a1⟩:=ga k
   obtain⟨b0,b1⟩:=gb k
   obtain⟨c0,c1⟩:=sumC_bd ga gb k
   go_wp2_with fail
   refine (HA.out).mono ?_
   rintro e w2 ⟨rfl,rfl⟩
   go_wp2_with fail
   refine (HB.out).mono ?_
   rintro e w2 ⟨rfl,rfl⟩
   go_wp2_with (at_builtin;refine wpList_append_own _ rfl _ _ 125 rfl w.heap.size 29 i0 (.int .u64 0) 1 8 Tryz.underlying125 hi0 hz0 hz1 hz2 rfl (by decide) _ _ _ rfl (hown.alloc _) ⟨wr.heap.size,0,none⟩ 1 1 [.int .u64 ((dg A k+dg B k+sumC A B k) % 65536)] rfl rfl ?c1 ?c2 ?c3 ?c4 ?c5 ?_)
   case c1=>
    intro j u hj
    match j,hj with
    |0,hj=>simp at hj;subst hj;simp [Addr.add]
   case c2=>intro u hu;simp at hu;subst hu;rfl
   case c3=>unfold maxLen;omega
   case c4=>omega
   case c5=>have:=hbel.size;simp;omega
   intro v' w2 hown2 hgrow _
   have hb2:=app_below hbel hown hgrow
   have hown3:w2.ownsRow w.heap.size 29 1 v' (k+1) (((List.range (k+1)).map (sumD A B)).map (Value.int .u64)):=by
    rw [range_succ_map,List.map_append,List.map_map]
    exact hown2
   clear hown2 hgrow hown
   go_wp2
   go_roundw
   case rel=>exact⟨k+1,by omega,by go_num,rfl,hown3,hb2⟩
   case measure=>simp [intOf];omega
  ·have hkn:k=n+1:=by omega
   subst hkn
   go_wp2
   go_ret
   exact⟨_,rfl,⟨_,Digs.owned hown,sum_good,Hfin.out,by simp;omega⟩,hbel⟩
theorem number_any (a:Int) (h:Word a) (w:World):
  Calls Tryz.prog 88 #[.int .u64 a] w fun e w'=>∃v,e= .returned v∧Num w' v a 4∧Below w.heap.size w w':=by
 obtain⟨h0,h1⟩:=h
 go_enter Tryz.func88,Tryz.ntmps88
 go_wp2
 go_ret
 refine⟨_,rfl,⟨[a % 65536,a / 65536 % 65536,a / 4294967296 % 65536,a / 281474976710656], .inr ⟨w.heap.size,0,4,rfl,Nat.le_refl _,by unfold maxLen;omega,by simp,?_⟩,?_,?_,Nat.le_refl _⟩,(Below.refl _ _).alloc (Nat.le_refl _) _⟩
 ·intro i hi
  match i,hi with
  |0,_=>simp [go_sem,dg]
  |1,_=>simp [go_sem,dg]
  |2,_=>simp [go_sem,dg]
  |3,_=>simp [go_sem,dg]
 ·intro k
  match k with
  |0=>unfold Digit dg;simp;omega
  |1=>unfold Digit dg;simp;omega
  |2=>unfold Digit dg;simp;omega
  |3=>unfold Digit dg;simp;omega
  |k+4=>rw [dg_out (by simp)];unfold Digit;omega
 ·rw [val_four rfl]
  simp [dg]
  omega
def Zeros (L:List Int) (k:Nat):Prop:=∀j,4≤j→j < k→dg L j=0
theorem Zeros.succ {L:List Int} {k:Nat} (h:Zeros L k) (h0:dg L k=0):Zeros L (k+1):=fun j h4 hj=>by
 by_cases e:j=k
 ·rw [e];exact h0
 ·exact h j h4 (by omega)
theorem fits_any {w:World} {v:Value} {X:Int} {m:Nat} (h:Num w v X m) (hm:m≤1000):
  Calls Tryz.prog 86 #[v] w fun e w'=>e= .returned (.tuple #[.int .u64 (satV X), .int .i64 (satE X)])∧w=w':=by
 obtain⟨L,dl,gl,vl,ll⟩:=h.digs
 have HL:=xhd vl
 have A0:=xhd (at_any dl 0 (by omega))
 have A1:=xhd (at_any dl 1 (by omega))
 have A2:=xhd (at_any dl 2 (by omega))
 have A3:=xhd (at_any dl 3 (by omega))
 have hcell:∀A c,v= .slice A L.length c→∀k,k < L.length→∃g o,A=some ⟨g,o,none⟩∧w.cell? ⟨g,o+k,none⟩=some (.int .u64 (dg L k)):=by
  intro A c hv k hk
  rcases dl with⟨_,h2⟩ |⟨g,o,c',h1,_,_,_,h5⟩
  ·subst h2;simp at hk
  ·rw [hv] at h1
   simp only [Value.slice.injEq] at h1
   exact⟨g,o,h1.1,h5 k hk⟩
 obtain⟨A,c,rfl⟩:=dl.form
 have HC:=xhd (hcell A c rfl)
 clear h vl hcell dl
 have hd:=fun k=>(gl k)
 obtain⟨x0,y0⟩:=hd 0
 obtain⟨x1,y1⟩:=hd 1
 obtain⟨x2,y2⟩:=hd 2
 obtain⟨x3,y3⟩:=hd 3
 clear hd
 go_enter Tryz.func86,Tryz.ntmps86
 go_wp2
 go_loop [4] (fun i=>∃k:Nat,i= .int .i64 k∧4≤k∧k≤1004∧Zeros L k) (fun i=>1004 - (intOf i).toNat)
 case atStart=>exact⟨4,rfl,by omega,by omega,fun j a b=>by omega⟩
 case round=>
  obtain⟨k,rfl,h4,hk,hz⟩:=hrel
  by_cases hlt:k < L.length
  ·obtain⟨g,o,rfl,hc⟩:=HC.out k hlt
   obtain⟨xk,yk⟩:=gl k
   by_cases hp:0 < dg L k
   ·go_wp2
    go_ret2
    have hb:=val_high gl h4 hlt hp
    rw [HL.out] at hb
    rw [satV_big hb,satE_big hb]
    exact⟨rfl,rfl⟩
   ·have h0:dg L k=0:=by omega
    have hz':=hz.succ h0
    clear h0
    go_wp2
    go_round
    case rel=>exact⟨k+1,by go_num,by omega,by omega,hz'⟩
    case measure=>simp [intOf];omega
  ·go_wp2_with fail
   refine A0.out.mono ?_
   rintro e w1 ⟨rfl,rfl⟩
   go_wp2_with fail
   refine A1.out.mono ?_
   rintro e w1 ⟨rfl,rfl⟩
   go_wp2_with fail
   refine A2.out.mono ?_
   rintro e w1 ⟨rfl,rfl⟩
   go_wp2_with fail
   refine A3.out.mono ?_
   rintro e w1 ⟨rfl,rfl⟩
   go_wp2
   go_ret2
   have hv:=val_low (l:=L) (fun j a b=>hz j a (by omega))
   rw [HL.out] at hv
   have hfit:X≤18446744073709551615:=by omega
   rw [satV_fit hfit,satE_fit hfit,hv]
   exact⟨rfl,rfl⟩
theorem Digs.cellAt {w:World} {A:Option Addr} {c:Nat} {L:List Int} (h:Digs w (.slice A L.length c) L):∀wr:World,Below w.heap.size w wr→∀k,k < L.length→∃g o,A=some ⟨g,o,none⟩∧wr.cell? ⟨g,o+k,none⟩=some (.int .u64 (dg L k)):=by
 intro wr hb k hk
 rcases h.below hb with⟨_,h2⟩ |⟨g,o,c',h1,_,_,_,h5⟩
 ·subst h2;simp at hk
 ·simp only [Value.slice.injEq] at h1
  exact⟨g,o,h1.1,h5 k hk⟩
theorem refadd_any (a b:Int) (ha:Word a) (hb:Word b) (w:World):
  Calls Tryz.prog 58 #[.int .u64 a, .int .u64 b] w fun e w'=>e= .returned (.tuple #[.int .u64 (satV (a+b)), .int .i64 (satE (a+b))])∧Below w.heap.size w w':=by
 have N1:=xhd (number_any a ha)
 have N2:=xhd (number_any b hb)
 go_enter Tryz.func58,Tryz.ntmps58
 go_wp2_with fail
 refine (N1.out _).mono ?_
 rintro e w1 ⟨v1,rfl,n1,b1⟩
 go_wp2_with fail
 refine (N2.out _).mono ?_
 rintro e w2 ⟨v2,rfl,n2,b2⟩
 have S:=xhd (sum_any (n1.below b2) n2 (by omega) (by omega))
 go_wp2_with fail
 refine S.out.mono ?_
 rintro e w3 ⟨v3,rfl,n3,b3⟩
 have F:=xhd (fits_any n3 (by omega))
 go_wp2_with fail
 refine F.out.mono ?_
 rintro e w4 ⟨rfl,rfl⟩
 go_wp2
 go_ret2
 have z1:=b1.size
 have z2:=b2.size
 exact⟨rfl,(b1.trans (b2.mono z1)).trans (b3.mono (by omega))⟩
theorem refsub_any (a b:Int) (ha:Word a) (hb:Word b) (w:World):
  Calls Tryz.prog 73 #[.int .u64 a, .int .u64 b] w fun e w'=>e= .returned (.tuple #[.int .u64 (subV a b), .int .i64 (subE a b)])∧w=w':=by
 obtain⟨a0,a1⟩:=ha
 obtain⟨b0,b1⟩:=hb
 by_cases h:a < b
 ·rw [show subV a b=0 from if_pos h,show subE a b=2 from if_pos h]
  go_enter Tryz.func73,Tryz.ntmps73
  go_wp2
  go_ret2
  exact⟨rfl,rfl⟩
 ·rw [show subV a b=a - b from if_neg h,show subE a b=0 from if_neg h]
  go_enter Tryz.func73,Tryz.ntmps73
  go_wp2
  go_ret2
  exact⟨rfl,rfl⟩
end Go.Proofs.YtfmciiffcmfagaaGreat
namespace Go.Proofs.YtfmciiffcmfagaaGreat
def bringR (n lo hi:Int):Int:=if n < lo then lo else if hi < n then hi else n
theorem bring_in {n lo hi:Int} (h0:lo≤n) (h1:n≤hi):bringR n lo hi=n:=by
 unfold bringR
 rw [if_neg (by omega),if_neg (by omega)]
theorem bring_range {n lo hi:Int} (h:lo≤hi):lo≤bringR n lo hi∧bringR n lo hi≤hi:=by
 unfold bringR
 split
 ·omega
 ·split<;>omega
def sumR (l:List Int):Int:=l.foldr (· + ·) 0
end Go.Proofs.YtfmciiffcmfagaaGreat
namespace Go.Proofs.YtfmciiffcmfagaaGreat
open Go.RowKit
def coreR (n:Int):Int:=1099511627776 / bringR n 1 4096
def reachR (n g:Int):Int:=coreR n*bringR g 1 8
def clampR (v f r:Int):Int:=if v < f then f else if satV (f+r) < v then satV (f+r) else v
theorem core_range (n:Int):0≤coreR n∧coreR n≤1099511627776:=by
 unfold coreR
 have:=bring_range (n:=n) (lo:=1) (hi:=4096) (by decide)
 constructor
 ·exact Int.ediv_nonneg (by decide) (by omega)
 ·exact Int.ediv_le_self _ (by decide)
theorem reach_range (n g:Int):0≤reachR n g∧reachR n g≤8796093022208:=by
 unfold reachR
 have h1:=core_range n
 have h2:=bring_range (n:=g) (lo:=1) (hi:=8) (by decide)
 obtain⟨c,hc⟩:∃c,coreR n=c:=⟨_,rfl⟩
 obtain⟨b,hb⟩:∃b,bringR g 1 8=b:=⟨_,rfl⟩
 rw [hc] at h1 ⊢
 rw [hb] at h2 ⊢
 constructor
 ·exact Int.mul_nonneg h1.1 (by omega)
 ·have:=Int.mul_le_mul h1.2 h2.2 (by omega) (by omega)
  omega
theorem bring_any (n lo hi:Int) (w:World):Calls Tryz.prog 32 #[.int .i64 n, .int .i64 lo, .int .i64 hi] w fun e w'=>e= .returned (.int .i64 (bringR n lo hi))∧w'=w:=by
 unfold bringR
 by_cases h1:n < lo
 ·rw [if_pos h1]
  go_enter Tryz.func32,Tryz.ntmps32
  go_wp2
  go_ret
  exact⟨rfl,rfl⟩
 ·rw [if_neg h1]
  by_cases h2:hi < n
  ·rw [if_pos h2]
   go_enter Tryz.func32,Tryz.ntmps32
   go_wp2
   go_ret
   exact⟨rfl,rfl⟩
  ·rw [if_neg h2]
   go_enter Tryz.func32,Tryz.ntmps32
   go_wp2
   go_ret
   exact⟨rfl,rfl⟩
theorem rcore_any (n:Int) (w:World):Calls Tryz.prog 59 #[.int .i64 n] w fun e w'=>e= .returned (.int .u64 (coreR n))∧w'=w:=by
 have HB:=xhd (bring_any n 1 4096 w)
 have hr:=core_range n
 have hb:=bring_range (n:=n) (lo:=1) (hi:=4096) (by decide)
 unfold coreR at hr ⊢
 obtain⟨b,hbb⟩:∃b,bringR n 1 4096=b:=⟨_,rfl⟩
 rw [hbb] at HB hr hb ⊢
 have hw:IntKind.u64.wrap b=b:=by rw [IntKind.wrap_u64];omega
 have hq:(1099511627776:Int).tdiv b=1099511627776 / b:=Int.tdiv_eq_ediv_of_nonneg (by decide)
 obtain⟨q,hqq⟩:∃q,1099511627776 / b=q:=⟨_,rfl⟩
 rw [hqq] at hq hr ⊢
 have hw2:IntKind.u64.wrap q=q:=by rw [IntKind.wrap_u64];omega
 have hn:¬b=0:=by omega
 clear hbb hqq
 go_enter Tryz.func59,Tryz.ntmps59
 go_wp2_with fail
 with_reducible refine HB.out.mono ?_
 rintro e w1 ⟨rfl,rfl⟩
 go_wp2
 go_ret
 exact⟨rfl,rfl⟩
theorem rreach_any (n g:Int) (w:World):Calls Tryz.prog 77 #[.int .i64 n, .int .i64 g] w fun e w'=>e= .returned (.int .u64 (reachR n g))∧w'=w:=by
 have HB:=xhd (bring_any g 1 8 w)
 have HC:=xhd (rcore_any n w)
 have hr:=reach_range n g
 have hb:=bring_range (n:=g) (lo:=1) (hi:=8) (by decide)
 unfold reachR at hr ⊢
 obtain⟨b,hbb⟩:∃b,bringR g 1 8=b:=⟨_,rfl⟩
 obtain⟨c,hcc⟩:∃c,coreR n=c:=⟨_,rfl⟩
 rw [hbb] at HB hr hb ⊢
 rw [hcc] at HC hr ⊢
 have hw:IntKind.u64.wrap b=b:=by rw [IntKind.wrap_u64];omega
 have hw2:IntKind.u64.wrap (c*b)=c*b:=by
  obtain⟨q,hq⟩:∃q,c*b=q:=⟨_,rfl⟩
  rw [hq] at hr ⊢
  rw [IntKind.wrap_u64];omega
 clear hbb hcc hr
 go_enter Tryz.func77,Tryz.ntmps77
 go_wp2_with fail
 with_reducible refine HC.out.mono ?_
 rintro e w1 ⟨rfl,rfl⟩
 go_wp2_with fail
 with_reducible refine HB.out.mono ?_
 rintro e w2 ⟨rfl,rfl⟩
 go_wp2
 go_ret
 exact⟨rfl,rfl⟩
theorem rclamp_any (v f r:Int) (hf:Word f) (hr:Word r) (w:World):Calls Tryz.prog 76 #[.int .u64 v, .int .u64 f, .int .u64 r] w fun e w'=>e= .returned (.int .u64 (clampR v f r))∧Below w.heap.size w w':=by
 have HA:=xhd (refadd_any f r hf hr w)
 unfold clampR
 by_cases h1:v < f
 ·rw [if_pos h1]
  go_enter Tryz.func76,Tryz.ntmps76
  go_wp2
  go_ret
  exact⟨rfl,Below.refl _ _⟩
 ·rw [if_neg h1]
  obtain⟨s,hs⟩:∃s,satV (f+r)=s:=⟨_,rfl⟩
  rw [hs] at HA ⊢
  by_cases h2:s < v
  ·rw [if_pos h2]
   go_enter Tryz.func76,Tryz.ntmps76
   go_wp2_with fail
   with_reducible refine HA.out.mono ?_
   rintro e w1 ⟨rfl,hb⟩
   have HB:=xhd hb
   clear hb
   go_wp2
   go_ret
   exact⟨rfl,HB.out⟩
  ·rw [if_neg h2]
   go_enter Tryz.func76,Tryz.ntmps76
   go_wp2_with fail
   with_reducible refine HA.out.mono ?_
   rintro e w1 ⟨rfl,hb⟩
   have HB:=xhd hb
   clear hb
   go_wp2
   go_ret
   exact⟨rfl,HB.out⟩
end Go.Proofs.YtfmciiffcmfagaaGreat
namespace Go.Proofs.YtfmciiffcmfagaaGreat
structure Rq where
 g:Int
 f:Int
 l:List (Int×Int×Int)
 cur:Int
 ran:Int
def findQ:List (Int×Int×Int)→Int→Option (Int×Int)
 |[],_=>none
 |x::l,id=>if x.1=id then some x.2 else findQ l id
def leastQ:List (Int×Int×Int)→Option (Int×Int×Int)
 |[]=>none
 |x::l=>match leastQ l with
  |none=>some x
  |some y=>if x.2.1 < y.2.1∨(x.2.1=y.2.1∧x.1 < y.1) then some x else some y
def minQ:List (Int×Int×Int)→Int→Int
 |[],m=>m
 |x::l,m=>minQ l (if x.2.1 < m then x.2.1 else m)
def Rq.new (grain:Int):Rq:=⟨bringR grain 1 8,0,[], -1,0⟩
def Rq.place (q:Rq) (v w:Int):Int:=clampR v q.f (reachR w q.g)
def Rq.add (q:Rq) (id v w:Int):Rq:=if id < 0∨(findQ q.l id).isSome=true∨16≤q.l.length then q else { q with l:=q.l++[(id,q.place v (bringR w 1 4096),bringR w 1 4096)] }
def Rq.remove (q:Rq) (id:Int):Rq:=if (findQ q.l id).isSome=true then { q with l:=q.l.filter (fun x=>decide (x.1≠id)),cur:=if q.cur=id then -1 else q.cur,ran:=if q.cur=id then 0 else q.ran } else q
def Rq.weigh (q:Rq) (id w:Int):Rq:=match findQ q.l id with
 |none=>q
 |some x=> { q with l:=q.l.map (fun y=>if y.1=id then (y.1,q.place y.2.1 (bringR w 1 4096),bringR w 1 4096) else y),ran:=if x.2≠bringR w 1 4096∧q.cur=id then q.g else q.ran }
def Rq.ready (q:Rq):List (Int×Int×Int):=q.l.filter (fun x=>decide (x.1≠q.cur))
def Rq.pick (q:Rq):Rq:=if 0≤q.cur then q else match leastQ q.ready with
 |none=>q
 |some x=> { q with cur:=x.1,ran:=0 }
def Rq.back (q:Rq):Rq:= { q with cur:= -1,ran:=0 }
def tickT (c:Int) (x:Int×Int×Int):Int×Int×Int:=if x.1=c then (x.1,satV (x.2.1+coreR x.2.2),x.2.2) else x
def Rq.tick (q:Rq):Rq:=if 0≤q.cur then { q with l:=q.l.map (tickT q.cur),ran:=q.ran+1 } else q
def Rq.settle (q:Rq):Rq:=match q.l with
 |[]=>q
 |x::l=> { q with f:=if q.f < minQ l x.2.1 then minQ l x.2.1 else q.f }
theorem minQ_le:∀(l:List (Int×Int×Int)) (m:Int),minQ l m≤m∧∀x ∈ l,minQ l m≤x.2.1
 |[],m=>⟨Int.le_refl _,fun x hx=>by cases hx⟩
 |y::l,m=>by
  have hk:(if y.2.1 < m then y.2.1 else m)≤m∧(if y.2.1 < m then y.2.1 else m)≤y.2.1:=by split<;>omega
  obtain⟨a,b⟩:=minQ_le l (if y.2.1 < m then y.2.1 else m)
  unfold minQ
  generalize (if y.2.1 < m then y.2.1 else m)=k at hk a b
  refine⟨by omega,fun x hx=>?_⟩
  rcases List.mem_cons.1 hx with rfl|hx
  ·omega
  ·exact b x hx
theorem minQ_ge:∀(l:List (Int×Int×Int)) (m c:Int),c≤m→(∀x ∈ l,c≤x.2.1)→c≤minQ l m
 |[],_,_,h,_=>h
 |y::l,m,c,h,h2=>by
  unfold minQ
  refine minQ_ge l _ c ?_ (fun x hx=>h2 x (by simp [hx]))
  have:=h2 y (by simp)
  split<;>omega
theorem leastQ_le:∀ {l:List (Int×Int×Int)} {x:Int×Int×Int},leastQ l=some x→x ∈ l∧∀y ∈ l,x.2.1≤y.2.1
 |y::l,x,h=>by
  unfold leastQ at h
  cases hz:leastQ l with
  |none=>
   rw [hz] at h
   simp only [Option.some.injEq] at h
   subst h
   have:l=[]:=by
    cases l with
    |nil=>rfl
    |cons a l=>
     exfalso
     unfold leastQ at hz
     split at hz
     ·cases hz
     ·split at hz<;>cases hz
   subst this
   exact⟨by simp,fun z hz=>by simp at hz;subst hz;exact Int.le_refl _⟩
  |some z=>
   rw [hz] at h
   obtain⟨a,b⟩:=leastQ_le hz
   simp only at h
   split at h
   ·next hc=>
    simp only [Option.some.injEq] at h
    subst h
    refine⟨by simp,fun u hu=>?_⟩
    rcases List.mem_cons.1 hu with rfl|hu
    ·exact Int.le_refl _
    ·have:=b u hu
     omega
   ·next hc=>
    simp only [Option.some.injEq] at h
    subst h
    refine⟨by simp [a],fun u hu=>?_⟩
    rcases List.mem_cons.1 hu with rfl|hu
    ·omega
    ·exact b u hu
theorem leastQ_none {l:List (Int×Int×Int)} (h:leastQ l=none):l=[]:=by
 cases l with
 |nil=>rfl
 |cons a l=>
  exfalso
  unfold leastQ at h
  split at h
  ·cases h
  ·split at h<;>cases h
theorem findQ_mem:∀ {l:List (Int×Int×Int)} {id:Int} {x:Int×Int},findQ l id=some x→(id,x) ∈ l
 |y::l,id,x,h=>by
  unfold findQ at h
  split at h
  ·next hc=>
   simp only [Option.some.injEq] at h
   subst h hc
   simp
  ·exact List.mem_cons_of_mem _ (findQ_mem h)
theorem findQ_none:∀ {l:List (Int×Int×Int)} {id:Int},findQ l id=none→∀x ∈ l,x.1≠id
 |y::l,id,h,x,hx=>by
  unfold findQ at h
  split at h
  ·cases h
  ·next hc=>
   rcases List.mem_cons.1 hx with rfl|hx
   ·exact hc
   ·exact findQ_none h x hx
theorem findQ_one {l:List (Int×Int×Int)} (hu:(l.map (·.1)).Nodup):∀ {x y:Int×Int×Int},x ∈ l→y ∈ l→x.1=y.1→x=y:=by
 induction l with
 |nil=>intro x y hx;cases hx
 |cons z l ih=>
  intro x y hx hy e
  simp only [List.map_cons,List.nodup_cons] at hu
  rcases List.mem_cons.1 hx with hx1|hx1
  ·rcases List.mem_cons.1 hy with hy1|hy1
   ·rw [hx1,hy1]
   ·exact absurd (List.mem_map.2 ⟨y,hy1,by rw [←e,hx1]⟩) hu.1
  ·rcases List.mem_cons.1 hy with hy1|hy1
   ·exact absurd (List.mem_map.2 ⟨x,hx1,by rw [e,hy1]⟩) hu.1
   ·exact ih hu.2 hx1 hy1 e
structure Lag (q:Rq) (B:Int):Prop where
 g1:1≤q.g
 g8:q.g≤8
 f0:0≤q.f
 fB:q.f≤B
 ids:∀x ∈ q.l,0≤x.1
 uniq:(q.l.map (·.1)).Nodup
 wt:∀x ∈ q.l,1≤x.2.2∧x.2.2≤4096
 lo:∀x ∈ q.l,q.f≤x.2.1
 hi:∀x ∈ q.l,x.2.1≤q.f+coreR x.2.2*q.g
 cur:0≤q.cur→∃x ∈ q.l,x.1=q.cur
 run:∀x ∈ q.l,x.1=q.cur→q.ran≤q.g→x.2.1≤q.f+coreR x.2.2*q.ran
theorem reach_in {w g:Int} (h1:1≤g) (h8:g≤8):reachR w g=coreR w*g:=by
 unfold reachR
 rw [bring_in h1 h8]
theorem clamp_in {v f r:Int} (hr:0≤r) (h:f+r≤18446744073709551615):f≤clampR v f r∧clampR v f r≤f+r:=by
 have e:satV (f+r)=f+r:=by unfold satV;omega
 unfold clampR
 rw [e]
 split
 ·omega
 ·split<;>omega
theorem Lag.place {q:Rq} {B:Int} (h:Lag q B) (hB:B≤9223372036854775808) (v w:Int):q.f≤q.place v w∧q.place v w≤q.f+coreR w*q.g:=by
 have hr:=reach_range w q.g
 have h0:=h.f0
 have h1:=h.fB
 unfold Rq.place
 rw [reach_in h.g1 h.g8] at hr ⊢
 exact clamp_in hr.1 (by omega)
theorem Lag.add {q:Rq} {B:Int} (h:Lag q B) (hB:B≤9223372036854775808) (id v w:Int):Lag (q.add id v w) B:=by
 unfold Rq.add
 split
 ·exact h
 ·next hc=>
  obtain⟨p1,p2⟩:=h.place hB v (bringR w 1 4096)
  have hw:=bring_range (n:=w) (lo:=1) (hi:=4096) (by decide)
  have hid:0≤id:=by omega
  have hnone:findQ q.l id=none:=by
   cases he:findQ q.l id with
   |none=>rfl
   |some x=>exact absurd (.inr (.inl (by rw [he];rfl))) hc
  have hne:=findQ_none hnone
  refine⟨h.g1,h.g8,h.f0,h.fB,?_,?_,?_,?_,?_,?_,?_⟩
  ·intro x hx
   rcases List.mem_append.1 hx with hx|hx
   ·exact h.ids x hx
   ·simp at hx;subst hx;exact hid
  ·simp only [List.map_append,List.map_cons,List.map_nil]
   rw [List.nodup_append]
   refine⟨h.uniq,by simp,fun a ha b hb=>?_⟩
   obtain⟨x,hx,rfl⟩:=List.mem_map.1 ha
   simp at hb
   subst hb
   exact hne x hx
  ·intro x hx
   rcases List.mem_append.1 hx with hx|hx
   ·exact h.wt x hx
   ·simp at hx;subst hx;exact hw
  ·intro x hx
   rcases List.mem_append.1 hx with hx|hx
   ·exact h.lo x hx
   ·simp at hx;subst hx;exact p1
  ·intro x hx
   rcases List.mem_append.1 hx with hx|hx
   ·exact h.hi x hx
   ·simp at hx;subst hx;exact p2
  ·intro h0
   obtain⟨x,hx,e⟩:=h.cur h0
   exact⟨x,List.mem_append_left _ hx,e⟩
  ·intro x hx e hr
   rcases List.mem_append.1 hx with hx|hx
   ·exact h.run x hx e hr
   ·simp at hx
    subst hx
    exfalso
    obtain⟨y,hy,e2⟩:=h.cur (show 0≤q.cur by rw [←e];exact hid)
    exact hne y hy (e2.trans e.symm)
theorem Lag.remove {q:Rq} {B:Int} (h:Lag q B) (id:Int):Lag (q.remove id) B:=by
 unfold Rq.remove
 split
 ·have sub:∀x ∈ q.l.filter (fun x=>decide (x.1≠id)),x ∈ q.l∧x.1≠id:=fun x hx=>by
    have:=List.mem_filter.1 hx
    exact⟨this.1,by simpa using this.2⟩
  refine⟨h.g1,h.g8,h.f0,h.fB,fun x hx=>h.ids x (sub x hx).1,?_,fun x hx=>h.wt x (sub x hx).1,fun x hx=>h.lo x (sub x hx).1,fun x hx=>h.hi x (sub x hx).1,?_,?_⟩
  ·exact (List.filter_sublist.map _).nodup h.uniq
  ·intro h0
   dsimp only at h0 ⊢
   by_cases hc:q.cur=id
   ·rw [if_pos hc] at h0
    omega
   ·rw [if_neg hc] at h0 ⊢
    obtain⟨x,hx,e⟩:=h.cur h0
    exact⟨x,List.mem_filter.2 ⟨hx,by simp;omega⟩,e⟩
  ·intro x hx e hr
   dsimp only at e hr ⊢
   have hs:=sub x hx
   by_cases hc:q.cur=id
   ·rw [if_pos hc] at e
    have:=h.ids x hs.1
    omega
   ·rw [if_neg hc] at e hr ⊢
    exact h.run x hs.1 e hr
 ·exact h
theorem Lag.weigh {q:Rq} {B:Int} (h:Lag q B) (hB:B≤9223372036854775808) (id w:Int):Lag (q.weigh id w) B:=by
 unfold Rq.weigh
 cases he:findQ q.l id with
 |none=>exact h
 |some x0=>
  have hm:=findQ_mem he
  have hw:=bring_range (n:=w) (lo:=1) (hi:=4096) (by decide)
  generalize bringR w 1 4096=w' at hw
  have get:∀x ∈ q.l.map (fun y=>if y.1=id then (y.1,q.place y.2.1 w',w') else y),∃y ∈ q.l,x.1=y.1∧((y.1=id∧x=(y.1,q.place y.2.1 w',w'))∨(y.1≠id∧x=y)):=fun x hx=>by
   obtain⟨y,hy,rfl⟩:=List.mem_map.1 hx
   by_cases hc:y.1=id
   ·rw [if_pos hc]
    exact⟨y,hy,rfl, .inl ⟨hc,rfl⟩⟩
   ·rw [if_neg hc]
    exact⟨y,hy,rfl, .inr ⟨hc,rfl⟩⟩
  have names:(q.l.map (fun y=>if y.1=id then (y.1,q.place y.2.1 w',w') else y)).map (·.1)=q.l.map (·.1):=by
   rw [List.map_map]
   refine List.map_congr_left fun y _=>?_
   simp only [Function.comp]
   split<;>rfl
  refine⟨h.g1,h.g8,h.f0,h.fB,?_,?_,?_,?_,?_,?_,?_⟩
  ·intro x hx
   obtain⟨y,hy,e,_⟩:=get x hx
   rw [e]
   exact h.ids y hy
  ·show (List.map _ (List.map _ q.l)).Nodup
   rw [names]
   exact h.uniq
  ·intro x hx
   obtain⟨y,hy,_,⟨_,rfl⟩ |⟨_,rfl⟩⟩:=get x hx
   ·exact hw
   ·exact h.wt _ hy
  ·intro x hx
   obtain⟨y,hy,_,⟨_,rfl⟩ |⟨_,rfl⟩⟩:=get x hx
   ·exact (h.place hB _ _).1
   ·exact h.lo _ hy
  ·intro x hx
   obtain⟨y,hy,_,⟨_,rfl⟩ |⟨_,rfl⟩⟩:=get x hx
   ·exact (h.place hB _ _).2
   ·exact h.hi _ hy
  ·intro h0
   obtain⟨y,hy,e⟩:=h.cur h0
   by_cases hc:y.1=id
   ·exact⟨(y.1,q.place y.2.1 w',w'),List.mem_map.2 ⟨y,hy,by rw [if_pos hc]⟩,e⟩
   ·exact⟨y,List.mem_map.2 ⟨y,hy,by rw [if_neg hc]⟩,e⟩
  ·intro x hx e hr
   obtain⟨y,hy,e1,⟨hc,rfl⟩ |⟨hc,rfl⟩⟩:=get x hx
   ·have ex:y=(id,x0):=findQ_one h.uniq hy hm hc
    subst ex
    simp only at e hr ⊢
    have hp:=h.place hB x0.1 w'
    by_cases hw2:x0.2≠w'
    ·rw [if_pos ⟨hw2,e.symm⟩]
     exact hp.2
    ·have hw3:x0.2=w':=by omega
     have hne:¬(x0.2≠w'∧q.cur=id):=fun hh=>hw2 hh.1
     rw [if_neg hne] at hr ⊢
     have hrun:=h.run _ hm e hr
     have hlo:=h.lo _ hm
     have hhi:=h.hi _ hm
     simp only [hw3] at hrun hhi
     have e3:q.place x0.1 w'=x0.1:=by
      unfold Rq.place
      rw [reach_in h.g1 h.g8]
      have hr2:=reach_range w' q.g
      rw [reach_in h.g1 h.g8] at hr2
      have hf:=h.fB
      have es:satV (q.f+coreR w'*q.g)=q.f+coreR w'*q.g:=by
       unfold satV
       omega
      unfold clampR
      simp only at hlo
      rw [es,if_neg (by omega),if_neg (by omega)]
     rw [e3]
     exact hrun
   ·have hne:¬(x0.2≠w'∧q.cur=id):=fun hh=>hc (e.trans hh.2)
    simp only at hr e ⊢
    rw [if_neg hne] at hr ⊢
    exact h.run _ hy e hr
theorem settle_ge (q:Rq):q.f≤q.settle.f∧q.settle.g=q.g∧q.settle.l=q.l∧q.settle.cur=q.cur∧q.settle.ran=q.ran:=by
 unfold Rq.settle
 cases hl:q.l with
 |nil=>exact⟨Int.le_refl _,rfl,hl,rfl,rfl⟩
 |cons x l=>
  dsimp only
  exact⟨by split<;>omega,rfl,rfl,rfl,rfl⟩
theorem Lag.start (grain:Int):Lag (Rq.new grain) 0:=by
 have hg:=bring_range (n:=grain) (lo:=1) (hi:=8) (by decide)
 refine⟨hg.1,hg.2,Int.le_refl _,Int.le_refl _,?_,List.nodup_nil,?_,?_,?_,fun h=>?_,?_⟩
 ·intro x hx;cases hx
 ·intro x hx;cases hx
 ·intro x hx;cases hx
 ·intro x hx;cases hx
 ·have:(0:Int)≤ -1:=h
  omega
 ·intro x hx;cases hx
def ltQ (a b:Int×Int×Int):Bool:=decide (a.2.1 < b.2.1)||(decide (a.2.1=b.2.1)&&decide (a.1 < b.1))
theorem ltQ_iff {a b:Int×Int×Int} :ltQ a b=true↔a.2.1 < b.2.1∨(a.2.1=b.2.1∧a.1 < b.1):=by simp [ltQ]
theorem ltQ_not {a b:Int×Int×Int} :ltQ a b=false↔b.2.1 < a.2.1∨(a.2.1=b.2.1∧b.1≤a.1):=by
 cases h:ltQ a b with
 |true=>
  have:=ltQ_iff.1 h
  simp only [Bool.true_eq_false,false_iff]
  omega
 |false=>
  simp only [true_iff]
  have:¬(a.2.1 < b.2.1∨(a.2.1=b.2.1∧a.1 < b.1)):=fun hh=>by rw [ltQ_iff.2 hh] at h;cases h
  omega
def insQ (x:Int×Int×Int):List (Int×Int×Int)→List (Int×Int×Int)
 |[]=>[x]
 |y::l=>if ltQ y x=true then y::insQ x l else x::y::l
def sortQ (l:List (Int×Int×Int)):List (Int×Int×Int):=l.foldl (fun out x=>insQ x out) []
theorem mem_ins {x z:Int×Int×Int} :∀ {l:List (Int×Int×Int)},z ∈ insQ x l↔z=x∨z ∈ l
 |[]=>by simp [insQ]
 |y::l=>by
  unfold insQ
  split
  ·rw [List.mem_cons,mem_ins,List.mem_cons]
   constructor
   ·rintro (h|h|h)
    ·exact .inr (.inl h)
    ·exact .inl h
    ·exact .inr (.inr h)
   ·rintro (h|h|h)
    ·exact .inr (.inl h)
    ·exact .inl h
    ·exact .inr (.inr h)
  ·rw [List.mem_cons]
theorem len_ins (x:Int×Int×Int):∀l:List (Int×Int×Int),(insQ x l).length=l.length+1
 |[]=>rfl
 |y::l=>by
  unfold insQ
  split
  ·rw [List.length_cons,len_ins x l,List.length_cons]
  ·rfl
theorem ins_sorted {x:Int×Int×Int} :∀ {l:List (Int×Int×Int)},l.Pairwise (fun a b=>ltQ b a=false)→(insQ x l).Pairwise (fun a b=>ltQ b a=false)
 |[],_=>by simp [insQ]
 |y::l,h=>by
  obtain⟨h1,h2⟩:=List.pairwise_cons.1 h
  unfold insQ
  split
  ·next hc=>
   refine List.pairwise_cons.2 ⟨fun z hz=>?_,ins_sorted h2⟩
   rcases mem_ins.1 hz with rfl|hz
   ·have:=ltQ_iff.1 hc
    rw [ltQ_not]
    omega
   ·exact h1 z hz
  ·next hc=>
   have hc':ltQ y x=false:=by simpa using hc
   refine List.pairwise_cons.2 ⟨fun z hz=>?_,h⟩
   rcases List.mem_cons.1 hz with rfl|hz
   ·exact hc'
   ·have a:=ltQ_not.1 hc'
    have b:=ltQ_not.1 (h1 z hz)
    rw [ltQ_not]
    omega
theorem fold_sorted:∀(l out:List (Int×Int×Int)),out.Pairwise (fun a b=>ltQ b a=false)→(l.foldl (fun out x=>insQ x out) out).Pairwise (fun a b=>ltQ b a=false)∧(∀z,z ∈ l.foldl (fun out x=>insQ x out) out↔z ∈ l∨z ∈ out)∧(l.foldl (fun out x=>insQ x out) out).length=l.length+out.length
 |[],out,h=>⟨h,fun z=>by simp,by simp⟩
 |x::l,out,h=>by
  obtain⟨a,b,c⟩:=fold_sorted l (insQ x out) (ins_sorted h)
  refine⟨a,fun z=>?_,?_⟩
  ·rw [List.foldl_cons,b,mem_ins,List.mem_cons]
   constructor
   ·rintro (h|h|h)
    ·exact .inl (.inr h)
    ·exact .inl (.inl h)
    ·exact .inr h
   ·rintro ((h|h) |h)
    ·exact .inr (.inl h)
    ·exact .inl h
    ·exact .inr (.inr h)
  ·rw [List.foldl_cons,c,len_ins,List.length_cons]
   omega
theorem sort_sorted (l:List (Int×Int×Int)):(sortQ l).Pairwise (fun a b=>ltQ b a=false):=(fold_sorted l [] List.Pairwise.nil).1
theorem mem_sort {l:List (Int×Int×Int)} {z:Int×Int×Int} :z ∈ sortQ l↔z ∈ l:=by
 have:=(fold_sorted l [] List.Pairwise.nil).2.1 z
 simpa [sortQ] using this
theorem len_sort (l:List (Int×Int×Int)):(sortQ l).length=l.length:=by
 have:=(fold_sorted l [] List.Pairwise.nil).2.2
 simpa [sortQ] using this
theorem leastQ_lt:∀ {l:List (Int×Int×Int)} {x:Int×Int×Int},leastQ l=some x→∀y ∈ l,ltQ y x=false
 |y::l,x,h=>by
  unfold leastQ at h
  cases hz:leastQ l with
  |none=>
   rw [hz] at h
   simp only [Option.some.injEq] at h
   subst h
   rw [leastQ_none hz]
   intro z hz
   simp at hz
   subst hz
   rw [ltQ_not]
   omega
  |some z=>
   rw [hz] at h
   have b:=leastQ_lt hz
   simp only at h
   split at h
   ·next hc=>
    simp only [Option.some.injEq] at h
    subst h
    intro u hu
    rw [ltQ_not]
    rcases List.mem_cons.1 hu with rfl|hu
    ·omega
    ·have:=ltQ_not.1 (b u hu)
     omega
   ·next hc=>
    simp only [Option.some.injEq] at h
    subst h
    intro u hu
    rcases List.mem_cons.1 hu with rfl|hu
    ·rw [ltQ_not]
     omega
    ·exact b u hu
theorem sort_head {l:List (Int×Int×Int)} (hu:(l.map (·.1)).Nodup):(sortQ l).head?=leastQ l:=by
 cases hs:sortQ l with
 |nil=>
  have:l=[]:=List.eq_nil_of_length_eq_zero (by rw [←len_sort,hs];rfl)
  subst this
  rfl
 |cons x r=>
  have hsorted:=sort_sorted l
  rw [hs] at hsorted
  have hx:x ∈ l:=mem_sort.1 (by rw [hs];simp)
  cases hl:leastQ l with
  |none=>
   rw [leastQ_none hl] at hx
   cases hx
  |some y=>
   have hy:=(leastQ_le hl).1
   have a:=ltQ_not.1 (leastQ_lt hl x hx)
   have b:ltQ y x=false:=by
    have:y ∈ x::r:=by rw [←hs];exact mem_sort.2 hy
    rcases List.mem_cons.1 this with rfl|h
    ·rw [ltQ_not];omega
    ·exact (List.pairwise_cons.1 hsorted).1 y h
   have b:=ltQ_not.1 b
   have:x=y:=findQ_one hu hx hy (by omega)
   rw [List.head?_cons,this]
end Go.Proofs.YtfmciiffcmfagaaGreat
namespace Go.Proofs.YtfmciiffcmfagaaGreat
open Go.RowKit
structure Turned (X:List Nat) (w w':World):Prop where
 os:w'.os=w.os
 tape:w'.tape=w.tape
 output:w'.output=w.output
 size:w.heap.size≤w'.heap.size
 block:∀k,k < w.heap.size→k ∉ X→w'.heap[k]?=w.heap[k]?
def Newer (X:List Nat) (n:Nat) (Y:List Nat):Prop:=∀k ∈ Y,k ∈ X∨n≤k
theorem Newer.refl (X:List Nat) (n:Nat):Newer X n X:=fun _ h=> .inl h
theorem Newer.trans {X Y Z:List Nat} {n m:Nat} (h:Newer X n Y) (g:Newer Y m Z) (hn:n≤m):Newer X n Z:=fun k hk=>by
 rcases g k hk with h1|h1
 ·exact h k h1
 ·exact .inr (by omega)
theorem Newer.mono {X Y:List Nat} {n m:Nat} (h:Newer X n Y) (hn:m≤n):Newer X m Y:=fun k hk=>by
 rcases h k hk with h1|h1
 ·exact .inl h1
 ·exact .inr (by omega)
theorem Turned.refl (X:List Nat) (w:World):Turned X w w:=⟨rfl,rfl,rfl,Nat.le_refl _,fun _ _ _=>rfl⟩
theorem Turned.trans {X Y:List Nat} {a b c:World} (h:Turned X a b) (g:Turned Y b c) (hs:Newer X a.heap.size Y):Turned X a c:=
 ⟨g.os.trans h.os,g.tape.trans h.tape,g.output.trans h.output,Nat.le_trans h.size g.size,fun k hk hx=>
   (g.block k (Nat.lt_of_lt_of_le hk h.size) (fun hy=>by rcases hs k hy with h1|h1;exact hx h1;omega)).trans (h.block k hk hx)⟩
theorem Turned.mono {X Y:List Nat} {a b:World} (h:Turned Y a b) (hs:Newer X a.heap.size Y):Turned X a b:=(Turned.refl X a).trans h hs
theorem Turned.drewN {X:List Nat} {a b:World} (h:Turned X a b) (n:Nat):Turned X a (b.drewN n):=⟨h.os,h.tape,h.output,h.size,h.block⟩
theorem Turned.drew {X:List Nat} {a b:World} (h:Turned X a b):Turned X a b.drew:=⟨h.os,h.tape,h.output,h.size,h.block⟩
theorem Turned.alloc {X:List Nat} {a b:World} (h:Turned X a b) (o:Obj):Turned X a (b.alloc o):=
 ⟨h.os,h.tape,h.output,Nat.le_trans h.size (by simp),fun k hk hx=>(Below.heap_alloc b o k (Nat.lt_of_lt_of_le hk h.size)).trans (h.block k hk hx)⟩
theorem Turned.setCell {X:List Nat} {a b:World} (h:Turned X a b) {p:Addr} (hp:p.block ∈ X∨a.heap.size≤p.block) (u:Value):Turned X a (b.setCell p u):=
 ⟨h.os,h.tape,h.output,Nat.le_trans h.size (by simp [World.setCell]),fun k hk hx=>
   (Below.heap_setCell b p u k (fun e=>by subst e;rcases hp with h1|h1;exact hx h1;omega)).trans (h.block k hk hx)⟩
theorem Turned.grown {X:List Nat} {a b c:World} {row:Option Nat} (h:Turned X a b) (hg:b.grownBy c row) (hr:∀k,row=some k→k ∈ X∨a.heap.size≤k):Turned X a c:=
 ⟨hg.os.trans h.os,hg.tape.trans h.tape,hg.output.trans h.output,Nat.le_trans h.size hg.size,fun k hk hx=>
   (hg.block k (Nat.lt_of_lt_of_le hk h.size) (fun e=>by rcases hr k e.symm with h1|h1;exact hx h1;omega)).trans (h.block k hk hx)⟩
theorem Turned.below {X:List Nat} {a b:World} {B:Nat} (h:Turned X a b) (hX:∀k ∈ X,B≤k) (hB:B≤a.heap.size):Below B a b:=
 ⟨h.os,h.tape,h.output,h.size,fun k hk=>h.block k (by omega) (fun hx=>by have:=hX k hx;omega)⟩
theorem Turned.same {X:List Nat} {a b:World} (h:Turned X a b) {k:Nat} {o:Obj} (ho:a.heap[k]?=some o) (hx:k ∉ X):b.heap[k]?=some o:=
 (h.block k (lt_of_block ho) hx).trans ho
theorem ownsRow_same {w w':World} {base:Nat} {e:TypeId} {size:Nat} {v:Value} {n:Nat} {xs:List Value} (h:w.ownsRow base e size v n xs)
  (hs:∀k ∈ v.ownBlock.toList,k < w.heap.size→w'.heap[k]?=w.heap[k]?):w'.ownsRow base e size v n xs:=by
 refine⟨h.1,?_⟩
 rcases h.2 with h2|⟨g,cap,cur,rfl,hb,hg,rest⟩
 ·exact .inl h2
 ·exact .inr ⟨g,cap,cur,rfl,hb,(hs g (by simp [Value.ownBlock]) (lt_of_block hg)).trans hg,rest⟩
theorem ownsRow_lt {w:World} {base:Nat} {e:TypeId} {size:Nat} {v:Value} {n:Nat} {xs:List Value} (h:w.ownsRow base e size v n xs):∀k ∈ v.ownBlock.toList,k < w.heap.size:=by
 intro k hk
 exact (h.lt k (by simpa using hk)).2
theorem ownsRow_type {w:World} {base:Nat} {e:TypeId} {size:Nat} {v:Value} {n:Nat} {xs:List Value} (h:w.ownsRow base e size v n xs):∀k ∈ v.ownBlock.toList,∃cur,w.heap[k]?=some (.cells cur e (0,0)):=by
 intro k hk
 rcases h.2 with⟨rfl,_⟩ |⟨g,cap,cur,rfl,hb,hg,_⟩
 ·simp [Value.ownBlock] at hk
 ·simp [Value.ownBlock] at hk
  subst hk
  exact⟨cur,hg⟩
theorem ownsRow_shape {w:World} {base:Nat} {e:TypeId} {size:Nat} {v:Value} {n:Nat} {xs:List Value} (h:w.ownsRow base e size v n xs):∃a cap,v= .slice a n cap∧n≤cap∧cap≤maxLen:=by
 rcases h.2 with⟨rfl,rfl⟩ |⟨g,cap,cur,rfl,_,_,h1,h2,_⟩
 ·exact⟨none,0,rfl,Nat.le_refl _,by simp [maxLen]⟩
 ·exact⟨_,cap,rfl,h1,h2⟩
theorem ownsRow_pos {w:World} {base:Nat} {e:TypeId} {size:Nat} {v:Value} {n:Nat} {xs:List Value} (h:w.ownsRow base e size v n xs) (hn:0 < n):∃g cap,v= .slice (some ⟨g,0,none⟩) n cap∧n≤cap∧cap≤maxLen:=by
 rcases h.2 with⟨rfl,rfl⟩ |⟨g,cap,cur,rfl,_,_,h1,h2,_⟩
 ·omega
 ·exact⟨g,cap,rfl,h1,h2⟩
theorem ownsRow_base {w:World} {base base':Nat} {e:TypeId} {size:Nat} {v:Value} {n:Nat} {xs:List Value} (h:w.ownsRow base e size v n xs) (hb:base'≤base):w.ownsRow base' e size v n xs:=by
 refine⟨h.1,?_⟩
 rcases h.2 with h2|⟨g,cap,cur,rfl,h1,h2⟩
 ·exact .inl h2
 ·exact .inr ⟨g,cap,cur,rfl,by omega,h2⟩
theorem block_off {w:World} {b:Nat} {cs:Array Value} {t e:TypeId} {base size n:Nat} {v:Value} {xs:List Value} (hb:w.heap[b]?=some (.cells cs t (0,0))) (hr:w.ownsRow base e size v n xs) (hne:t≠e):some b≠v.ownBlock:=by
 intro h
 obtain⟨cur,hc⟩:=ownsRow_type hr b (by simp [←h])
 rw [hb] at hc
 simp at hc
 exact hne hc.2
end Go.Proofs.YtfmciiffcmfagaaGreat
namespace Go.Proofs.YtfmciiffcmfagaaGreat
open Go.RowKit
section
variable {α:Type}
def cellsOf (enc:α→List Value) (L:List α):List Value:=L.flatMap enc
section
variable {enc:α→List Value} {k:Nat}
theorem cellsOf_len (hk:∀x,(enc x).length=k) (L:List α):(cellsOf enc L).length=L.length*k:=by
 induction L with
 |nil=>simp [cellsOf]
 |cons s L ih=>
  simp only [cellsOf,List.flatMap_cons,List.length_append,List.length_cons,hk] at ih ⊢
  rw [ih,Nat.add_mul]
  omega
theorem cellsOf_append (L M:List α):cellsOf enc (L++M)=cellsOf enc L++cellsOf enc M:=by simp [cellsOf]
theorem cellsOf_snoc (L:List α) (x:α):cellsOf enc (L++[x])=cellsOf enc L++enc x:=by simp [cellsOf]
theorem cellsOf_take (hk:∀x,(enc x).length=k):∀(L:List α) (j:Nat),cellsOf enc (L.take j)=(cellsOf enc L).take (j*k)
 |[],j=>by simp [cellsOf]
 |s::L,0=>by simp [cellsOf]
 |s::L,j+1=>by
  have ih:=cellsOf_take hk L j
  have e:(j+1)*k=(enc s).length+j*k:=by rw [hk,Nat.add_mul];omega
  simp only [cellsOf,List.take_succ_cons,List.flatMap_cons] at ih ⊢
  rw [ih,e,List.take_length_add_append]
theorem cellsOf_drop (hk:∀x,(enc x).length=k):∀(L:List α) (j:Nat),cellsOf enc (L.drop j)=(cellsOf enc L).drop (j*k)
 |[],j=>by simp [cellsOf]
 |s::L,0=>by simp [cellsOf]
 |s::L,j+1=>by
  have ih:=cellsOf_drop hk L j
  have e:(j+1)*k=(enc s).length+j*k:=by rw [hk,Nat.add_mul];omega
  simp only [cellsOf,List.drop_succ_cons,List.flatMap_cons] at ih ⊢
  rw [ih,e,List.drop_length_add_append]
theorem cellsOf_get (hk:∀x,(enc x).length=k) (L:List α) (j i:Nat) (hj:j < L.length) (hi:i < k):(cellsOf enc L)[j*k+i]?=(enc L[j])[i]?:=by
 have h:=cellsOf_drop hk L j
 rw [List.drop_eq_getElem_cons hj] at h
 have h2:((cellsOf enc L).drop (j*k))[i]?=(enc L[j])[i]?:=by
  rw [←h]
  simp only [cellsOf,List.flatMap_cons]
  rw [List.getElem?_append_left (by rw [hk];exact hi)]
 rw [←h2,List.getElem?_drop]
theorem cellsOf_set (hk:∀x,(enc x).length=k):∀(L:List α) (j i:Nat) (x:α) (u:Value) (hj:j < L.length),i < k→enc x=(enc L[j]).set i u→cellsOf enc (L.set j x)=(cellsOf enc L).set (j*k+i) u
 |s::L,0,i,x,u,_,hi,he=>by
  simp only [List.getElem_cons_zero] at he
  simp only [cellsOf,List.set_cons_zero,List.flatMap_cons,Nat.zero_mul,Nat.zero_add,he]
  rw [List.set_append_left _ _ (by rw [hk];exact hi)]
 |s::L,j+1,i,x,u,hj,hi,he=>by
  have ih:=cellsOf_set hk L j i x u (by simpa using hj) hi (by simpa using he)
  have e:(j+1)*k+i=(enc s).length+(j*k+i):=by rw [hk,Nat.add_mul];omega
  simp only [cellsOf,List.set_cons_succ,List.flatMap_cons] at ih ⊢
  rw [ih,e,List.set_append_right _ _ (by omega)]
  congr 2
  omega
theorem take_drop_erase (L:List α) (i:Nat):L.take i++L.drop (i+1)=L.eraseIdx i:=(List.eraseIdx_eq_take_drop_succ ..).symm
end
def LAt (tS tE:TypeId) (k:Nat) (enc:α→List Value) (cs:Value→Array Value) (w:World) (b:Nat) (X:List Nat) (L:List α):Prop:=
 ∃v,w.heap[b]?=some (.cells (cs v) tS (0,0))∧w.ownsRow 0 tE k v L.length (cellsOf enc L)∧X=b::v.ownBlock.toList
section
variable {tS tE:TypeId} {k:Nat} {enc:α→List Value} {cs:Value→Array Value} {w w':World} {b:Nat} {X Y:List Nat} {L:List α}
theorem LAt.keep (h:LAt tS tE k enc cs w b X L) (ht:Turned Y w w') (hd:∀k ∈ X,k ∉ Y):LAt tS tE k enc cs w' b X L:=by
 obtain⟨v,h1,h2,rfl⟩:=h
 exact⟨v,ht.same h1 (hd _ (by simp)),ownsRow_same h2 (fun k hk hl=>ht.block k hl (hd k (List.mem_cons_of_mem _ hk))),rfl⟩
theorem LAt.lt (h:LAt tS tE k enc cs w b X L):∀k ∈ X,k < w.heap.size:=by
 obtain⟨v,h1,h2,rfl⟩:=h
 intro k hk
 rcases List.mem_cons.1 hk with rfl|hk
 ·exact lt_of_block h1
 ·exact ownsRow_lt h2 k hk
theorem LAt.head (h:LAt tS tE k enc cs w b X L):b ∈ X:=by
 obtain⟨v,h1,h2,rfl⟩:=h
 simp
theorem LAt.drewN (h:LAt tS tE k enc cs w b X L) (n:Nat):LAt tS tE k enc cs (w.drewN n) b X L:=h
theorem LAt.stored {w1:World} {v v':Value} {i:Nat} {M:List α} (hne:tS≠tE) (hcs:(cs v).setIfInBounds i v'=cs v')
  (hb:w1.heap[b]?=some (.cells (cs v) tS (0,0))) (ho:w1.ownsRow 0 tE k v' M.length (cellsOf enc M)) (hX:b ∈ X) (hT:Turned X w w1) (hN:∀g ∈ v'.ownBlock.toList,g ∈ X∨w.heap.size≤g):
  LAt tS tE k enc cs (w1.setCell ⟨b,i,none⟩ v') b (b::v'.ownBlock.toList) M∧Turned X w (w1.setCell ⟨b,i,none⟩ v')∧Newer X w.heap.size (b::v'.ownBlock.toList):=by
 refine⟨⟨v',?_,ownsRow_setCell_other ho (a:=⟨b,i,none⟩) (fun e=>block_off hb ho hne e.symm) _,rfl⟩,hT.setCell (.inl hX) _,?_⟩
 ·rw [heap_setCell_same w1 b i _ _ _ hb,hcs]
 ·intro j hj
  rcases List.mem_cons.1 hj with rfl|hj
  ·exact .inl hX
  ·exact hN j hj
theorem LAt.appended {W W2 W1:World} {v v':Value} {i:Nat} {M:List α} {n:Nat} {xs:List Value} (hne:tS≠tE) (hcs:(cs v).setIfInBounds i v'=cs v')
  (hb:W.heap[b]?=some (.cells (cs v) tS (0,0))) (ho:W.ownsRow 0 tE k v n xs) (hT2:Turned [] W W2) (hg:W2.grownBy W1 v.ownBlock)
  (hown:W1.ownsRow 0 tE k v' M.length (cellsOf enc M)) (hnew:∀g ∈ v'.ownBlock.toList,g ∈ v.ownBlock.toList∨W2.heap.size≤g):
  W1.heap[b]?=some (.cells (cs v) tS (0,0))∧LAt tS tE k enc cs (W1.setCell ⟨b,i,none⟩ v') b (b::v'.ownBlock.toList) M∧Turned (b::v.ownBlock.toList) W (W1.setCell ⟨b,i,none⟩ v')∧
   Newer (b::v.ownBlock.toList) W.heap.size (b::v'.ownBlock.toList):=by
 have hb2:=hT2.same hb (by simp)
 have hbl:=lt_of_block hb2
 have hb1:W1.heap[b]?=some (.cells (cs v) tS (0,0)):=(hg.block b hbl (block_off hb ho hne)).trans hb2
 have hs:=hT2.size
 have hT:Turned (b::v.ownBlock.toList) W W1:=Turned.grown (hT2.mono (fun k hk=>by simp at hk)) hg (fun k hk=> .inl (List.mem_cons_of_mem _ (by simp [hk])))
 obtain⟨h1,h2,h3⟩:=LAt.stored (w:=W) hne hcs hb1 hown (X:=b::v.ownBlock.toList) (by simp) hT (fun g hg'=>by
  rcases hnew g hg' with h|h
  ·exact .inl (List.mem_cons_of_mem _ h)
  ·exact .inr (by omega))
 exact⟨hb1,h1,h2,h3⟩
theorem LAt.field {cs':Value→Array Value} {i:Nat} {u:Value} (h:LAt tS tE k enc cs w b X L) (hne:tS≠tE) (hcs:∀v,(cs v).setIfInBounds i u=cs' v):
  LAt tS tE k enc cs' (w.setCell ⟨b,i,none⟩ u) b X L∧Turned X w (w.setCell ⟨b,i,none⟩ u):=by
 obtain⟨v,h1,h2,rfl⟩:=h
 refine⟨⟨v,?_,ownsRow_setCell_other h2 (a:=⟨b,i,none⟩) (fun e=>block_off h1 h2 hne e.symm) _,rfl⟩,(Turned.refl _ w).setCell (.inl (by simp)) _⟩
 rw [heap_setCell_same w b i _ _ _ h1,hcs]
theorem LAt.cellSet {g n cap:Nat} (hk:∀x,(enc x).length=k) (hne:tS≠tE) (hb:w.heap[b]?=some (.cells (cs (.slice (some ⟨g,0,none⟩) n cap)) tS (0,0))) (ho:w.ownsRow 0 tE k (.slice (some ⟨g,0,none⟩) n cap) L.length (cellsOf enc L))
  {j i:Nat} {x:α} {u:Value} (hj:j < L.length) (hi:i < k) (he:enc x=(enc L[j]).set i u):
  LAt tS tE k enc cs (w.setCell ⟨g,j*k+i,none⟩ u) b [b,g] (L.set j x)∧Turned [b,g] w (w.setCell ⟨g,j*k+i,none⟩ u):=by
 have hbg:b≠g:=fun h=>block_off hb ho hne (by simp [Value.ownBlock,h])
 refine⟨⟨.slice (some ⟨g,0,none⟩) n cap,(Below.heap_setCell _ _ _ _ hbg).trans hb,?_,by simp [Value.ownBlock]⟩,(Turned.refl _ w).setCell (.inl (by simp)) _⟩
 have hn:n=L.length:=by
  obtain⟨_,_,h1,_⟩:=ownsRow_shape ho
  simp at h1
  exact h1.2.1
 subst hn
 have h1:=(ho.stored (j*k+i) u).1
 rw [cellsOf_set hk L j i x u hj hi he,List.length_set]
 exact h1
theorem row_cells {g n cap:Nat} (hk:∀x,(enc x).length=k) (ho:w.ownsRow 0 tE k (.slice (some ⟨g,0,none⟩) n cap) L.length (cellsOf enc L)) {j:Nat} (hj:j < L.length):
  ∀i,i < k→w.cell? ⟨g,j*k+i,none⟩=(enc L[j])[i]?∧w.frozen? ⟨g,j*k+i,none⟩=false:=by
 intro i hi
 have hn:n=L.length:=by
  obtain⟨_,_,h1,_⟩:=ownsRow_shape ho
  simp at h1
  exact h1.2.1
 subst hn
 have hlt:j*k+i < L.length*k:=by
  have:(j+1)*k≤L.length*k:=Nat.mul_le_mul_right _ hj
  rw [Nat.add_mul] at this
  omega
 exact⟨by rw [ho.cellAt _ hlt];exact cellsOf_get hk L j i hj hi,ho.frozenAt _⟩
end
end
section
variable {α:Type} {tE:TypeId} {k:Nat} {enc:α→List Value} {W W':World} {g n cap:Nat} {L:List α}
theorem cells_take (hk:∀x,(enc x).length=k) (h:W.ownsRow 0 tE k (.slice (some ⟨g,0,none⟩) n cap) n (cellsOf enc L)) (hT:Turned [] W W') (j:Nat):
  ∀i u,(cellsOf enc (L.take j))[i]?=some u→W'.cell? ((⟨g,0,none⟩:Addr).add i)=some u:=by
 intro i u hu
 rw [cellsOf_take hk,List.getElem?_take] at hu
 by_cases hi:i < j*k
 ·rw [if_pos hi] at hu
  have h':=ownsRow_same (w':=W') h fun k' _ hl=>hT.block k' hl (by simp)
  exact h'.cells (g:=g) rfl i u hu
 ·rw [if_neg hi] at hu
  cases hu
theorem cells_drop (hk:∀x,(enc x).length=k) (h:W.ownsRow 0 tE k (.slice (some ⟨g,0,none⟩) n cap) n (cellsOf enc L)) (hT:Turned [] W W') (j:Nat):
  ∀i u,(cellsOf enc (L.drop j))[i]?=some u→W'.cell? ((⟨g,j*k,none⟩:Addr).add i)=some u:=by
 intro i u hu
 rw [cellsOf_drop hk,List.getElem?_drop] at hu
 have h':=ownsRow_same (w':=W') h fun k' _ hl=>hT.block k' hl (by simp)
 have h2:=h'.cells (g:=g) rfl _ u hu
 rw [Addr.add_lit] at h2 ⊢
 simpa using h2
theorem cells_tail (hk:∀x,(enc x).length=k) (h:W.ownsRow 0 tE k (.slice (some ⟨g,0,none⟩) n cap) n (cellsOf enc L)) (hT:Turned [] W W') (j:Nat) (hc:L.length≤cap):
  ∀ad,(if cap=j then (some ⟨g,0,none⟩:Option Addr) else some ⟨g,j*k,none⟩)=some ad→∀i u,(cellsOf enc (L.drop j))[i]?=some u→W'.cell? (ad.add i)=some u:=by
 intro ad had
 by_cases hcc:cap=j
 ·rw [List.drop_eq_nil_of_le (by omega)]
  intro i u hu
  simp [cellsOf] at hu
 ·rw [if_neg hcc] at had
  cases had
  exact cells_drop hk h hT j
theorem cells_one (h1:∀x,∀u ∈ enc x,u.oneCell'=true) (L:List α):∀u ∈ cellsOf enc L,u.oneCell'=true:=by
 intro u hu
 obtain⟨x,_,hx⟩:=List.mem_flatMap.1 hu
 exact h1 x u hx
end
theorem LAt.view {α:Type} {tS tE:TypeId} {k:Nat} {enc:α→List Value} {cs:Value→Array Value} {w:World} {b:Nat} {X:List Nat} {L:List α} (h:LAt tS tE k enc cs w b X L):
  ∃a cap,w.heap[b]?=some (.cells (cs (.slice a L.length cap)) tS (0,0))∧w.ownsRow 0 tE k (.slice a L.length cap) L.length (cellsOf enc L)∧X=b::(Value.slice a L.length cap).ownBlock.toList∧L.length≤cap∧cap≤maxLen∧
   ∀j,j < L.length→∃g,a=some ⟨g,0,none⟩∧b≠g∨tS=tE:=by
 obtain⟨v,h1,h2,h3⟩:=h
 obtain⟨a,cap,rfl,hc,hm⟩:=ownsRow_shape h2
 refine⟨a,cap,h1,h2,h3,hc,hm,fun j hj=>?_⟩
 obtain⟨g,cap',hv,_,_⟩:=ownsRow_pos h2 (by omega)
 simp only [Value.slice.injEq] at hv
 by_cases e:tS=tE
 ·exact⟨g, .inr e⟩
 ·exact⟨g, .inl ⟨hv.1,fun hg=>block_off h1 h2 e (by simp [Value.ownBlock,hv.1,hg])⟩⟩
section
variable {α:Type}
def placeI (p:α→Bool) (L:List α):Int:=match L.findIdx? p with|some j=>j|none=> -1
theorem place_none {p:α→Bool} {L:List α} (h:∀j (hj:j < L.length),p L[j]=false):placeI p L= -1:=by
 have:L.findIdx? p=none:=by
  rw [List.findIdx?_eq_none_iff]
  intro x hx
  obtain⟨j,hj,rfl⟩:=List.getElem_of_mem hx
  exact h j hj
 simp [placeI,this]
theorem place_some {p:α→Bool} {L:List α} {k:Nat} (hk:k < L.length) (hp:p L[k]=true) (h:∀j (hj:j < L.length),j < k→p L[j]=false):placeI p L=k:=by
 have:L.findIdx? p=some k:=by
  rw [List.findIdx?_eq_some_iff_getElem]
  exact⟨hk,hp,fun j hj=>by simpa using h j (by omega) hj⟩
 simp [placeI,this]
theorem place_cases (p:α→Bool) (L:List α):placeI p L= -1∧(∀x ∈ L,p x=false)∨∃k:Nat,∃hk:k < L.length,placeI p L=k∧p L[k]=true:=by
 cases h:L.findIdx? p with
 |none=>
  left
  rw [List.findIdx?_eq_none_iff] at h
  exact⟨place_none fun j hj=>h _ (List.getElem_mem hj),fun x hx=>h x hx⟩
 |some k=>
  right
  rw [List.findIdx?_eq_some_iff_getElem] at h
  obtain⟨hk,h1,h2⟩:=h
  exact⟨k,hk,place_some hk h1 fun j hj hjk=>by simpa using h2 j hjk,h1⟩
end
theorem ownsRow_empty (w:World) (e:TypeId) (size:Nat):(w.alloc (.cells #[] e (0,0))).ownsRow 0 e size (.slice (some ⟨w.heap.size,0,none⟩) 0 0) 0 []:=
 ⟨by simp, .inr ⟨w.heap.size,0, #[],rfl,Nat.zero_le _,heap_alloc_new w _,Nat.le_refl _,by simp [maxLen],by simp,by simp⟩⟩
section
variable {P:Program} (w:World)
theorem run_append_any (t ty e:TypeId) (i:TypeInfo) (z:Value) (size bytes:Nat) (ht:P.underlying t=some (.slice e)) (hi:P.info? e=some i) (hz:i.zero=some z)
  (hsize:i.size=size) (hby:i.bytes=bytes) (hzs:z.cells.size=size) (hsz:0 < size)
  (v:Value) (n:Nat) (xs:List Value) (hown:w.ownsRow 0 e size v n xs)
  (ao:Option Addr) (m c:Nat) (news:List Value) (hl:news.length=m*size) (hnone:ao=none→m=0∧c=0) (hnews:∀ad,ao=some ad→∀j u,news[j]?=some u→w.cell? (ad.add j)=some u) (h1:∀u ∈ news,u.oneCell'=true)
  (h63:n+m≤maxLen) (hbytes:(n+m)*bytes≤140737488355328):
  ∃a' cap' w',(Builtin.append_ #[t,t] ty #[v, .slice ao m c]).run P w= .ok (.slice a' (n+m) cap') w'∧w'.ownsRow 0 e size (.slice a' (n+m) cap') (n+m) (xs++news)∧w.grownBy w' v.ownBlock∧
   (∀g ∈ (Value.slice a' (n+m) cap').ownBlock.toList,g ∈ v.ownBlock.toList∨w.heap.size≤g):=by
 cases hao:ao with
 |none=>
  obtain⟨rfl,rfl⟩:=hnone hao
  have hn:news=[]:=List.eq_nil_of_length_eq_zero (by simpa using hl)
  subst hn
  have hr:=run_append_owned_none (P:=P) (w:=w) 0 t ty e i size ht hi v n xs hown
  obtain⟨a',cap',rfl,hc1,hc2⟩:=ownsRow_shape hown
  exact⟨a',cap',w,hr,by simpa using hown,⟨rfl,rfl,rfl,Nat.le_refl _,fun _ _ _=>rfl⟩,fun g hg=> .inl hg⟩
 |some ad=>
  obtain⟨v',w',hr,h2,h3,_,h5⟩:=run_append_own_at (P:=P) w 0 t ty e i z size bytes ht hi hz hsize hby hzs hsz v n xs hown ad m c news hl (hnews ad hao) h1 h63 hbytes (Nat.zero_le _)
  obtain⟨a',cap',rfl,hc1,hc2⟩:=ownsRow_shape h2
  refine⟨a',cap',w',hr,h2,h3,fun g hg=>?_⟩
  rcases h5 with h5|h5
  ·exact .inl (by rw [←h5];exact hg)
  ·rw [h5] at hg
   simp at hg
   exact .inr (by omega)
theorem wp_append_any {o:Oper} {a:Act} {K:Act→World→Prop} {Q:Exit→Act→World→Prop} (s x:Operand) (t:TypeId)
  (ho:o.op= .call { callee:= .builtin .append,args:= #[s,x],argTypes:= #[t,t] })
  (e:TypeId) (i:TypeInfo) (z:Value) (size bytes:Nat) (ht:P.underlying t=some (.slice e)) (hi:P.info? e=some i) (hz:i.zero=some z)
  (hsize:i.size=size) (hby:i.bytes=bytes) (hzs:z.cells.size=size) (hsz:0 < size)
  (v:Value) (n:Nat) (xs:List Value) (hs:a.eval s=v) (hown:w.ownsRow 0 e size v n xs)
  (ao:Option Addr) (m c:Nat) (news:List Value) (hx:a.eval x= .slice ao m c) (hl:news.length=m*size) (hnone:ao=none→m=0∧c=0) (hnews:∀ad,ao=some ad→∀j u,news[j]?=some u→w.cell? (ad.add j)=some u) (h1:∀u ∈ news,u.oneCell'=true)
  (h63:n+m≤maxLen) (hbytes:(n+m)*bytes≤140737488355328)
  (h:∀a' cap' w',w'.ownsRow 0 e size (.slice a' (n+m) cap') (n+m) (xs++news)→w.grownBy w' v.ownBlock→(∀g ∈ (Value.slice a' (n+m) cap').ownBlock.toList,g ∈ v.ownBlock.toList∨w.heap.size≤g)→
    K (a.put o.dst (.slice a' (n+m) cap')) w'):o.wp P a w K Q:=by
 obtain⟨a',cap',w',hr,h2,h3,h4⟩:=run_append_any (P:=P) w t o.type e i z size bytes ht hi hz hsize hby hzs hsz v n xs hown ao m c news hl hnone hnews h1 h63 hbytes
 unfold Oper.wp execOp
 simp only [ho,resolve,invoke,builtin,Sem.run_bind,Sem.run_pure,Result.andThen_ok,List.map_toArray,List.map_cons,List.map_nil,hs,hx,hr]
 exact h a' cap' w' h2 h3 h4
theorem wpList_append_any {ops:Array Oper} {rest:List Oper} {o:Oper} {a:Act} {Q:Exit→Act→World→Prop} (hgd:o.guard=none) (s x:Operand) (t:TypeId)
  (ho:o.op= .call { callee:= .builtin .append,args:= #[s,x],argTypes:= #[t,t] })
  (e:TypeId) (i:TypeInfo) (z:Value) (size bytes:Nat) (ht:P.underlying t=some (.slice e)) (hi:P.info? e=some i) (hz:i.zero=some z)
  (hsize:i.size=size) (hby:i.bytes=bytes) (hzs:z.cells.size=size) (hsz:0 < size)
  (v:Value) (n:Nat) (xs:List Value) (hs:a.eval s=v) (hown:w.ownsRow 0 e size v n xs)
  (ao:Option Addr) (m c:Nat) (news:List Value) (hx:a.eval x= .slice ao m c) (hl:news.length=m*size) (hnone:ao=none→m=0∧c=0) (hnews:∀ad,ao=some ad→∀j u,news[j]?=some u→w.cell? (ad.add j)=some u) (h1:∀u ∈ news,u.oneCell'=true)
  (h63:n+m≤maxLen) (hbytes:(n+m)*bytes≤140737488355328)
  (h:∀a' cap' w',w'.ownsRow 0 e size (.slice a' (n+m) cap') (n+m) (xs++news)→w.grownBy w' v.ownBlock→(∀g ∈ (Value.slice a' (n+m) cap').ownBlock.toList,g ∈ v.ownBlock.toList∨w.heap.size≤g)→
    wpList P ops Q rest (a.put o.dst (.slice a' (n+m) cap')) w'):wpList P ops Q (o::rest) a w:=
 wpList_plain hgd fun _ hK=>wp_append_any w s x t ho e i z size bytes ht hi hz hsize hby hzs hsz v n xs hs hown ao m c news hx hl hnone hnews h1 h63 hbytes fun a' cap' w' h2 h3 h4=>hK _ _ (h a' cap' w' h2 h3 h4)
theorem step_append_any {ops:Array Oper} {o:Oper} {a:Act} {K:Act→World→Prop} {Q:Exit→Act→World→Prop} {E:Prop} (hgd:o.guard=none) (s x:Operand) (t:TypeId)
  (ho:o.op= .call { callee:= .builtin .append,args:= #[s,x],argTypes:= #[t,t] })
  (e:TypeId) (i:TypeInfo) (z:Value) (size bytes:Nat) (ht:P.underlying t=some (.slice e)) (hi:P.info? e=some i) (hz:i.zero=some z)
  (hsize:i.size=size) (hby:i.bytes=bytes) (hzs:z.cells.size=size) (hsz:0 < size)
  (v:Value) (n:Nat) (xs:List Value) (hs:a.eval s=v) (hown:w.ownsRow 0 e size v n xs)
  (ao:Option Addr) (m c:Nat) (news:List Value) (hx:a.eval x= .slice ao m c) (hl:news.length=m*size) (hnone:ao=none→m=0∧c=0) (hnews:∀ad,ao=some ad→∀j u,news[j]?=some u→w.cell? (ad.add j)=some u) (h1:∀u ∈ news,u.oneCell'=true)
  (h63:n+m≤maxLen) (hbytes:(n+m)*bytes≤140737488355328)
  (h:∀a' cap' w',w'.ownsRow 0 e size (.slice a' (n+m) cap') (n+m) (xs++news)→w.grownBy w' v.ownBlock→(∀g ∈ (Value.slice a' (n+m) cap').ownBlock.toList,g ∈ v.ownBlock.toList∨w.heap.size≤g)→
    K (a.put o.dst (.slice a' (n+m) cap')) w'):if Region.wanted o (yielded ops a.tmps)=true then Oper.wp P o a w K Q else E:=by
 have hw:Region.wanted o (yielded ops a.tmps)=true:=by simp [Region.wanted,hgd]
 rw [if_pos hw]
 exact wp_append_any w s x t ho e i z size bytes ht hi hz hsize hby hzs hsz v n xs hs hown ao m c news hx hl hnone hnews h1 h63 hbytes h
end
end Go.Proofs.YtfmciiffcmfagaaGreat
