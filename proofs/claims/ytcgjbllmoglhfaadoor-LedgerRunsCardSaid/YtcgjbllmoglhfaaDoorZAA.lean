/-
  From a walk to a row: slices of deeds and of integers, opened to their cells; what a law's row asks of the world behind the call.
  Memory of one's own, told by the numbers of its blocks: what a call may have turned, and what stays. No program.
  Numbers of Go's int; what stays behind calls that turn nothing.
  Arguments of several stages, opened. (Made by ledger/gen_lgrow.py.)
  Plain arithmetic for numbers of 64 bits: words, the two halves of a product of 128 bits, order, distance. No program in sight.
  Plain arithmetic of numbers in digits of 16 bits, the lowest first. No program in sight.
  Nothing of the shelf is reached here.
  The library's calls that fixq is made of, over whole numbers: bits.Add64, bits.Sub64, bits.Mul64, bits.LeadingZeros64, cmp.Compare.
  Numbers of 128 bits: what product, order and apart of package fixq answer.
  Numbers in digits, in memory; the reference's at and longer.
  The reference's number, Sum and Fits.
  The reference's Times.
  The reference's Less and Minus.
  What the reference's Add, Sub, Mul, Compare and Near answer, at every argument.
-/
import Derived.Test.YtcgjbllmoglhfaaDoorRows
import Derived.WalkKit
import Derived.ProofKit
import Derived.OpenShut
import Derived.Deep.Slices
import Derived.Deep.Fields
import Derived.ChangeSame
import Derived.OneCell
import Derived.WalkSmall
import Derived.Below
import Derived.Test.YtcgjbllmoglhfaaDoorProg
import Derived.Shelf.Spec.BitsCarry
import Derived.WalkSpells
import Derived.WalkLawsBesides
import Derived.Lib.Hide
import Derived.Deep.QuietTactic
import Derived.BigQuiet
import Derived.Deep.LoopGhost
import Derived.Test.YtcgjbllmoglhfaaDoorZAl
set_option maxRecDepth 100000
set_option maxHeartbeats 25600000
namespace Go.Proofs.YtcgjbllmoglhfaaDoor
open Go.ChangeShapes Go.WideShapes Go.ChangeAt Go.RowKit Go.Deep
theorem own:ownKnob Tryd.prog.godebug=none:=by kernel_rfl
theorem laidOut:laidOutB Tryd.prog=true:=by kernel_rfl
section
variable {H:Type} {enc:TypeId×Value→H} {P:Program}
theorem post_law {f:Func} {s:ChangeSpec} {apart fresh handsOn:Bool} {W W':World} {args:Array Value} {v:Value} {ds gs:List (DataW H)} {before pa pv:List MemPlace}
  (hW:DataW.Whole enc P f.params.toList s.vars apart W args.toList ds gs before) (hb:Below W.heap.size W W')
  (hres:∀(b:Nat) (sp:Nat→Bool) (hd:Bool),DataW.TrodAll enc P W' b sp hd f.resultTypes.toList (v.resultList f.resultTypes.size) (s.fn H (ds++gs)).results [])
  (hargs:DataW.TrodAll enc P W' 0 (fun b=>decide (b < W.heap.size)) true f.params.toList args.toList (s.fn H (ds++gs)).args pa)
  (hvars:DataW.TrodVars enc P W' (fun b=>decide (b < W.heap.size)) s.vars (s.fn H (ds++gs)).vars pv):s.post enc P f apart fresh handsOn false W args v W':=by
 exact⟨ds,gs,before,[],pa,pv,hW,hres _ _ _,hargs,hvars,hb.frame _,fun h=>by cases h⟩
variable {w:World} {base:Nat} {spare:Nat→Bool} {held:Bool}
theorem spot_none {w:World} {a:Addr} {v:Value} (h:w.cell? a=some v):∃b off,a=⟨b,off,none⟩∧b < w.heap.size:=by
 have hb:=World.block_lt_of_cell? w a h
 obtain⟨b,off,s⟩:=a
 cases s with
 |none=>exact⟨b,off,rfl,hb⟩
 |some s=>
  unfold World.cell? at h
  split at h<;>simp at h
end
end Go.Proofs.YtcgjbllmoglhfaaDoor
namespace Go.Proofs.YtcgjbllmoglhfaaDoor
open Go.RowKit
structure Turned (X:List Nat) (w w':World):Prop where
 os:w'.os=w.os
 tape:w'.tape=w.tape
 output:w'.output=w.output
 size:w.heap.size≤w'.heap.size
 block:∀k,k < w.heap.size→k ∉ X→w'.heap[k]?=w.heap[k]?
def Newer (X:List Nat) (n:Nat) (Y:List Nat):Prop:=∀k ∈ Y,k ∈ X∨n≤k
theorem Newer.refl (X:List Nat) (n:Nat):Newer X n X:=fun _ h=> .inl h
theorem Newer.trans {X Y Z:List Nat} {n m:Nat} (h:Newer X n Y) (g:Newer Y m Z) (hn:n≤m):Newer X n Z:=fun k hk=>by
 rcases g k hk with h1|h1
 ·exact h k h1
 ·exact .inr (by omega)
theorem Newer.mono {X Y:List Nat} {n m:Nat} (h:Newer X n Y) (hn:m≤n):Newer X m Y:=fun k hk=>by
 rcases h k hk with h1|h1
 ·exact .inl h1
 ·exact .inr (by omega)
theorem Turned.refl (X:List Nat) (w:World):Turned X w w:=⟨rfl,rfl,rfl,Nat.le_refl _,fun _ _ _=>rfl⟩
theorem Turned.trans {X Y:List Nat} {a b c:World} (h:Turned X a b) (g:Turned Y b c) (hs:Newer X a.heap.size Y):Turned X a c:=
 ⟨g.os.trans h.os,g.tape.trans h.tape,g.output.trans h.output,Nat.le_trans h.size g.size,fun k hk hx=>
   (g.block k (Nat.lt_of_lt_of_le hk h.size) (fun hy=>by rcases hs k hy with h1|h1;exact hx h1;omega)).trans (h.block k hk hx)⟩
theorem Turned.mono {X Y:List Nat} {a b:World} (h:Turned Y a b) (hs:Newer X a.heap.size Y):Turned X a b:=(Turned.refl X a).trans h hs
theorem Turned.drewN {X:List Nat} {a b:World} (h:Turned X a b) (n:Nat):Turned X a (b.drewN n):=⟨h.os,h.tape,h.output,h.size,h.block⟩
theorem Turned.drew {X:List Nat} {a b:World} (h:Turned X a b):Turned X a b.drew:=⟨h.os,h.tape,h.output,h.size,h.block⟩
theorem Turned.alloc {X:List Nat} {a b:World} (h:Turned X a b) (o:Obj):Turned X a (b.alloc o):=
 ⟨h.os,h.tape,h.output,Nat.le_trans h.size (by simp),fun k hk hx=>(Below.heap_alloc b o k (Nat.lt_of_lt_of_le hk h.size)).trans (h.block k hk hx)⟩
theorem Turned.setCell {X:List Nat} {a b:World} (h:Turned X a b) {p:Addr} (hp:p.block ∈ X∨a.heap.size≤p.block) (u:Value):Turned X a (b.setCell p u):=
 ⟨h.os,h.tape,h.output,Nat.le_trans h.size (by simp [World.setCell]),fun k hk hx=>
   (Below.heap_setCell b p u k (fun e=>by subst e;rcases hp with h1|h1;exact hx h1;omega)).trans (h.block k hk hx)⟩
theorem Turned.grown {X:List Nat} {a b c:World} {row:Option Nat} (h:Turned X a b) (hg:b.grownBy c row) (hr:∀k,row=some k→k ∈ X∨a.heap.size≤k):Turned X a c:=
 ⟨hg.os.trans h.os,hg.tape.trans h.tape,hg.output.trans h.output,Nat.le_trans h.size hg.size,fun k hk hx=>
   (hg.block k (Nat.lt_of_lt_of_le hk h.size) (fun e=>by rcases hr k e.symm with h1|h1;exact hx h1;omega)).trans (h.block k hk hx)⟩
theorem Turned.below {X:List Nat} {a b:World} {B:Nat} (h:Turned X a b) (hX:∀k ∈ X,B≤k) (hB:B≤a.heap.size):Below B a b:=
 ⟨h.os,h.tape,h.output,h.size,fun k hk=>h.block k (by omega) (fun hx=>by have:=hX k hx;omega)⟩
theorem Turned.same {X:List Nat} {a b:World} (h:Turned X a b) {k:Nat} {o:Obj} (ho:a.heap[k]?=some o) (hx:k ∉ X):b.heap[k]?=some o:=
 (h.block k (lt_of_block ho) hx).trans ho
theorem ownsRow_same {w w':World} {base:Nat} {e:TypeId} {size:Nat} {v:Value} {n:Nat} {xs:List Value} (h:w.ownsRow base e size v n xs)
  (hs:∀k ∈ v.ownBlock.toList,k < w.heap.size→w'.heap[k]?=w.heap[k]?):w'.ownsRow base e size v n xs:=by
 refine⟨h.1,?_⟩
 rcases h.2 with h2|⟨g,cap,cur,rfl,hb,hg,rest⟩
 ·exact .inl h2
 ·exact .inr ⟨g,cap,cur,rfl,hb,(hs g (by simp [Value.ownBlock]) (lt_of_block hg)).trans hg,rest⟩
theorem ownsRow_lt {w:World} {base:Nat} {e:TypeId} {size:Nat} {v:Value} {n:Nat} {xs:List Value} (h:w.ownsRow base e size v n xs):∀k ∈ v.ownBlock.toList,k < w.heap.size:=by
 intro k hk
 exact (h.lt k (by simpa using hk)).2
theorem ownsRow_type {w:World} {base:Nat} {e:TypeId} {size:Nat} {v:Value} {n:Nat} {xs:List Value} (h:w.ownsRow base e size v n xs):∀k ∈ v.ownBlock.toList,∃cur,w.heap[k]?=some (.cells cur e (0,0)):=by
 intro k hk
 rcases h.2 with⟨rfl,_⟩ |⟨g,cap,cur,rfl,hb,hg,_⟩
 ·simp [Value.ownBlock] at hk
 ·simp [Value.ownBlock] at hk
  subst hk
  exact⟨cur,hg⟩
theorem ownsRow_shape {w:World} {base:Nat} {e:TypeId} {size:Nat} {v:Value} {n:Nat} {xs:List Value} (h:w.ownsRow base e size v n xs):∃a cap,v= .slice a n cap∧n≤cap∧cap≤maxLen:=by
 rcases h.2 with⟨rfl,rfl⟩ |⟨g,cap,cur,rfl,_,_,h1,h2,_⟩
 ·exact⟨none,0,rfl,Nat.le_refl _,by simp [maxLen]⟩
 ·exact⟨_,cap,rfl,h1,h2⟩
theorem ownsRow_pos {w:World} {base:Nat} {e:TypeId} {size:Nat} {v:Value} {n:Nat} {xs:List Value} (h:w.ownsRow base e size v n xs) (hn:0 < n):∃g cap,v= .slice (some ⟨g,0,none⟩) n cap∧n≤cap∧cap≤maxLen:=by
 rcases h.2 with⟨rfl,rfl⟩ |⟨g,cap,cur,rfl,_,_,h1,h2,_⟩
 ·omega
 ·exact⟨g,cap,rfl,h1,h2⟩
def isJ (i:Int):Prop:= -9223372036854775808≤i∧i≤9223372036854775807
theorem Turned.also18 {X:List Nat} {a b c:World} (h:Turned X a b) (g:Turned [] b c):Turned X a c:=h.trans g (fun k hk=>by simp at hk)
theorem up18 {W V:World} {p:Addr} {v:Value} (t:Turned [] W V) (hp:W.cell? p=some v):V.cell? p=some v:=((t.below (by simp) (Nat.le_refl _)).cell (World.block_lt_of_cell? W p hp)).trans hp
end Go.Proofs.YtcgjbllmoglhfaaDoor
namespace Go.Proofs.YtcgjbllmoglhfaaDoor
open Go.ChangeShapes Go.WideShapes Go.ChangeAt Go.RowKit Go.Deep
theorem isJ_of {x:Int} (h:(Lit.int .i64 x).wf=true):isJ x:=by
 simp [Lit.wf,IntKind.min,IntKind.max,IntKind.signed,IntKind.bits] at h
 exact⟨by omega,by omega⟩
theorem word_of18 {x:Int} (h:(Lit.int .u64 x).wf=true):0≤x∧x < 18446744073709551616:=by
 simp [Lit.wf,IntKind.min,IntKind.max,IntKind.signed,IntKind.bits] at h
 exact⟨by omega,by omega⟩
theorem byte_of18 {x:Int} (h:(Lit.int .u8 x).wf=true):0≤x∧x≤255:=by
 simp [Lit.wf,IntKind.min,IntKind.max,IntKind.signed,IntKind.bits] at h
 exact⟨by omega,by omega⟩
theorem two_of18 {xs:List Int} (h:xs.length=2):∃a b,xs=[a,b]:=by
 match xs,h with
 |[a,b],_=>exact⟨a,b,rfl⟩
section
variable {H:Type} {enc:TypeId×Value→H} {P:Program}
variable {w:World} {base:Nat} {spare:Nat→Bool} {held:Bool}
theorem cut_one {cs:List Value} {j:Nat} {v:Value} (h:(cs.drop j).take 1=[v]):cs[j]?=some v:=by
 have h1:((cs.drop j).take 1)[0]?=some v:=by rw [h];rfl
 rw [List.getElem?_take_of_lt (by omega),List.getElem?_drop] at h1
 simpa using h1
theorem open_arr {k0:IntKind} {r:Reach} {b0:Nat} {t e:TypeId} {n:Nat} {v:Value} {d:DataW H} {p:List MemPlace} (ht:P.underlying t=some (.array n e)) (he:P.underlying e=some (.int k0)) (hC:P.cellsOf t=n) (hE:P.cellsOf e=1)
  (hv:Value.okWide P w r b0 t v) (h:DataW.Trod enc P w base spare held t v d p):
  ∃xs:List Int,xs.length=n∧v= .agg ⟨xs.map (Value.int k0)⟩∧d= .agg (xs.map fun x=>DataW.lit (.int k0 x))∧p=[]∧∀x ∈ xs,(Lit.int k0 x).wf=true:=by
 obtain⟨cs,rfl,hsz⟩:∃cs,v= .agg cs∧cs.size=P.cellsOf t:=by
  have hv':=hv
  simp [Value.okWide,ht] at hv'
  obtain⟨cs,h1,h2,_⟩:=hv'
  exact⟨cs,h1,h2⟩
 obtain⟨l⟩:=cs
 obtain⟨fuel,hf⟩:=h
 obtain⟨ys,m,_,hx,hlen,hyl,hg⟩:=DataW.trod_array ht hf
 have hl:l.length=n:=by simpa [hC] using hsz
 have each:∀i,i < n→∃x:Int,l[i]?=some (.int k0 x)∧ys[i]?=some (.lit (.int k0 x),[])∧(Lit.int k0 x).wf=true:=by
  intro i hi
  have hyi:ys[i]?=some (ys[i]'(by omega)):=List.getElem?_eq_getElem (by omega)
  have hli:l[i]?=some (l[i]'(by omega)):=List.getElem?_eq_getElem (by omega)
  have h1:=hg i hi
  rw [hE,hyi] at h1
  have hone:((l.drop (i*1)).take 1)=[l[i]'(by omega)]:=by
   rw [Nat.mul_one,List.drop_eq_getElem_cons (by omega)]
   rfl
  have h2:DataW.trod enc P w base spare held m e ((l.drop (i*1)).take 1)=some (ys[i]'(by omega)):=h1
  rw [hone] at h2
  obtain⟨x,hx1,hx2,hx3⟩:=DataW.trod_int he h2
  simp only [List.cons.injEq,and_true] at hx1
  exact⟨x,by rw [hli,hx1],by rw [hyi,hx2],hx3⟩
 have whole:∀(k:Nat) (l':List Value) (ys':List (DataW H×List MemPlace)),l'.length=k→ys'.length=k→(∀i,i < k→∃x:Int,l'[i]?=some (.int k0 x)∧ys'[i]?=some (.lit (.int k0 x),[])∧(Lit.int k0 x).wf=true)→
   ∃xs:List Int,xs.length=k∧l'=xs.map (Value.int k0)∧ys'=xs.map (fun x=>(DataW.lit (.int k0 x),[]))∧∀x ∈ xs,(Lit.int k0 x).wf=true:=by
  intro k
  induction k with
  |zero=>
   intro l' ys' a b _
   exact⟨[],rfl,List.length_eq_zero_iff.1 a,List.length_eq_zero_iff.1 b,fun x hx=>by cases hx⟩
  |succ k ih=>
   intro l' ys' a b c
   match l',ys',a,b with
   |v0::l1,y0::ys1,a,b=>
    obtain⟨x,c1,c2,c3⟩:=c 0 (by omega)
    simp only [List.getElem?_cons_zero,Option.some.injEq] at c1 c2
    obtain⟨xs,d1,d2,d3,d4⟩:=ih l1 ys1 (by simpa using a) (by simpa using b) (fun i hi=>by simpa using c (i+1) (by omega))
    refine⟨x::xs,by simp [d1],by simp [c1,d2],by simp [c2,d3],?_⟩
    intro z hz
    rcases List.mem_cons.1 hz with e|e
    ·rw [e];exact c3
    ·exact d4 z e
 obtain⟨xs,e1,e2,e3,e4⟩:=whole n l ys hl hyl each
 simp only [Prod.mk.injEq] at hx
 refine⟨xs,e1,by rw [e2],?_,?_,e4⟩
 ·rw [hx.1,e3,List.map_map]
  rfl
 ·rw [hx.2,e3]
  clear hx e1 e2 e3 e4
  induction xs with
  |nil=>rfl
  |cons z zs ih=>simp
end
end Go.Proofs.YtcgjbllmoglhfaaDoor
namespace Go.Proofs.YtcgjbllmoglhfaaDoor
def Word (x:Int):Prop:=0≤x∧x≤18446744073709551615
theorem Word.lo {x:Int} (h:Word x):0≤x:=h.1
theorem Word.hi {x:Int} (h:Word x):x≤18446744073709551615:=h.2
def hiW (x:Int):Int:=x / 18446744073709551616
def loW (x:Int):Int:=x % 18446744073709551616
def satV (x:Int):Int:=if x≤18446744073709551615 then x else 18446744073709551615
def satE (x:Int):Int:=if x≤18446744073709551615 then 0 else 2
theorem satV_fit {x:Int} (h:x≤18446744073709551615):satV x=x:=if_pos h
theorem satE_fit {x:Int} (h:x≤18446744073709551615):satE x=0:=if_pos h
theorem satV_big {x:Int} (h:¬x≤18446744073709551615):satV x=18446744073709551615:=if_neg h
theorem satE_big {x:Int} (h:¬x≤18446744073709551615):satE x=2:=if_neg h
def P (k:Nat):Int:=65536 ^ k
theorem P_succ (k:Nat):P (k+1)=P k*65536:=Int.pow_succ _ _
theorem P_pos (k:Nat):0 < P k:=Int.pow_pos (by omega)
def pv (f:Nat→Int):Nat→Int
 |0=>0
 |k+1=>pv f k+f k*P k
def dg (l:List Int) (k:Nat):Int:=l.getD k 0
def val (l:List Int):Int:=pv (dg l) l.length
def Digit (d:Int):Prop:=0≤d∧d≤65535
def Good (l:List Int):Prop:=∀k,Digit (dg l k)
theorem pv_congr {f g:Nat→Int} :∀n:Nat,(∀k,k < n→f k=g k)→pv f n=pv g n
 |0,_=>rfl
 |n+1,h=>by
  have:=pv_congr n (fun k hk=>h k (by omega))
  simp only [pv]
  rw [this,h n (by omega)]
theorem dg_out {l:List Int} {k:Nat} (h:l.length≤k):dg l k=0:=by
 unfold dg
 simp [List.getD_eq_getElem?_getD,List.getElem?_eq_none h]
theorem pv_out (l:List Int):∀j:Nat,pv (dg l) (l.length+j)=val l
 |0=>rfl
 |j+1=>by
  show pv (dg l) (l.length+j)+dg l (l.length+j)*P (l.length+j)=val l
  rw [pv_out l j,dg_out (by omega)]
  omega
theorem pv_ext {l:List Int} {n:Nat} (h:l.length≤n):pv (dg l) n=val l:=by
 have:=pv_out l (n - l.length)
 rw [show l.length+(n - l.length)=n by omega] at this
 exact this
theorem pv_bd {f:Nat→Int} :∀n:Nat,(∀k,k < n→Digit (f k))→0≤pv f n∧pv f n < P n
 |0,_=>by simp [pv,P]
 |n+1,h=>by
  obtain⟨a,b⟩:=pv_bd n (fun k hk=>h k (by omega))
  obtain⟨c,d⟩:=h n (by omega)
  have hp:=P_pos n
  have e:=P_succ n
  have m0:=Int.mul_nonneg c (Int.le_of_lt hp)
  have m1:f n*P n≤65535*P n:=Int.mul_le_mul_of_nonneg_right d (Int.le_of_lt hp)
  simp only [pv]
  omega
theorem dg_range (f:Nat→Int) (n k:Nat) (h:k < n):dg ((List.range n).map f) k=f k:=by
 unfold dg
 simp [List.getD_eq_getElem?_getD,h]
theorem val_range (f:Nat→Int) (n:Nat):val ((List.range n).map f)=pv f n:=by
 unfold val
 rw [List.length_map,List.length_range]
 exact pv_congr n fun k hk=>dg_range f n k hk
theorem good_range {f:Nat→Int} {n:Nat} (h:∀k,k < n→Digit (f k)):Good ((List.range n).map f):=by
 intro k
 by_cases hk:k < n
 ·rw [dg_range f n k hk];exact h k hk
 ·rw [dg_out (by simp;omega)];exact⟨by omega,by omega⟩
theorem range_succ_map {α:Type} (f:Nat→α) (n:Nat):(List.range (n+1)).map f=(List.range n).map f++[f n]:=by
 rw [List.range_succ,List.map_append];rfl
def sumC (A B:List Int):Nat→Int
 |0=>0
 |k+1=>(dg A k+dg B k+sumC A B k) / 65536
def sumD (A B:List Int) (k:Nat):Int:=(dg A k+dg B k+sumC A B k) % 65536
theorem sumC_bd {A B:List Int} (ha:Good A) (hb:Good B):∀k,0≤sumC A B k∧sumC A B k≤1
 |0=>⟨Int.le_refl _,by simp [sumC]⟩
 |k+1=>by
  obtain⟨c0,c1⟩:=sumC_bd ha hb k
  obtain⟨a0,a1⟩:=ha k
  obtain⟨b0,b1⟩:=hb k
  simp only [sumC]
  omega
theorem sum_inv (A B:List Int):∀k,pv (sumD A B) k+sumC A B k*P k=pv (dg A) k+pv (dg B) k
 |0=>by simp [pv,sumC]
 |k+1=>by
  have h:=sum_inv A B k
  have e:=P_succ k
  simp only [pv,sumC]
  have d:sumD A B k+(dg A k+dg B k+sumC A B k) / 65536*65536=dg A k+dg B k+sumC A B k:=by unfold sumD;omega
  have d2:(sumD A B k+(dg A k+dg B k+sumC A B k) / 65536*65536)*P k=(dg A k+dg B k+sumC A B k)*P k:=by rw [d]
  rw [Int.add_mul,Int.add_mul,Int.add_mul,Int.mul_assoc,Int.mul_comm 65536 (P k), ←e] at d2
  omega
theorem sum_val {A B:List Int} (ha:Good A) (hb:Good B) {n:Nat} (h1:A.length≤n) (h2:B.length≤n):val ((List.range (n+1)).map (sumD A B))=val A+val B:=by
 have h:=sum_inv A B (n+1)
 have hc:sumC A B (n+1)=0:=by
  obtain⟨c0,c1⟩:=sumC_bd ha hb n
  simp only [sumC]
  rw [dg_out h1,dg_out h2]
  omega
 rw [hc,pv_ext (by omega),pv_ext (by omega)] at h
 rw [val_range]
 omega
theorem sum_good {A B:List Int} {n:Nat} :Good ((List.range n).map (sumD A B)):=good_range fun k _=>by unfold sumD Digit;omega
theorem pv_same {f g:Nat→Int} {n:Nat} :∀j:Nat,(∀k,n≤k→k < n+j→f k=g k)→pv f (n+j) - pv f n=pv g (n+j) - pv g n
 |0,_=>by simp
 |j+1,h=>by
  have:=pv_same j (fun k a b=>h k a (by omega))
  show pv f (n+j)+f (n+j)*P (n+j) - pv f n=pv g (n+j)+g (n+j)*P (n+j) - pv g n
  rw [h (n+j) (by omega) (by omega)]
  omega
theorem less_at {f g:Nat→Int} {i n:Nat} (hf:∀k,Digit (f k)) (hg:∀k,Digit (g k)) (hi:i < n) (heq:∀k,i < k→k < n→f k=g k) (h:f i < g i):pv f n < pv g n:=by
 have hs:=pv_same (f:=f) (g:=g) (n:=i+1) (n - (i+1)) (fun k a b=>heq k (by omega) (by omega))
 rw [show i+1+(n - (i+1))=n by omega] at hs
 have hp:=P_pos i
 obtain⟨a0,a1⟩:=pv_bd i (fun k _=>hf k)
 obtain⟨b0,b1⟩:=pv_bd i (fun k _=>hg k)
 have hm:(f i+1)*P i≤g i*P i:=Int.mul_le_mul_of_nonneg_right (by omega) (Int.le_of_lt hp)
 rw [Int.add_mul] at hm
 simp only [pv] at hs
 omega
theorem val_four {l:List Int} (h:l.length=4):val l=dg l 0+dg l 1*65536+dg l 2*4294967296+dg l 3*281474976710656:=by
 unfold val
 rw [h]
 simp only [pv,P]
 omega
theorem val_low {l:List Int} (h:∀k,4≤k→k < l.length→dg l k=0):val l=dg l 0+dg l 1*65536+dg l 2*4294967296+dg l 3*281474976710656:=by
 have h0:∀k,4≤k→dg l k=0:=fun k hk=>by
  by_cases hl:k < l.length
  ·exact h k hk hl
  ·exact dg_out (by omega)
 have hs:∀j:Nat,pv (dg l) (4+j)=pv (dg l) 4:=by
  intro j
  induction j with
  |zero=>rfl
  |succ j ih=>
   show pv (dg l) (4+j)+dg l (4+j)*P (4+j)=_
   rw [ih,h0 (4+j) (by omega)]
   omega
 have e4:pv (dg l) 4=dg l 0+dg l 1*65536+dg l 2*4294967296+dg l 3*281474976710656:=by
  simp only [pv,P]
  omega
 rw [←e4, ←hs l.length,pv_ext (by omega)]
theorem val_high {l:List Int} (hg:Good l) {i:Nat} (h4:4≤i) (hi:i < l.length) (h:0 < dg l i):¬val l≤18446744073709551615:=by
 have hl:=less_at (f:=fun k=>if k < 4 then 65535 else 0) (g:=dg l) (i:=i) (n:=i+1) (fun k=>by unfold Digit;split<;>omega) hg (by omega) (fun k a b=>by omega) (by rw [if_neg (by omega)];exact h)
 have e4:∀j:Nat,pv (fun k=>if k < 4 then (65535:Int) else 0) (4+j)=18446744073709551615:=by
  intro j
  induction j with
  |zero=>simp [pv,P]
  |succ j ih=>
   show pv _ (4+j)+(if 4+j < 4 then (65535:Int) else 0)*P (4+j)=_
   rw [ih,if_neg (by omega)]
   omega
 have e5:=e4 (i+1 - 4)
 rw [show 4+(i+1 - 4)=i+1 by omega] at e5
 rw [e5] at hl
 have hm:∀j:Nat,pv (dg l) (i+1)≤pv (dg l) (i+1+j):=by
  intro j
  induction j with
  |zero=>exact Int.le_refl _
  |succ j ih=>
   show _≤pv (dg l) (i+1+j)+dg l (i+1+j)*P (i+1+j)
   have:=Int.mul_nonneg (hg (i+1+j)).1 (Int.le_of_lt (P_pos (i+1+j)))
   omega
 have h1:=hm (l.length - (i+1))
 rw [show i+1+(l.length - (i+1))=l.length by omega] at h1
 have:val l=pv (dg l) l.length:=rfl
 omega
end Go.Proofs.YtcgjbllmoglhfaaDoor
namespace Go.Proofs.YtcgjbllmoglhfaaDoor
open Go.RowKit Go.Shelf
theorem add64 (x y:Int) (hx:Word x) (hy:Word y) (w:World):(callFunc 53 #[.int .u64 x, .int .u64 y, .int .u64 0]).run Tryd.prog w=
  .ok (.value (.tuple #[.int .u64 (loW (x+y)), .int .u64 (hiW (x+y))])) w:=by
 obtain⟨x0,x1⟩:=hx
 obtain⟨y0,y1⟩:=hy
 obtain⟨x,rfl⟩:=Int.eq_ofNat_of_zero_le x0
 obtain⟨y,rfl⟩:=Int.eq_ofNat_of_zero_le y0
 have h:=run_callFunc_extern (P:=Tryd.prog) Tryd.func53 (by kernel_rfl) (by kernel_rfl) (by kernel_rfl) (e:=add64Entry) (by kernel_rfl) (args:= #[.int .u64 (x:Int), .int .u64 (y:Int), .int .u64 0]) (w:=w)
 have h2:=run_add64 (P:=Tryd.prog) x y 0 (by omega) (by omega) (by omega) (by omega) w
 rw [h2] at h
 simp only [Result.andThen,Int.add_zero] at h
 exact h
def Digs (w:World) (v:Value) (l:List Int):Prop:=
 (v= .slice none 0 0∧l=[])∨∃g o c,v= .slice (some ⟨g,o,none⟩) l.length c∧l.length≤c∧c≤maxLen∧g < w.heap.size∧∀i,i < l.length→w.cell? ⟨g,o+i,none⟩=some (.int .u64 (dg l i))
theorem Digs.below {w w':World} {v:Value} {l:List Int} (h:Digs w v l) (hb:Below w.heap.size w w'):Digs w' v l:=by
 rcases h with h|⟨g,o,c,h1,h2,h3,h4,h5⟩
 ·exact .inl h
 ·exact .inr ⟨g,o,c,h1,h2,h3,Nat.lt_of_lt_of_le h4 hb.size,fun i hi=>(hb.cell (p:=⟨g,o+i,none⟩) h4).trans (h5 i hi)⟩
theorem Digs.owned {w:World} {base:Nat} {v:Value} {n:Nat} {l:List Int} (h:w.ownsRow base 30 1 v n (l.map (Value.int .u64))):Digs w v l:=by
 have hlt:=h.lt
 have hlen:l.length=n:=by have:=h.1;simpa using this
 rcases h.2 with⟨h1,h2⟩ |⟨g,cap,cur,h1,h2,h3,h4,h5,h6,h7⟩
 ·refine .inl ⟨h1,?_⟩
  exact List.eq_nil_of_length_eq_zero (by omega)
 ·subst h1
  refine .inr ⟨g,0,cap,by rw [hlen],by omega,h5,(hlt g rfl).2,fun i hi=>?_⟩
  have:=h.cellAt i (by omega)
  rw [Nat.zero_add,this]
  unfold dg
  simp [List.getD_eq_getElem?_getD,hi]
structure Num (w:World) (v:Value) (X:Int) (m:Nat):Prop where
 digs:∃L,Digs w v L∧Good L∧val L=X∧L.length≤m
theorem Num.below {w w':World} {v:Value} {X:Int} {m:Nat} (h:Num w v X m) (hb:Below w.heap.size w w'):Num w' v X m:=by
 obtain⟨L,h1,h2,h3,h4⟩:=h.digs
 exact⟨L,h1.below hb,h2,h3,h4⟩
theorem Num.mono {w:World} {v:Value} {X:Int} {m m':Nat} (h:Num w v X m) (hm:m≤m'):Num w v X m':=by
 obtain⟨L,h1,h2,h3,h4⟩:=h.digs
 exact⟨L,h1,h2,h3,by omega⟩
theorem word_info:(Tryd.prog.info? 30).map (fun i=>(i.zero,i.size,i.bytes))=some (some (.int .u64 0),1,8):=by kernel_rfl
theorem at_any {w:World} {v:Value} {L:List Int} (h:Digs w v L) (i:Nat) (hl:L.length≤100000):
  Calls Tryd.prog 54 #[v, .int .i64 i] w fun e w'=>e= .returned (.int .u64 (dg L i))∧w=w':=by
 by_cases hk:i < L.length
 ·rcases h with⟨h1,h2⟩ |⟨g,o,c,h1,h2,h3,h4,h5⟩
  ·subst h2
   simp at hk
  ·subst h1
   have hc:=h5 i hk
   clear h5
   go_enter Tryd.func54,Tryd.ntmps54
   go_wp2
   go_ret
   exact⟨rfl,rfl⟩
 ·rw [dg_out (by omega)]
  rcases h with⟨h1,h2⟩ |⟨g,o,c,h1,h2,h3,h4,h5⟩
  ·subst h1 h2
   go_enter Tryd.func54,Tryd.ntmps54
   go_wp2
   go_ret
   exact⟨rfl,rfl⟩
  ·subst h1
   clear h5
   go_enter Tryd.func54,Tryd.ntmps54
   go_wp2
   go_ret
   exact⟨rfl,rfl⟩
theorem Digs.form {w:World} {v:Value} {L:List Int} (h:Digs w v L):∃A c,v= .slice A L.length c:=by
 rcases h with⟨h1,h2⟩ |⟨g,o,c,h1,_⟩
 ·exact⟨none,0,by rw [h1,h2];rfl⟩
 ·exact⟨_,c,h1⟩
theorem longer_any {w:World} {a b:Value} {A B:List Int} (ha:Digs w a A) (hb:Digs w b B):
  Calls Tryd.prog 55 #[a,b] w fun e w'=>e= .returned (.int .i64 ((max A.length B.length:Nat):Int))∧w=w':=by
 obtain⟨x,c,rfl⟩:=ha.form
 obtain⟨y,d,rfl⟩:=hb.form
 clear ha hb
 by_cases h:B.length < A.length
 ·rw [show max A.length B.length=A.length by omega]
  go_enter Tryd.func55,Tryd.ntmps55
  go_wp2
  go_ret
  exact⟨rfl,rfl⟩
 ·rw [show max A.length B.length=B.length by omega]
  go_enter Tryd.func55,Tryd.ntmps55
  go_wp2
  go_ret
  exact⟨rfl,rfl⟩
theorem app_belowF {w wr w2:World} {e:TypeId} {v:Value} {n:Nat} {xs:List Value} {o:Obj} (hb:Below w.heap.size w wr) (hown:wr.ownsRow w.heap.size e 1 v n xs) (hg:(wr.alloc o).grownBy w2 v.ownBlock):Below w.heap.size w w2:=
 (hb.alloc hb.size o).grown hg (by have:=hb.size;simp;omega) (fun k hk=>(hown.lt k hk).1)
theorem sum_any {w:World} {a b:Value} {X Y:Int} {p q:Nat} (ha:Num w a X p) (hb:Num w b Y q) (hp:p≤1000) (hq:q≤1000):
  Calls Tryd.prog 46 #[a,b] w fun e w'=>∃v,e= .returned v∧Num w' v (X+Y) (max p q+1)∧Below w.heap.size w w':=by
 obtain⟨A,da,ga,va,la⟩:=ha.digs
 obtain⟨B,db,gb,vb,lb⟩:=hb.digs
 clear ha hb
 have hn1:A.length≤max A.length B.length:=by omega
 have hn2:B.length≤max A.length B.length:=by omega
 have hn3:max A.length B.length≤1000:=by omega
 have hn4:max A.length B.length≤max p q:=by omega
 have HL:=xhd (longer_any da db)
 have Hfin:Hid (val ((List.range (max A.length B.length+1)).map (sumD A B))=X+Y):=by rw [←va, ←vb];exact sum_val ga gb hn1 hn2
 generalize max A.length B.length=n at HL Hfin hn1 hn2 hn3 hn4
 clear va vb
 obtain⟨i0,hi0,hz0,hz1,hz2⟩:=info_parts word_info
 go_enter Tryd.func46,Tryd.ntmps46
 go_wp2_with (go_at_call 55;refine HL.out.mono ?_;rintro e w1 ⟨rfl,rfl⟩)
 go_loopw [5,6,8] (fun o c i wr=>∃k:Nat,k≤n+1∧i= .int .i64 k∧c= .int .u64 (sumC A B k)∧wr.ownsRow w.heap.size 30 1 o k (((List.range k).map (sumD A B)).map (Value.int .u64))∧Below w.heap.size w wr) (fun _ _ i _=>n+1 - (intOf i).toNat)
 case atStart=>exact⟨0,Nat.zero_le _,rfl,rfl,World.ownsRow_nil _ _ _ _,Below.refl _ _⟩
 case round=>
  obtain⟨k,hk,rfl,rfl,hown,hbel⟩:=hrel
  by_cases hlt:k≤n
  ·have HA:=xhd (at_any (da.below hbel) k (by omega))
   have HB:=xhd (at_any (db.below hbel) k (by omega))
   obtain⟨a0,a1⟩:=ga k
   obtain⟨b0,b1⟩:=gb k
   obtain⟨c0,c1⟩:=sumC_bd ga gb k
   go_wp2_with fail
   refine (HA.out).mono ?_
   rintro e w2 ⟨rfl,rfl⟩
   go_wp2_with fail
   refine (HB.out).mono ?_
   rintro e w2 ⟨rfl,rfl⟩
   go_wp2_with (at_builtin;refine wpList_append_own _ rfl _ _ 72 rfl w.heap.size 30 i0 (.int .u64 0) 1 8 Tryd.underlying72 hi0 hz0 hz1 hz2 rfl (by decide) _ _ _ rfl (hown.alloc _) ⟨wr.heap.size,0,none⟩ 1 1 [.int .u64 ((dg A k+dg B k+sumC A B k) % 65536)] rfl rfl ?c1 ?c2 ?c3 ?c4 ?c5 ?_)
   case c1=>
    intro j u hj
    match j,hj with
    |0,hj=>simp at hj;subst hj;simp [Addr.add]
   case c2=>intro u hu;simp at hu;subst hu;rfl
   case c3=>unfold maxLen;omega
   case c4=>omega
   case c5=>have:=hbel.size;simp;omega
   intro v' w2 hown2 hgrow _
   have hb2:=app_belowF hbel hown hgrow
   have hown3:w2.ownsRow w.heap.size 30 1 v' (k+1) (((List.range (k+1)).map (sumD A B)).map (Value.int .u64)):=by
    rw [range_succ_map,List.map_append,List.map_map]
    exact hown2
   clear hown2 hgrow hown
   go_wp2
   go_roundw
   case rel=>exact⟨k+1,by omega,by go_num,rfl,hown3,hb2⟩
   case measure=>simp [intOf];omega
  ·have hkn:k=n+1:=by omega
   subst hkn
   go_wp2
   go_ret
   exact⟨_,rfl,⟨_,Digs.owned hown,sum_good,Hfin.out,by simp;omega⟩,hbel⟩
theorem number_any (a:Int) (h:Word a) (w:World):
  Calls Tryd.prog 47 #[.int .u64 a] w fun e w'=>∃v,e= .returned v∧Num w' v a 4∧Below w.heap.size w w':=by
 obtain⟨h0,h1⟩:=h
 go_enter Tryd.func47,Tryd.ntmps47
 go_wp2
 go_ret
 refine⟨_,rfl,⟨[a % 65536,a / 65536 % 65536,a / 4294967296 % 65536,a / 281474976710656], .inr ⟨w.heap.size,0,4,rfl,Nat.le_refl _,by unfold maxLen;omega,by simp,?_⟩,?_,?_,Nat.le_refl _⟩,(Below.refl _ _).alloc (Nat.le_refl _) _⟩
 ·intro i hi
  match i,hi with
  |0,_=>simp [go_sem,dg]
  |1,_=>simp [go_sem,dg]
  |2,_=>simp [go_sem,dg]
  |3,_=>simp [go_sem,dg]
 ·intro k
  match k with
  |0=>unfold Digit dg;simp;omega
  |1=>unfold Digit dg;simp;omega
  |2=>unfold Digit dg;simp;omega
  |3=>unfold Digit dg;simp;omega
  |k+4=>rw [dg_out (by simp)];unfold Digit;omega
 ·rw [val_four rfl]
  simp [dg]
  omega
def Zeros (L:List Int) (k:Nat):Prop:=∀j,4≤j→j < k→dg L j=0
theorem Zeros.succ {L:List Int} {k:Nat} (h:Zeros L k) (h0:dg L k=0):Zeros L (k+1):=fun j h4 hj=>by
 by_cases e:j=k
 ·rw [e];exact h0
 ·exact h j h4 (by omega)
theorem fits_any {w:World} {v:Value} {X:Int} {m:Nat} (h:Num w v X m) (hm:m≤1000):
  Calls Tryd.prog 45 #[v] w fun e w'=>e= .returned (.tuple #[.int .u64 (satV X), .int .i64 (satE X)])∧w=w':=by
 obtain⟨L,dl,gl,vl,ll⟩:=h.digs
 have HL:=xhd vl
 have A0:=xhd (at_any dl 0 (by omega))
 have A1:=xhd (at_any dl 1 (by omega))
 have A2:=xhd (at_any dl 2 (by omega))
 have A3:=xhd (at_any dl 3 (by omega))
 have hcell:∀A c,v= .slice A L.length c→∀k,k < L.length→∃g o,A=some ⟨g,o,none⟩∧w.cell? ⟨g,o+k,none⟩=some (.int .u64 (dg L k)):=by
  intro A c hv k hk
  rcases dl with⟨_,h2⟩ |⟨g,o,c',h1,_,_,_,h5⟩
  ·subst h2;simp at hk
  ·rw [hv] at h1
   simp only [Value.slice.injEq] at h1
   exact⟨g,o,h1.1,h5 k hk⟩
 obtain⟨A,c,rfl⟩:=dl.form
 have HC:=xhd (hcell A c rfl)
 clear h vl hcell dl
 have hd:=fun k=>(gl k)
 obtain⟨x0,y0⟩:=hd 0
 obtain⟨x1,y1⟩:=hd 1
 obtain⟨x2,y2⟩:=hd 2
 obtain⟨x3,y3⟩:=hd 3
 clear hd
 go_enter Tryd.func45,Tryd.ntmps45
 go_wp2
 go_loop [4] (fun i=>∃k:Nat,i= .int .i64 k∧4≤k∧k≤1004∧Zeros L k) (fun i=>1004 - (intOf i).toNat)
 case atStart=>exact⟨4,rfl,by omega,by omega,fun j a b=>by omega⟩
 case round=>
  obtain⟨k,rfl,h4,hk,hz⟩:=hrel
  by_cases hlt:k < L.length
  ·obtain⟨g,o,rfl,hc⟩:=HC.out k hlt
   obtain⟨xk,yk⟩:=gl k
   by_cases hp:0 < dg L k
   ·go_wp2
    go_ret2
    have hb:=val_high gl h4 hlt hp
    rw [HL.out] at hb
    rw [satV_big hb,satE_big hb]
    exact⟨rfl,rfl⟩
   ·have h0:dg L k=0:=by omega
    have hz':=hz.succ h0
    clear h0
    go_wp2
    go_round
    case rel=>exact⟨k+1,by go_num,by omega,by omega,hz'⟩
    case measure=>simp [intOf];omega
  ·go_wp2_with fail
   refine A0.out.mono ?_
   rintro e w1 ⟨rfl,rfl⟩
   go_wp2_with fail
   refine A1.out.mono ?_
   rintro e w1 ⟨rfl,rfl⟩
   go_wp2_with fail
   refine A2.out.mono ?_
   rintro e w1 ⟨rfl,rfl⟩
   go_wp2_with fail
   refine A3.out.mono ?_
   rintro e w1 ⟨rfl,rfl⟩
   go_wp2
   go_ret2
   have hv:=val_low (l:=L) (fun j a b=>hz j a (by omega))
   rw [HL.out] at hv
   have hfit:X≤18446744073709551615:=by omega
   rw [satV_fit hfit,satE_fit hfit,hv]
   exact⟨rfl,rfl⟩
theorem Digs.cellAt {w:World} {A:Option Addr} {c:Nat} {L:List Int} (h:Digs w (.slice A L.length c) L):∀wr:World,Below w.heap.size w wr→∀k,k < L.length→∃g o,A=some ⟨g,o,none⟩∧wr.cell? ⟨g,o+k,none⟩=some (.int .u64 (dg L k)):=by
 intro wr hb k hk
 rcases h.below hb with⟨_,h2⟩ |⟨g,o,c',h1,_,_,_,h5⟩
 ·subst h2;simp at hk
 ·simp only [Value.slice.injEq] at h1
  exact⟨g,o,h1.1,h5 k hk⟩
theorem refadd_any (a b:Int) (ha:Word a) (hb:Word b) (w:World):
  Calls Tryd.prog 31 #[.int .u64 a, .int .u64 b] w fun e w'=>e= .returned (.tuple #[.int .u64 (satV (a+b)), .int .i64 (satE (a+b))])∧Below w.heap.size w w':=by
 have N1:=xhd (number_any a ha)
 have N2:=xhd (number_any b hb)
 go_enter Tryd.func31,Tryd.ntmps31
 go_wp2_with fail
 refine (N1.out _).mono ?_
 rintro e w1 ⟨v1,rfl,n1,b1⟩
 go_wp2_with fail
 refine (N2.out _).mono ?_
 rintro e w2 ⟨v2,rfl,n2,b2⟩
 have S:=xhd (sum_any (n1.below b2) n2 (by omega) (by omega))
 go_wp2_with fail
 refine S.out.mono ?_
 rintro e w3 ⟨v3,rfl,n3,b3⟩
 have F:=xhd (fits_any n3 (by omega))
 go_wp2_with fail
 refine F.out.mono ?_
 rintro e w4 ⟨rfl,rfl⟩
 go_wp2
 go_ret2
 have z1:=b1.size
 have z2:=b2.size
 exact⟨rfl,(b1.trans (b2.mono z1)).trans (b3.mono (by omega))⟩
end Go.Proofs.YtcgjbllmoglhfaaDoor
