/-
  Loops over a set's numbers against loops over all parties. No program.
  The document's sets: List.
  The laws of layer 6: IdsetTurned, given what is said of the program.
  The law IdsetOf, given what is said of the program.
  The program's sets: alone, Has, With, Without, Within, Of.
  How many bits of a number are 1: counted one by one, and by sums side by side. No program.
  The program's sets: Len, First (over math/bits: OnesCount64, TrailingZeros64).
  The program's sets: First, All, and what a loop over All hands out.
  What Add, Sub, Mul, Compare and Near of package fixq answer, at every argument.
  The program's within, Core, Lock, Reach, Slack, Clamp.
  The program's ledger in memory; Len, is, within, look, V, Held, Weight, Floor, Active.
  A function's own boxes, the first blocks that it makes, while loops over functions run: what they hold. No program.
  The program's ledger: what is read of it; look, V, Held, Weight; ours: the parties among a set's numbers. (Made by gen_lploop.py.)
-/
import Derived.Test.YtcgjbllmoglhfaaDoorZAB
import Derived.Test.YtcgjbllmoglhfaaDoorZAA
import Derived.OwnWalk
import Derived.Laws.AppendOwn
import Derived.LoopTactic
import Derived.Test.YtcgjbllmoglhfaaDoorZAC
import Derived.Sort.LoopGhostIn
import Derived.Lib.Hide
import Derived.Test.YtcgjbllmoglhfaaDoorZAl
set_option maxRecDepth 100000
set_option maxHeartbeats 25600000
namespace Go.Proofs.YtcgjbllmoglhfaaDoor
section
variable {g:Lg} {n:Int} {l:List Pty} {S T k:Nat} {x:Pty} {p:Int}
def inTo (S:Nat):Nat→Nat
 |0=>0
 |k+1=>if hasN S k=true then withN (inTo S k) k else inTo S k
theorem inTo_lt (S:Nat):∀k,inTo S k < 18446744073709551616
 |0=>by show (0:Nat) < _;decide
 |k+1=>by
  unfold inTo
  split
  ·exact withN_lt (inTo_lt S k)
  ·exact inTo_lt S k
theorem hasN_nat {k:Nat} (h:k < 64):hasN S (k:Int)=S.testBit k:=by
 have h0:okI (k:Int)=true:=by simp [okI];omega
 unfold hasN
 rw [h0,Bool.true_and,Int.toNat_natCast]
theorem hasN_ge {k:Nat} (h:64≤k):hasN S (k:Int)=false:=by
 have h0:okI (k:Int)=false:=by simp [okI];omega
 unfold hasN
 rw [h0,Bool.false_and]
theorem has_zero (k:Nat):hasN 0 (k:Int)=false:=by simp [hasN]
theorem has_inTo (S:Nat) (j:Nat):∀k:Nat,hasN (inTo S k) (j:Int)=(decide (j < k)&&hasN S (j:Int))
 |0=>by
  show hasN 0 _=_
  rw [has_zero];simp
 |k+1=>by
  unfold inTo
  by_cases hs:hasN S k=true
  ·rw [if_pos hs,has_with,has_inTo S j k]
   by_cases e:j=k
   ·subst e
    have h64:j < 64:=Nat.lt_of_not_le fun h=>by rw [hasN_ge h] at hs;cases hs
    have h0:okI (j:Int)=true:=by simp [okI];omega
    simp [h0,hs]
   ·have e1:¬(k:Int)=j:=by omega
    have e2:(decide (j < k+1))=decide (j < k):=decide_eq_decide.2 (by omega)
    rw [e2]
    simp [e1]
  ·rw [if_neg hs,has_inTo S j k]
   by_cases e:j=k
   ·subst e
    simp [hs]
   ·have e2:(decide (j < k+1))=decide (j < k):=decide_eq_decide.2 (by omega)
    rw [e2]
theorem fold_list {α:Type} (T:Nat) (st:α→Int→α) (F:Nat→α):∀k,k≤64→(∀j:Nat,j < k→F (j+1)=if hasN T j=true then st (F j) j else F j)→
  (((List.range k).filter fun j=>T.testBit j).map fun j:Nat=>(j:Int)).foldl st (F 0)=F k
 |0,_,_=>rfl
 |k+1,hk,h=>by
  have ih:=fold_list T st F k (by omega) fun j hj=>h j (by omega)
  rw [List.range_succ,List.filter_append,List.map_append,List.foldl_append,ih,h k (by omega),hasN_nat (by omega)]
  cases hb:T.testBit k<;>simp [hb]
theorem fold_all {α:Type} (T:Nat) (st:α→Int→α) (F:Nat→α) (h:∀j:Nat,j < 64→F (j+1)=if hasN T j=true then st (F j) j else F j):(listN T).foldl st (F 0)=F 64:=
 fold_list T st F 64 (Nat.le_refl _) h
theorem fold_to {α:Type} (T n:Nat) (hn:n≤64) (hT:∀j:Nat,n≤j→hasN T j=false) (st:α→Int→α) (F:Nat→α) (h:∀j:Nat,j < n→F (j+1)=if hasN T j=true then st (F j) j else F j):(listN T).foldl st (F 0)=F n:=by
 have h1:=fold_all T st (fun k=>F (min k n)) fun j hj=>by
  by_cases e:j < n
  ·have e1:min (j+1) n=j+1:=by omega
   have e2:min j n=j:=by omega
   simp only [e1,e2]
   exact h j e
  ·have e1:min (j+1) n=n:=by omega
   have e2:min j n=n:=by omega
   simp only [e1,e2]
   rw [hT j (by omega)]
   simp
 have e1:min 0 n=0:=by omega
 have e2:min 64 n=n:=by omega
 simp only [e1,e2] at h1
 exact h1
theorem mem_list:p ∈ listN T↔∃j:Nat,p=j∧j < 64∧hasN T j=true:=by
 unfold listN
 constructor
 ·intro h
  obtain⟨j,hj,rfl⟩:=List.mem_map.1 h
  obtain⟨h1,h2⟩:=List.mem_filter.1 hj
  have h3:=List.mem_range.1 h1
  exact⟨j,rfl,h3,by rw [hasN_nat h3];exact h2⟩
 ·rintro ⟨j,rfl,h3,h2⟩
  rw [hasN_nat h3] at h2
  exact List.mem_map.2 ⟨j,List.mem_filter.2 ⟨List.mem_range.2 h3,h2⟩,rfl⟩
theorem mem_pre {pre:List Int} (h:pre++[p] <+:listN T):p ∈ listN T:=h.subset (by simp)
theorem pre_mem {pre:List Int} (h:pre++[p] <+:listN T):∀q ∈ pre,q ∈ listN T:=fun q hq=>h.subset (by simp [hq])
def ourSt (n:Nat) (s:Nat) (p:Int):Nat:=if 0≤p∧p < n then withN s p else s
theorem ours_all (S n:Nat):(listN S).foldl (ourSt n) 0=inTo S n:=by
 have hF:∀k,n≤k→inTo S n=inTo S (min k n):=fun k h=>by rw [Nat.min_eq_right h]
 have h:=fold_all S (ourSt n) (fun k=>inTo S (min k n)) fun j hj=>by
  unfold ourSt
  by_cases e:j < n
  ·have e1:min (j+1) n=j+1:=by omega
   have e2:min j n=j:=by omega
   simp only [e1,e2]
   rw [if_pos (show (0:Int)≤j∧(j:Int) < n by omega)]
   rfl
  ·have e1:min (j+1) n=n:=by omega
   have e2:min j n=n:=by omega
   simp only [e1,e2]
   rw [if_neg (show ¬((0:Int)≤j∧(j:Int) < n) by omega)]
   simp
 by_cases e:n≤64
 ·have e2:min 64 n=n:=by omega
  have e1:min 0 n=0:=by omega
  simp only [e1,e2] at h
  exact h
 ·have e2:min 64 n=64:=by omega
  have e1:min 0 n=0:=by omega
  simp only [e1,e2] at h
  refine (show (listN S).foldl (ourSt n) 0=inTo S 64 from h).trans ?_
  have:∀d,inTo S (64+d)=inTo S 64:=fun d=>by
   induction d with
   |zero=>rfl
   |succ d ih=>
    rw [show 64+(d+1)=(64+d)+1 by omega,inTo,hasN_ge (by omega),if_neg (by simp),ih]
  rw [show n=64+(n - 64) by omega,this]
theorem our_lt {pre:List Int} {m:Nat} :∀ {s:Nat},s < 18446744073709551616→pre.foldl (ourSt m) s < 18446744073709551616:=by
 induction pre with
 |nil=>intro s h;exact h
 |cons p pre ih=>
  intro s h
  refine ih ?_
  unfold ourSt
  split
  ·exact withN_lt h
  ·exact h
theorem foldl_snoc {α β:Type} (f:α→β→α) (a:α) (pre:List β) (x:β):(pre++[x]).foldl f a=f (pre.foldl f a) x:=by
 rw [List.foldl_append]
 rfl
def leastSt (l:List Pty) (m p:Int):Int:=if m < 0∨vAt l p < vAt l m then p else m
theorem least_all (l:List Pty) (S:Nat) (hn:l.length≤64):(listN (inTo S l.length)).foldl (leastSt l) (-1)=bestTo l S l.length:=by
 refine fold_to (inTo S l.length) l.length hn (fun j hj=>?_) (leastSt l) (bestTo l S) fun j hj=>?_
 ·rw [has_inTo];simp;omega
 ·rw [has_inTo,bestTo]
  have:decide (j < l.length)=true:=by simpa using hj
  rw [this,Bool.true_and]
  unfold leastSt
  by_cases hs:hasN S j=true
  ·by_cases hc:bestTo l S j < 0∨vAt l j < vAt l (bestTo l S j)
   ·rw [if_pos ⟨hs,hc⟩,if_pos hs,if_pos hc]
   ·rw [if_neg (fun h=>hc h.2),if_pos hs,if_neg hc]
  ·rw [if_neg (fun h=>hs h.1),if_neg hs]
theorem least_mem (l:List Pty):∀(pre:List Int) (m:Int),pre.foldl (leastSt l) m=m∨pre.foldl (leastSt l) m ∈ pre
 |[],m=> .inl rfl
 |p::pre,m=>by
  rcases least_mem l pre (leastSt l m p) with h|h
  ·rw [List.foldl_cons,h]
   unfold leastSt
   split
   ·exact .inr (by simp)
   ·exact .inl rfl
  ·exact .inr (List.mem_cons_of_mem _ h)
def gapSt (l:List Pty) (p:Int) (t q:Int):Int:=t+gapAt l p q
theorem vAt_out (h:¬(0≤p∧p < l.length)):vAt l p=0:=by
 unfold vAt
 split
 ·rfl
 ·rw [List.getElem?_eq_none (by omega)];rfl
theorem gap_self (l:List Pty) (p:Int):gapAt l p p=0:=by
 unfold gapAt
 rw [if_pos (Int.le_refl _)]
theorem vAtW (h:∀x ∈ l,Word x.2.1) (p:Int):Word (vAt l p):=by
 unfold vAt
 split
 ·exact word_zero
 ·cases hx:l[p.toNat]? with
  |none=>exact word_zero
  |some x=>exact h x (List.mem_iff_getElem?.2 ⟨_,hx⟩)
theorem gap_all (ho:LgOk g n) (p:Int) (S:Nat):(listN (inTo S g.l.length)).foldl (gapSt g.l p) 0=g.behind p S:=by
 have hT:∀j:Nat,g.l.length≤j→hasN (inTo S g.l.length) j=false:=fun j hj=>by rw [has_inTo];simp;omega
 have hl:=ho.len
 unfold Lg.behind
 cases hp:isP g p with
 |true=>
  rw [if_pos rfl]
  refine fold_to _ g.l.length (by omega) hT (gapSt g.l p) (behindTo g.l p S) fun j hj=>?_
  rw [has_inTo,behindTo]
  have:decide (j < g.l.length)=true:=by simpa using hj
  rw [this,Bool.true_and]
  unfold gapSt
  by_cases hs:hasN S j=true
  ·by_cases e:(j:Int)=p
   ·rw [if_neg (fun h=>h.1 e),if_pos hs,e,gap_self,Int.add_zero]
   ·rw [if_pos ⟨e,hs⟩,if_pos hs]
  ·rw [if_neg (fun h=>hs h.2),if_neg hs]
 |false=>
  rw [if_neg (by simp)]
  refine fold_to _ g.l.length (by omega) hT (gapSt g.l p) (fun _=>0) fun j hj=>?_
  have h0:vAt g.l p=0:=vAt_out (by
   intro h
   unfold isP at hp
   simp at hp
   omega)
  have h1:gapAt g.l p j=0:=by
   unfold gapAt
   rw [h0,if_pos (vAtW ho.v j).1]
  unfold gapSt
  rw [h1]
  simp
theorem upDiv_le {x a:Int} (ha:45045≤a) (h0:0≤x) (hx:x≤18446744073709551615):0≤upDiv x a∧upDiv x a≤409518127954482:=by
 have h1:x / a≤409518127954481:=by
  refine Int.ediv_le_of_le_mul (by omega) ?_
  have:(409518127954481:Int)*45045≤409518127954481*a:=Int.mul_le_mul_of_nonneg_left ha (by decide)
  omega
 have h2:=Int.ediv_nonneg h0 (show (0:Int)≤a by omega)
 unfold upDiv
 split<;>omega
theorem upDiv_sub {x a:Int} (ha:0 < a):(x - 1) / a+1=upDiv x a:=by
 unfold upDiv
 have e:=Int.mul_ediv_add_emod x a
 have m0:=Int.emod_nonneg x (show a≠0 by omega)
 have m1:=Int.emod_lt_of_pos x ha
 by_cases hm:0 < x % a
 ·rw [if_pos hm]
  have h1:(x - 1) / a=x / a:=by
   have e1:x - 1=(x % a - 1)+a*(x / a):=by omega
   rw [e1,Int.add_mul_ediv_left _ _ (by omega),Int.ediv_eq_zero_of_lt (by omega) (by omega)]
   omega
  rw [h1]
 ·rw [if_neg hm]
  have h1:(x - 1) / a=x / a - 1:=by
   have e1:x - 1=(a - 1)+a*(x / a - 1):=by rw [Int.mul_sub];omega
   rw [e1,Int.add_mul_ediv_left _ _ (by omega),Int.ediv_eq_zero_of_lt (by omega) (by omega)]
   omega
  rw [h1]
  omega
theorem wtAt_ok (h:∀x ∈ l,1≤x.1∧x.1≤16) {j:Nat} (hj:j < l.length):1≤wtAt l j∧wtAt l j≤16:=by
 rw [wtAt_nat,List.getElem?_eq_getElem hj]
 exact h _ (List.getElem_mem hj)
theorem gap_range (ho:LgOk g n) (p:Int) {j:Nat} (hj:j < g.l.length):0≤gapAt g.l p j∧gapAt g.l p j≤409518127954482:=by
 unfold gapAt
 have h1:=vAtW ho.v p
 have h2:=vAtW ho.v j
 unfold Word at h1 h2
 obtain⟨w0,w1⟩:=wtAt_ok ho.wt hj
 have h3:=lock_pos w0 w1
 split
 ·omega
 ·exact upDiv_le h3 (by omega) (by omega)
theorem gap_fold (ho:LgOk g n) (p:Int):∀(pre:List Int) (t:Int),(∀q ∈ pre,∃j:Nat,q=j∧j < g.l.length)→0≤t→0≤pre.foldl (gapSt g.l p) t∧pre.foldl (gapSt g.l p) t≤t+409518127954482*pre.length
 |[],t,_,h=>by simp [h]
 |q::pre,t,hq,h=>by
  obtain⟨j,rfl,hj⟩:=hq q (by simp)
  have h1:=gap_range ho p hj
  have ih:=gap_fold ho p pre (gapSt g.l p t j) (fun q hh=>hq q (List.mem_cons_of_mem _ hh)) (by unfold gapSt;omega)
  rw [List.foldl_cons]
  unfold gapSt at ih ⊢
  simp only [List.length_cons]
  omega
theorem in_party {m:Nat} (h:p ∈ listN (inTo S m)):∃j:Nat,p=j∧j < m∧hasN S j=true:=by
 obtain⟨j,rfl,_,h2⟩:=mem_list.1 h
 rw [has_inTo] at h2
 simp at h2
 exact⟨j,rfl,h2.1,h2.2⟩
def comeP (g:Lg) (x:Pty):Pty:=(x.1,clampR x.2.1 g.f (slackR x.1 g.s g.c),x.2.2.1,x.2.2.2)
def comeSt (g:Lg) (l:List Pty) (p:Int):List Pty:=l.modify p.toNat (comeP g)
def comeTo (g:Lg) (T:Nat):Nat→List Pty
 |0=>g.l
 |k+1=>if hasN T k=true then comeSt g (comeTo g T k) k else comeTo g T k
theorem come_len (g:Lg) (l:List Pty) (p:Int):(comeSt g l p).length=l.length:=by simp [comeSt]
theorem comeTo_at (g:Lg) (T:Nat):∀(k i:Nat),(comeTo g T k)[i]?=if i < k∧hasN T i=true then (g.l[i]?).map (comeP g) else g.l[i]?
 |0,i=>by
  rw [if_neg (fun h=>absurd h.1 (Nat.not_lt_zero i))]
  rfl
 |k+1,i=>by
  unfold comeTo
  by_cases hs:hasN T k=true
  ·rw [if_pos hs]
   unfold comeSt
   rw [Int.toNat_natCast,List.getElem?_modify,comeTo_at g T k i]
   by_cases e:k=i
   ·subst e
    rw [if_neg (fun h=>Nat.lt_irrefl _ h.1),if_pos ⟨by omega,hs⟩]
    simp
   ·simp only [if_neg e]
    by_cases hc:i < k∧hasN T i=true
    ·rw [if_pos hc,if_pos ⟨by omega,hc.2⟩];simp
    ·rw [if_neg hc,if_neg (fun h=>hc ⟨by omega,h.2⟩)];simp
  ·rw [if_neg hs,comeTo_at g T k i]
   by_cases e:k=i
   ·subst e
    rw [if_neg (fun h=>hs h.2),if_neg (fun h=>hs h.2)]
   ·by_cases hc:i < k∧hasN T i=true
    ·rw [if_pos hc,if_pos ⟨by omega,hc.2⟩]
    ·rw [if_neg hc,if_neg (fun h=>hc ⟨by omega,h.2⟩)]
theorem come_all (g:Lg) (hl:g.l.length≤64) (hT:∀j:Nat,g.l.length≤j→hasN T j=false):(listN T).foldl (comeSt g) g.l=comeTo g T g.l.length:=
 fold_to T g.l.length hl hT (comeSt g) (comeTo g T) fun _ _=>rfl
theorem come_fold_len (g:Lg):∀(pre:List Int) (l:List Pty),(pre.foldl (comeSt g) l).length=l.length
 |[],_=>rfl
 |p::pre,l=>by rw [List.foldl_cons,come_fold_len g pre,come_len]
theorem act_lt:∀k,actTo l k < 18446744073709551616
 |0=>by show (0:Nat) < _;decide
 |k+1=>by
  unfold actTo
  split
  ·exact act_lt k
  ·split
   ·exact withN_lt (act_lt k)
   ·exact act_lt k
theorem has_act (l:List Pty) (j:Nat):∀k,k≤64→hasN (actTo l k) j=(decide (j < k)&&((l[j]?).map (·.2.2.2)).getD false)
 |0,_=>by
  show hasN 0 _=_
  rw [has_zero];simp
 |k+1,hk=>by
  have ih:=has_act l j k (by omega)
  unfold actTo
  by_cases e:j=k
  ·subst e
   have h0:okI (j:Int)=true:=by simp [okI];omega
   simp at ih
   cases hx:l[j]? with
   |none=>simp [ih]
   |some x=>
    simp only
    cases hb:x.2.2.2 with
    |true=>simp [has_with,h0,hb]
    |false=>simp [ih,hb]
  ·have e1:¬(k:Int)=j:=by omega
   have e2:(decide (j < k+1))=decide (j < k):=decide_eq_decide.2 (by omega)
   rw [e2, ←ih]
   cases hx:l[k]? with
   |none=>rfl
   |some x=>
    simp only
    split
    ·rw [has_with];simp [e1]
    ·rfl
def strip (x:Pty):Int×Int×Int:=(x.1,x.2.1,x.2.2.1)
theorem come_strip (g:Lg) (hl:g.l.length≤64) (hT:∀j:Nat,hasN T j=(decide (j < g.l.length)&&hasN S j&&!hasN g.active j)):
  (comeTo g T g.l.length).map strip=((setTo g S g.l.length)).map strip:=by
 apply List.ext_getElem?
 intro i
 rw [List.getElem?_map,List.getElem?_map,comeTo_at,setTo_at,hT i]
 by_cases hi:i < g.l.length
 ·have hd:decide (i < g.l.length)=true:=by simpa using hi
  rw [hd,Bool.true_and,if_pos hi]
  unfold Lg.active
  rw [has_act _ _ _ hl,hd,Bool.true_and]
  rw [List.getElem?_eq_getElem hi]
  simp only [Option.map_some,Option.getD_some]
  cases hs:hasN S i with
  |false=>simp [strip,setP,hs]
  |true=>
   cases hb:g.l[i].2.2.2 with
   |true=>simp [strip,setP,hs,hb]
   |false=>simp [strip,setP,hs,hb,hi,comeP]
 ·rw [if_neg (fun h=>hi h.1),if_neg hi]
theorem settle_active (g:Lg) (S:Nat):∀k,k≤g.l.length→actTo (setTo g S g.l.length) k=inTo S k
 |0,_=>rfl
 |k+1,hk=>by
  unfold actTo inTo
  rw [setTo_at,if_pos (by omega),List.getElem?_eq_getElem (by omega),settle_active g S k (by omega)]
  rfl
theorem best_congr {l l':List Pty} {S S':Nat} (hv:∀j:Nat,vAt l j=vAt l' j):∀k,(∀j:Nat,j < k→hasN S j=hasN S' j)→bestTo l S k=bestTo l' S' k
 |0,_=>rfl
 |k+1,h=>by
  have ih:=best_congr hv k fun j hj=>h j (by omega)
  unfold bestTo
  rw [ih,h k (by omega),hv k]
  rcases bestTo_spec l' S' k with⟨h1,_⟩ |⟨j,h1,_⟩
  ·rw [h1]
   simp
  ·rw [h1,hv j]
theorem min_best (l:List Pty) (S:Nat):∀k,k≤l.length→minTo l S k=if bestTo l S k < 0 then none else some (vAt l (bestTo l S k))
 |0,_=>rfl
 |k+1,hk=>by
  have ih:=min_best l S k (by omega)
  have hx:l[k]?=some l[k]:=List.getElem?_eq_getElem (by omega)
  have hv:vAt l k=l[k].2.1:=by rw [vAt_nat,hx];rfl
  rw [minTo,hx,ih]
  simp only
  by_cases hs:hasN S k=true
  ·rw [if_pos hs]
   by_cases hb:bestTo l S k < 0
   ·have e:bestTo l S (k+1)=k:=by rw [bestTo,if_pos ⟨hs, .inl hb⟩]
    rw [e,if_pos hb,if_neg (by omega),hv]
   ·rw [if_neg hb]
    simp only
    rw [←hv]
    by_cases hlt:vAt l k < vAt l (bestTo l S k)
    ·have e:bestTo l S (k+1)=k:=by rw [bestTo,if_pos ⟨hs, .inr hlt⟩]
     rw [e,if_pos hlt,if_neg (by omega)]
    ·have e:bestTo l S (k+1)=bestTo l S k:=by
       rw [bestTo,if_neg]
       rintro ⟨_,h|h⟩
       ·exact hb h
       ·exact hlt h
     rw [e,if_neg hlt,if_neg hb]
  ·have e:bestTo l S (k+1)=bestTo l S k:=by rw [bestTo,if_neg (fun h=>hs h.1)]
   rw [e,if_neg hs]
theorem settle_f (g:Lg) (S:Nat):(g.settle S).f=if bestTo (setTo g S g.l.length) S g.l.length < 0 then g.f else max g.f (vAt (setTo g S g.l.length) (bestTo (setTo g S g.l.length) S g.l.length)):=by
 show (match minTo (setTo g S g.l.length) S g.l.length with
  |none=>g.f
  |some m=>if g.f < m then m else g.f)=_
 rw [min_best _ _ _ (by rw [setTo_len];exact Nat.le_refl _)]
 split
 ·rename_i h
  split at h
  ·rename_i hb
   rw [if_pos hb]
  ·cases h
 ·rename_i m h
  split at h
  ·cases h
  ·rename_i hb
   cases h
   rw [if_neg hb]
   split<;>omega
end
end Go.Proofs.YtcgjbllmoglhfaaDoor
namespace Go.Proofs.YtcgjbllmoglhfaaDoor
open Go.RowKit
def isInt (i:Int):Prop:= -9223372036854775808≤i∧i≤9223372036854775807
def WithoutSaid:Prop:=∀(s:Nat) (i:Int) (w:World),s < 18446744073709551616→isInt i→
 Calls Tryd.prog 51 #[.int .u64 s, .int .i64 i] w fun e w'=>e= .returned (.int .u64 (withoutN s i:Int))∧∃n,w'=w.drewN n
def aloneN (i:Int):Nat:=if okI i then 2 ^ i.toNat else 0
theorem aloneN_lt (i:Int):aloneN i < 18446744073709551616:=by
 unfold aloneN
 split
 ·rename_i h
  simp [okI] at h
  exact Nat.lt_of_lt_of_le (Nat.pow_lt_pow_right (m:=i.toNat) (n:=64) (by decide) (by omega)) (by decide)
 ·decide
theorem alone_bit (i:Int) (k:Nat):(aloneN i).testBit k=(okI i&&decide (i.toNat=k)):=by
 unfold aloneN
 split
 ·rename_i h
  rw [Nat.testBit_two_pow,h,Bool.true_and]
 ·rename_i h
  simp at h
  simp [h]
theorem or_alone (s:Nat) (i:Int):s|||aloneN i=withN s i:=by
 refine Nat.eq_of_testBit_eq fun k=>?_
 rw [Nat.testBit_or,alone_bit,bit_with]
theorem bv_nat (a:Nat) (ha:a < 18446744073709551616):(BitVec.ofInt 64 (a:Int)).toNat=a:=by
 rw [BitVec.ofInt_natCast,BitVec.toNat_ofNat];exact Nat.mod_eq_of_lt (by omega)
theorem andNot_bit (a b:Nat) (ha:a < 18446744073709551616) (hb:b < 18446744073709551616):∃z:Nat,bits .andNot .u64 (a:Int) (b:Int)=(z:Int)∧z < 18446744073709551616∧∀k,z.testBit k=(a.testBit k&&!b.testBit k):=by
 refine⟨(BitVec.ofInt 64 (a:Int)&&& ~~~ BitVec.ofInt 64 (b:Int)).toNat,?_,(BitVec.isLt _),?_⟩
 ·show IntKind.u64.wrap ((BitVec.ofInt 64 (a:Int)&&& ~~~ BitVec.ofInt 64 (b:Int)).toNat:Int)=_
  rw [IntKind.wrap_u64]
  have:=(BitVec.ofInt 64 (a:Int)&&& ~~~ BitVec.ofInt 64 (b:Int)).isLt
  omega
 ·intro k
  have h1:∀x:Nat,x < 18446744073709551616→(BitVec.ofInt 64 (x:Int)).getLsbD k=x.testBit k:=fun x hx=>by rw [←BitVec.testBit_toNat,bv_nat x hx]
  have h2:∀x:Nat,x < 18446744073709551616→64≤k→x.testBit k=false:=fun x hx hk=>Nat.testBit_lt_two_pow (Nat.lt_of_lt_of_le hx (Nat.le_trans (by decide) (Nat.pow_le_pow_right (n:=2) (by decide) hk)))
  rw [BitVec.testBit_toNat,BitVec.getLsbD_and,BitVec.getLsbD_not,h1 a ha,h1 b hb]
  by_cases hk:k < 64
  ·simp [hk]
  ·simp [hk,h2 a ha (by omega)]
theorem andNot_alone (s:Nat) (i:Int) (hs:s < 18446744073709551616):bits .andNot .u64 (s:Int) (aloneN i:Int)=(withoutN s i:Int):=by
 obtain⟨z,hz,_,hb⟩:=andNot_bit s (aloneN i) hs (aloneN_lt i)
 rw [hz]
 congr 1
 refine Nat.eq_of_testBit_eq fun k=>?_
 rw [hb,alone_bit,bit_without]
theorem alone_any (i:Int) (w:World):Calls Tryd.prog 56 #[.int .i64 i] w fun e w'=>e= .returned (.int .u64 (aloneN i:Int))∧w'=w:=by
 by_cases h0:i < 0
 ·rw [show aloneN i=0 by simp [aloneN,okI];omega]
  have d0:decide (i < 0)=true:=by simpa using h0
  go_enter Tryd.func56,Tryd.ntmps56
  go_wp2
  go_ret
  exact⟨rfl,rfl⟩
 ·by_cases h1:64≤i
  ·rw [show aloneN i=0 by simp [aloneN,okI];omega]
   have d0:decide (i < 0)=false:=by simpa using h0
   have d1:decide (64≤i)=true:=by simpa using h1
   go_enter Tryd.func56,Tryd.ntmps56
   go_wp2
   go_ret
   exact⟨rfl,rfl⟩
  ·have hok:okI i=true:=by simp [okI];omega
   obtain⟨u,rfl⟩:=Int.eq_ofNat_of_zero_le (show 0≤i by omega)
   have hu:u < 64:=by omega
   have d0:decide ((u:Int) < 0)=false:=by simp
   have d1:decide ((64:Int)≤(u:Int))=false:=by simp;omega
   rw [show aloneN (u:Int)=2 ^ u by unfold aloneN;rw [if_pos hok];rfl]
   have hp:=pow_u64 hu
   obtain⟨p,hpp⟩:∃p,2 ^ u=p:=⟨_,rfl⟩
   rw [hpp] at hp ⊢
   have u0:(0:Int)≤u:=by omega
   clear hok hpp
   go_enter Tryd.func56,Tryd.ntmps56
   go_wp2
   go_ret
   exact⟨rfl,rfl⟩
theorem with_same (s:Nat) (i:Int) (w:World) (hs:s < 18446744073709551616):Calls Tryd.prog 48 #[.int .u64 s, .int .i64 i] w fun e w'=>e= .returned (.int .u64 (withN s i:Int))∧w'=w:=by
 have HA:=xhd (alone_any i)
 have hl:=aloneN_lt i
 have e1:=bits_or_u64_nat s (aloneN i) hs hl
 rw [or_alone] at e1
 obtain⟨a,ha⟩:∃a,aloneN i=a:=⟨_,rfl⟩
 obtain⟨z,hz⟩:∃z,withN s i=z:=⟨_,rfl⟩
 rw [ha] at HA e1
 rw [hz] at e1 ⊢
 clear ha hz hl hs
 go_enter Tryd.func48,Tryd.ntmps48
 go_wp2_with fail
 with_reducible refine (HA.out _).mono ?_
 rintro e w1 ⟨rfl,rfl⟩
 go_wp2
 go_ret
 exact⟨rfl,rfl⟩
theorem without_same (s:Nat) (i:Int) (w:World) (hs:s < 18446744073709551616):Calls Tryd.prog 51 #[.int .u64 s, .int .i64 i] w fun e w'=>e= .returned (.int .u64 (withoutN s i:Int))∧w'=w:=by
 have HA:=xhd (alone_any i)
 have e1:=andNot_alone s i hs
 obtain⟨a,ha⟩:∃a,aloneN i=a:=⟨_,rfl⟩
 obtain⟨z,hz⟩:∃z,withoutN s i=z:=⟨_,rfl⟩
 rw [ha] at HA e1
 rw [hz] at e1 ⊢
 clear ha hz hs
 go_enter Tryd.func51,Tryd.ntmps51
 go_wp2_with fail
 with_reducible refine (HA.out _).mono ?_
 rintro e w1 ⟨rfl,rfl⟩
 go_wp2
 go_ret
 exact⟨rfl,rfl⟩
theorem without_any:WithoutSaid:=fun s i w hs _=>(without_same s i w hs).mono fun _ _ ⟨h,e⟩=>⟨h,0,e⟩
end Go.Proofs.YtcgjbllmoglhfaaDoor
namespace Go.Proofs.YtcgjbllmoglhfaaDoor
def f1 (a:Nat):Nat:=(a / 2&&& 85)+(a&&& 85)
def f2 (a:Nat):Nat:=(a / 4&&& 51)+(a&&& 51)
def f3 (a:Nat):Nat:=(a / 16+a)&&& 15
end Go.Proofs.YtcgjbllmoglhfaaDoor
namespace Go.Proofs.YtcgjbllmoglhfaaDoor
open Go.RowKit
theorem tz_key (x a:Nat) (hx:x < 18446744073709551616) (hx0:x≠0) (hlow:x&&& (18446744073709551616 - x)=a):
  IntKind.u64.wrap (bits .and .u64 (x:Int) (IntKind.u64.wrap (-(x:Int)))*285870213051353865) / 288230376151711744=((a*285870213051353865 % 18446744073709551616 / 288230376151711744:Nat):Int):=by
 have e1:IntKind.u64.wrap (-(x:Int))=((18446744073709551616 - x:Nat):Int):=by rw [IntKind.wrap_u64];omega
 rw [e1,bits_and_u64_nat x _ hx (by omega),hlow,IntKind.wrap_u64]
 omega
theorem tz_any (x:Nat) (hx0:x≠0) (hx:x < 18446744073709551616) (w:World) (hT:TabOk w):
  Calls Tryd.prog 57 #[.int .u64 x] w fun e w'=>e= .returned (.int .i64 (Lib.ctz 64 x:Nat))∧w'=w:=by
 obtain⟨hlow,hk⟩:=Lib.lowest_bit 64 x hx0 hx
 obtain⟨hi,htab⟩:=Lib.deBruijn64_at _ hk
 have hcell:=hT _ hi
 rw [htab] at hcell
 have key:=tz_key x _ hx hx0 hlow
 have hx1:((x:Int) == 0)=false:=by simp;omega
 obtain⟨k,hk'⟩:∃k,Lib.ctz 64 x=k:=⟨_,rfl⟩
 rw [hk'] at hcell key hk hi ⊢
 obtain⟨idx,hidx⟩:∃idx,2 ^ k*285870213051353865 % 18446744073709551616 / 288230376151711744=idx:=⟨_,rfl⟩
 rw [hidx] at hcell key hi
 have k0:(0:Int)≤k:=by omega
 have k1:(k:Int) < 64:=by omega
 have i0:(0:Int)≤idx:=by omega
 have i1:(idx:Int) < 64:=by omega
 clear hlow htab hk' hidx hT hx hx0
 go_enter Tryd.func57,Tryd.ntmps57
 go_wp2_with (simp only [key])
 go_ret
 exact⟨rfl,rfl⟩
end Go.Proofs.YtcgjbllmoglhfaaDoor
namespace Go.Proofs.YtcgjbllmoglhfaaDoor
open Go.RowKit Go.Maps Go.Shelf
attribute [local go_sem] Oper.semAt_some
theorem list_zero:listN 0=[]:=by simp [listN]
theorem filter_split (p:Nat→Bool) (k m:Nat):(List.range (k+1+m)).filter p=(List.range k).filter p++((if p k then [k] else [])++((List.range m).map (k+1+ ·)).filter p):=by
 rw [List.range_add,List.range_succ,List.filter_append,List.filter_append,List.append_assoc]
 congr 1
 cases h:p k<;>simp [h]
theorem list_ctz {s:Nat} (h0:s≠0) (hs:s < 18446744073709551616):listN s=(Lib.ctz 64 s:Int)::listN (withoutN s (Lib.ctz 64 s))∧Lib.ctz 64 s < 64:=by
 obtain⟨m,hm,hk⟩:=Lib.ctzFrom_spec 64 s (by omega) (by omega)
 have hc:Lib.ctz 64 s=Lib.ctzFrom 64 s:=by unfold Lib.ctz;rw [if_neg h0]
 rw [←hc] at hm hk
 obtain⟨k,hkk⟩:∃k,Lib.ctz 64 s=k:=⟨_,rfl⟩
 rw [hkk] at hm hk ⊢
 have hbit:∀j,s.testBit j=(decide (k≤j)&&(2*m+1).testBit (j - k)):=fun j=>by
  rw [hm,Nat.mul_comm,Nat.testBit_mul_two_pow]
 have hin:s.testBit k=true:=by rw [hbit];simp
 have hlow:∀j,j < k→s.testBit j=false:=fun j hj=>by rw [hbit];simp;omega
 have hok:okI (k:Int)=true:=by simp [okI];omega
 have hw:∀j,(withoutN s (k:Int)).testBit j=(s.testBit j&&!decide (k=j)):=fun j=>by
  rw [bit_without,hok,Bool.true_and,Int.toNat_natCast]
 obtain⟨d,hd⟩:∃d,64=k+1+d:=⟨63 - k,by omega⟩
 refine⟨?_,hk⟩
 unfold listN
 rw [hd,filter_split,filter_split]
 have e1:(List.range k).filter (fun j=>s.testBit j)=[]:=List.filter_eq_nil_iff.2 fun j hj=>by rw [hlow j (List.mem_range.1 hj)];simp
 have e2:(List.range k).filter (fun j=>(withoutN s (k:Int)).testBit j)=[]:=List.filter_eq_nil_iff.2 fun j hj=>by rw [hw,hlow j (List.mem_range.1 hj)];simp
 have e3:((List.range d).map (k+1+ ·)).filter (fun j=>(withoutN s (k:Int)).testBit j)=((List.range d).map (k+1+ ·)).filter (fun j=>s.testBit j):=by
  refine List.filter_congr fun j hj=>?_
  obtain⟨i,_,rfl⟩:=List.mem_map.1 hj
  rw [hw]
  have:¬k=k+1+i:=by omega
  simp [this]
 have e4:(withoutN s (k:Int)).testBit k=false:=by rw [hw];simp
 rw [e1,e2,e3,hin,e4]
 simp
theorem list_len_le (s:Nat):(listN s).length≤64:=by
 have:=List.length_filter_le (fun j=>s.testBit j) (List.range 64)
 simpa [listN] using this
def firstN (s:Nat):Int:=(listN s).headD (-1)
theorem first_any (s:Nat) (hs:s < 18446744073709551616) (w:World) (hT:TabOk w):Calls Tryd.prog 50 #[.int .u64 s] w fun e w'=>e= .returned (.int .i64 (firstN s))∧w'=w:=by
 by_cases h0:s=0
 ·subst h0
  rw [show firstN 0= -1 by unfold firstN;rw [list_zero];rfl]
  go_enter Tryd.func50,Tryd.ntmps50
  go_wp2
  go_ret
  exact⟨rfl,rfl⟩
 ·have H:=xhd (tz_any s h0 hs w hT)
  rw [show firstN s=(Lib.ctz 64 s:Int) by unfold firstN;rw [(list_ctz h0 hs).1];rfl]
  obtain⟨k,hk⟩:∃k,Lib.ctz 64 s=k:=⟨_,rfl⟩
  rw [hk] at H ⊢
  have h1:((s:Int) == 0)=false:=by simp;omega
  clear hk hT h0
  go_enter Tryd.func50,Tryd.ntmps50
  go_wp2_with fail
  with_reducible refine H.out.mono ?_
  rintro e w1 ⟨rfl,rfl⟩
  go_wp2
  go_ret
  exact⟨rfl,rfl⟩
theorem all_any (s:Nat) (w:World):Calls Tryd.prog 34 #[.int .u64 s] w fun e w'=>
  e= .returned (.func (.func 49) #[] #[.pointer (some ⟨w.heap.size,0,none⟩)])∧w'=w.alloc (.cells #[.int .u64 s] 30):=by
 go_enter Tryd.func34,Tryd.ntmps34
 go_wp2
 go_ret
 exact⟨rfl,rfl⟩
abbrev encI (x:Int):Array Value:= #[.int .i64 x]
theorem all1_seq {n:Nat} (hn:1≤n) {w:World} {B s:Nat} (h:w.heap[B]?=some (.cells #[.int .u64 s] 30 (0,0))) (hs:s < 18446744073709551616) (hT:TabOk w):
  TurnSeq Fence.wide n Tryd.prog 49 #[.pointer (some ⟨B,0,none⟩)] encI [] [0] (fun xs=>xs <+:listN s) (fun xs _=>xs=listN s) (fun xs _=>xs <+:listN s) w:=by
 intro l J Jx W hW hJ hY hj0
 have b0:=cell1 (hW.same h (by simp))
 have HJ:=xhd hJ
 have HY:=xhd hY
 have HT0:=xhd (hT.turned hW (by simp))
 clear hJ hY h hT
 refine callsIn_of_wp Tryd.func49 rfl trivial ?_ rfl
 simp only [Tryd.ntmps49,List.size_toArray,List.length_cons,List.length_nil,Nat.reduceAdd,Nat.reduceSub,Array.replicate_succ,Array.replicate_zero,List.push_toArray,List.append_toArray,List.nil_append,List.cons_append]
 gi_wp2
 gi_loopw [3] (fun i wr=>∃(r:Nat) (pre:List Int),i= .int .u64 r∧Hid (r < 18446744073709551616)∧Hid (listN s=pre++listN r)∧Hid (J pre wr)∧Hid (TabOk wr)) (fun i _=>(listN (intOf i).toNat).length)
 case atStart=>exact⟨s,[],rfl,xhd hs,xhd rfl,xhd hj0,HT0⟩
 case round=>
  obtain⟨r,pre,rfl,HR,HL,HJ0,HT⟩:=hrel
  by_cases h0:r=0
  ·subst h0
   have hl:=HL.out
   rw [list_zero,List.append_nil] at hl
   have HLL:=xhd hl
   clear hl
   gi_wp2
   go_end0
   have hj:=HJ0.out
   rw [←HLL.out] at hj
   exact⟨⟨_,rfl⟩, .inl (by first|exact hj|exact⟨_,rfl,hj⟩)⟩
  ·obtain⟨hcons,hk⟩:=list_ctz h0 HR.out
   have HF:=xhd (first_any r HR.out wr HT.out)
   rw [show firstN r=(Lib.ctz 64 r:Int) by unfold firstN;rw [hcons];rfl] at HF
   have HW:=xhd (fun W=>without_any r (Lib.ctz 64 r:Int) W HR.out ⟨by omega,by omega⟩)
   have hlt:=withoutN_lt (i:=(Lib.ctz 64 r:Int)) HR.out
   obtain⟨k,hkk⟩:∃k,Lib.ctz 64 r=k:=⟨_,rfl⟩
   rw [hkk] at HF HW hlt hcons hk
   obtain⟨q,hq⟩:∃q,withoutN r (k:Int)=q:=⟨_,rfl⟩
   rw [hq] at HW hlt hcons
   have hpre:listN s=(pre++[(k:Int)])++listN q:=by rw [HL.out,hcons];simp
   have HP:=xhd hpre
   have HQ:=xhd hlt
   have HLen:=xhd (show (listN q).length < (listN r).length by rw [hcons];simp)
   have h1:((r:Int) == 0)=false:=by simp;omega
   have h2:((r:Int) != 0)=true:=by simp;omega
   clear hkk hq hpre hlt hcons hk h0
   gi_wp2_with fail
   refine⟨trivial,?_⟩
   with_reducible refine (callsIn_wide.2 HF.out).mono ?_
   rintro e V ⟨rfl,rfl⟩
   obtain⟨fn,tmps,assign,body,hy,hR⟩:=HY.out pre (k:Int) _ HJ0.out (by rw [HP.out];exact List.prefix_append _ _)
   gi_wp2_with fail
   refine hR.mono ?_
   rintro e V4 ⟨hsm,hz,⟨rfl,hj4⟩ |⟨rfl,hx4⟩⟩
   ·have HJ4:=xhd hj4
    have HT4:=xhd (HT.out.same (hsm _ (by simp)))
    clear hsm hz hj4
    gi_wp2_with fail
    refine⟨trivial,?_⟩
    with_reducible refine (callsIn_wide.2 (HW.out _)).mono ?_
    rintro e V5 ⟨rfl,n5,rfl⟩
    gi_wp2
    go_roundw
    case rel=>exact⟨q,_,rfl,HQ,HP,xhd (HJ.out _ _ _ HJ4.out ((Turned.refl [] V4).drewN n5)),HT4⟩
    case measure=>simpa [intOf] using HLen.out
   ·have HX4:=xhd hx4
    clear hsm hz hx4
    gi_wp2
    refine bodyPost_ret (results_none rfl _ _ _) rfl ?_
    exact⟨⟨_,rfl⟩, .inr ⟨_,by rw [HP.out];exact List.prefix_append _ _,HX4.out⟩⟩
end Go.Proofs.YtcgjbllmoglhfaaDoor
namespace Go.Proofs.YtcgjbllmoglhfaaDoor
open Go.RowKit Go.Shelf
theorem add_any (a b:Int) (ha:Word a) (hb:Word b) (w:World):
  Calls Tryd.prog 44 #[.int .u64 a, .int .u64 b] w fun e w'=>e= .returned (.tuple #[.int .u64 (satV (a+b)), .int .i64 (satE (a+b))])∧w=w':=by
 by_cases h:a+b≤18446744073709551615
 ·rw [satV_fit h,satE_fit h]
  have e1:hiW (a+b)=0:=by have:=ha.1;have:=hb.1;unfold hiW;omega
  have e2:loW (a+b)=a+b:=by have:=ha.1;have:=hb.1;unfold loW;omega
  have A:=add64 a b ha hb
  rw [e1,e2] at A
  clear e1 e2 h
  go_enter Tryd.func44,Tryd.ntmps44
  go_wp2
  go_ret2
  exact⟨rfl,rfl⟩
 ·rw [satV_big h,satE_big h]
  have e1:hiW (a+b)=1:=by have:=ha.2;have:=hb.2;unfold hiW;omega
  have A:=add64 a b ha hb
  rw [e1] at A
  clear e1 h
  go_enter Tryd.func44,Tryd.ntmps44
  go_wp2
  go_ret2
  exact⟨rfl,rfl⟩
end Go.Proofs.YtcgjbllmoglhfaaDoor
namespace Go.Proofs.YtcgjbllmoglhfaaDoor
open Go.RowKit
theorem run_max_un {P:Program} {w:World} (ts:Array TypeId) (t:TypeId) (k:IntKind) (x y:Int):(Builtin.max_ ts t #[.int k x, .int k y]).run P w= .ok (.int k (max x y)) w:=by
 rw [run_max_int2]
 congr 2
 split<;>omega
theorem run_min_un {P:Program} {w:World} (ts:Array TypeId) (t:TypeId) (k:IntKind) (x y:Int):(Builtin.min_ ts t #[.int k x, .int k y]).run P w= .ok (.int k (min x y)) w:=by
 rw [run_min_int2]
 congr 2
 split<;>omega
attribute [local go_sem ↓] run_min_un run_max_un
theorem bring_minmax {n lo hi:Int} (h:lo≤hi):min (max n lo) hi=bringR n lo hi:=by
 unfold bringR
 split
 ·omega
 ·split<;>omega
theorem unwithin_any (n lo hi:Int) (h:lo≤hi) (h0:0≤lo) (h1:hi≤4611686018427387904) (w:World):
  Calls Tryd.prog 52 #[.int .i64 n, .int .i64 lo, .int .i64 hi] w fun e w'=>e= .returned (.int .u64 (bringR n lo hi))∧w'=w:=by
 have hb:=bring_range (n:=n) h
 rw [←bring_minmax h] at hb ⊢
 have hw:IntKind.u64.wrap (min (max n lo) hi)=min (max n lo) hi:=by rw [IntKind.wrap_u64];omega
 go_enter Tryd.func52,Tryd.ntmps52
 go_wp2
 go_ret
 exact⟨rfl,rfl⟩
theorem ulock_any (n:Int) (w:World):Calls Tryd.prog 40 #[.int .i64 n] w fun e w'=>e= .returned (.int .u64 (lockR n))∧w'=w:=by
 have HB:=xhd (unwithin_any n 1 16 (by decide) (by decide) (by decide) w)
 have hr:=lock_range n
 have hb:=bring_range (n:=n) (lo:=1) (hi:=16) (by decide)
 unfold lockR at hr ⊢
 obtain⟨b,hbb⟩:∃b,bringR n 1 16=b:=⟨_,rfl⟩
 rw [hbb] at HB hr hb ⊢
 have hq:(720720:Int).tdiv b=720720 / b:=Int.tdiv_eq_ediv_of_nonneg (by decide)
 obtain⟨q,hqq⟩:∃q,720720 / b=q:=⟨_,rfl⟩
 rw [hqq] at hq hr ⊢
 have hw2:IntKind.u64.wrap q=q:=by rw [IntKind.wrap_u64];omega
 have hn:¬b=0:=by omega
 clear hbb hqq
 go_enter Tryd.func40,Tryd.ntmps40
 go_wp2_with fail
 with_reducible refine HB.out.mono ?_
 rintro e w1 ⟨rfl,rfl⟩
 go_wp2
 go_ret
 exact⟨rfl,rfl⟩
theorem uslack_any (n s c:Int) (w:World):Calls Tryd.prog 36 #[.int .i64 n, .int .i64 s, .int .i64 c] w fun e w'=>e= .returned (.int .u64 (slackR n s c))∧w'=w:=by
 have HB:=xhd (unwithin_any s 1 32 (by decide) (by decide) (by decide) w)
 have HC:=xhd (unwithin_any c 1 32 (by decide) (by decide) (by decide) w)
 have HL:=xhd (ulock_any n w)
 have hr:=slack_range n s c
 have h2:=bring_range (n:=s) (lo:=1) (hi:=32) (by decide)
 have h3:=bring_range (n:=c) (lo:=1) (hi:=32) (by decide)
 unfold slackR at hr ⊢
 obtain⟨b,hbb⟩:∃b,bringR s 1 32=b:=⟨_,rfl⟩
 obtain⟨d,hdd⟩:∃d,bringR c 1 32=d:=⟨_,rfl⟩
 obtain⟨l,hll⟩:∃l,lockR n=l:=⟨_,rfl⟩
 rw [hbb] at HB hr h2 ⊢
 rw [hdd] at HC hr h3 ⊢
 rw [hll] at HL hr ⊢
 have hs:IntKind.u64.wrap (b+d)=b+d:=by rw [IntKind.wrap_u64];omega
 obtain⟨e,he⟩:∃e,b+d=e:=⟨_,rfl⟩
 rw [he] at hs hr ⊢
 have hw2:IntKind.u64.wrap (l*e)=l*e:=by
  obtain⟨q,hq⟩:∃q,l*e=q:=⟨_,rfl⟩
  rw [hq] at hr ⊢
  rw [IntKind.wrap_u64];omega
 clear hbb hdd hll hr
 go_enter Tryd.func36,Tryd.ntmps36
 go_wp2_with fail
 with_reducible refine HL.out.mono ?_
 rintro r w1 ⟨rfl,rfl⟩
 go_wp2_with fail
 with_reducible refine HB.out.mono ?_
 rintro r w2 ⟨rfl,rfl⟩
 go_wp2_with fail
 with_reducible refine HC.out.mono ?_
 rintro r w3 ⟨rfl,rfl⟩
 go_wp2
 go_ret
 exact⟨rfl,rfl⟩
theorem clamp_minmax {v f r:Int} (hf:Word f) (hr:Word r):min (max v f) (satV (f+r))=clampR v f r:=by
 unfold clampR
 have hs:f≤satV (f+r):=by
  by_cases h:f+r≤18446744073709551615
  ·rw [satV_fit h];have:=hr.1;omega
  ·rw [satV_big h];exact hf.2
 split
 ·omega
 ·split<;>omega
theorem uclamp_any (v f r:Int) (hf:Word f) (hr:Word r) (w:World):Calls Tryd.prog 35 #[.int .u64 v, .int .u64 f, .int .u64 r] w fun e w'=>e= .returned (.int .u64 (clampR v f r))∧w'=w:=by
 have HA:=xhd (add_any f r hf hr w)
 rw [←clamp_minmax hf hr]
 go_enter Tryd.func35,Tryd.ntmps35
 go_wp2_with fail
 with_reducible refine HA.out.mono ?_
 rintro e w1 ⟨rfl,rfl⟩
 go_wp2
 go_ret
 exact⟨rfl,rfl⟩
end Go.Proofs.YtcgjbllmoglhfaaDoor
namespace Go.Proofs.YtcgjbllmoglhfaaDoor
open Go.RowKit
abbrev encPp (x:Pty):List Value:=[.int .i64 x.1, .int .u64 x.2.1, .int .i64 x.2.2.1]
theorem encPp_len (x:Pty):(encPp x).length=3:=rfl
abbrev tLp:TypeId:=52
abbrev tPq:TypeId:=54
def LpQ (w:World) (b:Nat) (X:List Nat) (l:List Pty) (s c f:Int) (a:Nat):Prop:=LAt tLp tPq 3 encPp (fun v=> #[v, .int .u64 (a:Int), .int .u64 f, .int .i64 s, .int .i64 c]) w b X l
abbrev LpAt (w:World) (b:Nat) (X:List Nat) (g:Lg):Prop:=LpQ w b X g.l g.s g.c g.f g.active
theorem cells5l {w:World} {b:Nat} {x y z u q:Value} {t:TypeId} (h:w.heap[b]?=some (.cells #[x,y,z,u,q] t (0,0))):
  w.cell? ⟨b,0,none⟩=some x∧w.cell? ⟨b,1,none⟩=some y∧w.cell? ⟨b,2,none⟩=some z∧w.cell? ⟨b,3,none⟩=some u∧w.cell? ⟨b,4,none⟩=some q∧∀i,w.frozen? ⟨b,i,none⟩=false:=
 ⟨by simp [World.cell?,h],by simp [World.cell?,h],by simp [World.cell?,h],by simp [World.cell?,h],by simp [World.cell?,h],fun i=>frozen_of_row w b i _ t h⟩
section
variable {w w':World} {b:Nat} {X Y:List Nat} {l l':List Pty} {s c f:Int} {a:Nat} {g:Lg} {n:Int}
theorem LpQ.keep (h:LpQ w b X l s c f a) (t:Turned Y w w') (hd:∀k ∈ X,k ∉ Y):LpQ w' b X l s c f a:=LAt.keep h t hd
theorem LpQ.keep0 (h:LpQ w b X l s c f a) (t:Turned [] w w'):LpQ w' b X l s c f a:=LAt.keep h t (by simp)
theorem LpQ.lt (h:LpQ w b X l s c f a):∀k ∈ X,k < w.heap.size:=LAt.lt h
theorem LpQ.rows (h:LpQ w b X l s c f a):∃ao cap,w.cell? ⟨b,0,none⟩=some (.slice ao l.length cap)∧w.cell? ⟨b,1,none⟩=some (.int .u64 (a:Int))∧w.cell? ⟨b,2,none⟩=some (.int .u64 f)∧w.cell? ⟨b,3,none⟩=some (.int .i64 s)∧w.cell? ⟨b,4,none⟩=some (.int .i64 c)∧(∀i,w.frozen? ⟨b,i,none⟩=false)∧l.length≤maxLen∧
   ∀(j:Nat) (x:Pty),l[j]?=some x→∃r,ao=some ⟨r,0,none⟩∧w.cell? ⟨r,j*3,none⟩=some (.int .i64 x.1)∧w.cell? ⟨r,j*3+1,none⟩=some (.int .u64 x.2.1)∧w.cell? ⟨r,j*3+2,none⟩=some (.int .i64 x.2.2.1)∧(∀i,w.frozen? ⟨r,i,none⟩=false)∧b≠r∧r ∈ X:=by
 obtain⟨ao,cap,h1,h2,h3,hc,hm,hg⟩:=LAt.view h
 obtain⟨c0,c1,c2,c3,c4,cf⟩:=cells5l h1
 refine⟨ao,cap,c0,c1,c2,c3,c4,cf,by omega,fun j x hx=>?_⟩
 have hj:j < l.length:=(List.getElem?_eq_some_iff.1 hx).1
 have he:l[j]=x:=(List.getElem?_eq_some_iff.1 hx).2
 obtain⟨r,hg|hg⟩:=hg j hj
 ·obtain⟨rfl,hbg⟩:=hg
  have q:=row_cells encPp_len h2 hj
  rw [he] at q
  exact⟨r,rfl,(q 0 (by omega)).1,(q 1 (by omega)).1,(q 2 (by omega)).1,fun i=>h2.frozenAt _,hbg,by rw [h3];simp [Value.ownBlock]⟩
 ·exact absurd hg (by decide)
theorem LpQ.bIn (h:LpQ w b X l s c f a):b ∈ X:=LAt.head h
theorem LpQ.put (h:LpQ w b X l s c f a) {r m cap:Nat} (hv:w.cell? ⟨b,0,none⟩=some (.slice (some ⟨r,0,none⟩) m cap)) {p:Nat} {x y:Pty} (hp:l[p]?=some x) {i:Nat} (hi:i < 3) {u:Value} (he:encPp y=(encPp x).set i u):
  LpQ (w.setCell ⟨r,p*3+i,none⟩ u) b X (l.set p y) s c f a∧Turned X w (w.setCell ⟨r,p*3+i,none⟩ u)∧(w.setCell ⟨r,p*3+i,none⟩ u).cell? ⟨b,0,none⟩=some (.slice (some ⟨r,0,none⟩) m cap):=by
 obtain⟨v0,h1,h2,h3⟩:=id h
 have e:=(cells5l h1).1
 rw [hv] at e
 cases e
 have hpl:p < l.length:=(List.getElem?_eq_some_iff.1 hp).1
 have hpx:l[p]=x:=(List.getElem?_eq_some_iff.1 hp).2
 have q:=LAt.cellSet (tS:=tLp) (tE:=tPq) (k:=3) (enc:=encPp) (cs:=fun v=> #[v, .int .u64 (a:Int), .int .u64 f, .int .i64 s, .int .i64 c]) encPp_len (by decide) h1 h2 (j:=p) (i:=i) (x:=y) (u:=u) hpl hi (by rw [hpx];exact he)
 have hne:b≠r:=fun e=>block_off h1 h2 (by decide) (by simp [Value.ownBlock,e])
 rw [h3]
 refine⟨q.1,q.2,?_⟩
 rw [World.cell?_of_block (Below.heap_setCell _ _ _ _ (by show b≠r;exact hne))]
 exact hv
theorem LpQ.setF (h:LpQ w b X l s c f a) (f':Int):LpQ (w.setCell ⟨b,2,none⟩ (.int .u64 f')) b X l s c f' a∧Turned X w (w.setCell ⟨b,2,none⟩ (.int .u64 f')):=
 LAt.field (tS:=tLp) (tE:=tPq) (cs':=fun v=> #[v, .int .u64 (a:Int), .int .u64 f', .int .i64 s, .int .i64 c]) h (by decide) (fun _=>rfl)
theorem LpQ.setA (h:LpQ w b X l s c f a) (a':Nat):LpQ (w.setCell ⟨b,1,none⟩ (.int .u64 (a':Int))) b X l s c f a'∧Turned X w (w.setCell ⟨b,1,none⟩ (.int .u64 (a':Int))):=
 LAt.field (tS:=tLp) (tE:=tPq) (cs':=fun v=> #[v, .int .u64 (a':Int), .int .u64 f, .int .i64 s, .int .i64 c]) h (by decide) (fun _=>rfl)
theorem LpQ.strip (h:LpQ w b X l s c f a) (e:l.map strip=l'.map strip):LpQ w b X l' s c f a:=by
 have hl:l.length=l'.length:=by have:=congrArg List.length e;simpa using this
 have hc:∀L:List Pty,cellsOf encPp L=(L.map Go.Proofs.YtcgjbllmoglhfaaDoor.strip).flatMap (fun x=>[.int .i64 x.1, .int .u64 x.2.1, .int .i64 x.2.2]):=fun L=>by
  unfold cellsOf
  rw [List.flatMap_map]
  rfl
 obtain⟨v,h1,h2,h3⟩:=h
 refine⟨v,h1,?_,h3⟩
 rw [hc,e, ←hc,hl] at h2
 exact h2
theorem lplen (h:LpQ w b X l s c f a):Calls Tryd.prog 18 #[.pointer (some ⟨b,0,none⟩)] w fun e w'=>e= .returned (.int .i64 (l.length:Nat))∧w'=w:=by
 obtain⟨ao,cap,c0,_⟩:=h.rows
 obtain⟨m,hm⟩:∃m,l.length=m:=⟨_,rfl⟩
 rw [hm] at c0 ⊢
 clear h hm
 go_enter Tryd.func18,Tryd.ntmps18
 go_wp2
 go_ret
 exact⟨rfl,rfl⟩
theorem lpfloor (h:LpQ w b X l s c f a):Calls Tryd.prog 15 #[.pointer (some ⟨b,0,none⟩)] w fun e w'=>e= .returned (.int .u64 f)∧w'=w:=by
 obtain⟨ao,cap,_,_,c2,_⟩:=h.rows
 clear h
 go_enter Tryd.func15,Tryd.ntmps15
 go_wp2
 go_ret
 exact⟨rfl,rfl⟩
theorem lpactive (h:LpQ w b X l s c f a):Calls Tryd.prog 16 #[.pointer (some ⟨b,0,none⟩)] w fun e w'=>e= .returned (.int .u64 (a:Int))∧w'=w:=by
 obtain⟨ao,cap,_,c1,_⟩:=h.rows
 clear h
 go_enter Tryd.func16,Tryd.ntmps16
 go_wp2
 go_ret
 exact⟨rfl,rfl⟩
def isL (m:Nat) (p:Int):Bool:=decide (0≤p)&&decide (p < m)
theorem lpis (h:LpQ w b X l s c f a) (p:Int):Calls Tryd.prog 29 #[.pointer (some ⟨b,0,none⟩), .int .i64 p] w fun e w'=>e= .returned (.bool (isL l.length p))∧w'=w:=by
 have HL:=xhd (lplen h)
 unfold isL
 obtain⟨m,hm⟩:∃m,l.length=m:=⟨_,rfl⟩
 rw [hm] at HL ⊢
 clear h hm
 cases b1:decide (0≤p) with
 |true=>
  have b1':(0:Int)≤p:=by simpa using b1
  go_enter Tryd.func29,Tryd.ntmps29
  go_wp2_with fail
  with_reducible refine HL.out.mono ?_
  rintro e w1 ⟨rfl,hw⟩
  obtain rfl:=hw.symm
  cases b2:decide (p < (m:Int)) with
  |true=>
   go_wp2
   go_ret
   exact⟨by rw [b2];rfl,rfl⟩
  |false=>
   go_wp2
   go_ret
   exact⟨by rw [b2];rfl,rfl⟩
 |false=>
  have b1':¬(0:Int)≤p:=by simpa using b1
  go_enter Tryd.func29,Tryd.ntmps29
  go_wp2
  go_ret
  exact⟨rfl,rfl⟩
end
attribute [local go_sem ↓] run_min_un run_max_un
theorem lpwithin (x hi:Int) (h:1≤hi) (w:World):Calls Tryd.prog 27 #[.int .i64 x, .int .i64 hi] w fun e w'=>e= .returned (.int .i64 (bringR x 1 hi))∧w'=w:=by
 rw [←bring_minmax h]
 go_enter Tryd.func27,Tryd.ntmps27
 go_wp2
 go_ret
 exact⟨rfl,rfl⟩
end Go.Proofs.YtcgjbllmoglhfaaDoor
namespace Go.Proofs.YtcgjbllmoglhfaaDoor
open Go.RowKit
structure BoxL (Y:List Nat) (w W:World) (N:Nat) (L:List (Value×TypeId)):Prop where
 bx:∀(i:Nat) (x:Value×TypeId),L[i]?=some x→W.heap[w.heap.size+i]?=some (.cells #[x.1] x.2 (0,0))
 t:Turned Y w W
 z:N≤W.heap.size
def allocs (w:World):List (Value×TypeId)→World
 |[]=>w
 |x::L=>allocs (w.alloc (.cells #[x.1] x.2)) L
section
variable {w W W':World} {Y Z:List Nat} {N:Nat} {L:List (Value×TypeId)}
theorem allocs_t:∀(L:List (Value×TypeId)) {W:World},Turned [] w W→Turned [] w (allocs W L)
 |[],_,h=>h
 |_::L,_,h=>allocs_t L (h.alloc _)
theorem allocs_at:∀(L:List (Value×TypeId)) (W:World) (i:Nat) (x:Value×TypeId),L[i]?=some x→(allocs W L).heap[W.heap.size+i]?=some (.cells #[x.1] x.2 (0,0))
 |y::L,W,0,x,h=>by
  cases h
  have t:=allocs_t (w:=W.alloc (.cells #[y.1] y.2)) L (Turned.refl [] _)
  exact t.same (heap_alloc_new W _) (by simp)
 |y::L,W,i+1,x,h=>by
  have q:=allocs_at L (W.alloc (.cells #[y.1] y.2)) i x h
  rw [World.size_alloc] at q
  rw [show W.heap.size+(i+1)=W.heap.size+1+i by omega]
  exact q
theorem BoxL.start (w:World) (L:List (Value×TypeId)):BoxL [] w (allocs w L) 0 L:=⟨allocs_at L w,allocs_t L (Turned.refl [] w),Nat.zero_le _⟩
theorem BoxL.one (h:BoxL Y w W N L) {i:Nat} {v:Value} {t:TypeId} (hi:L[i]?=some (v,t)):W.cell? ⟨w.heap.size+i,0,none⟩=some v∧W.frozen? ⟨w.heap.size+i,0,none⟩=false:=by
 have q:=h.bx i _ hi
 exact⟨cell1 q,frozen_of_row W _ 0 _ _ q⟩
theorem BoxL.one0 (h:BoxL Y w W N L) {v:Value} {t:TypeId} (hi:L[0]?=some (v,t)):W.cell? ⟨w.heap.size,0,none⟩=some v∧W.frozen? ⟨w.heap.size,0,none⟩=false:=h.one (i:=0) hi
theorem BoxL.lt (h:BoxL Y w W N L) {i:Nat} (hi:i < L.length):w.heap.size+i < W.heap.size:=lt_of_block (h.bx i _ (List.getElem?_eq_getElem hi))
theorem BoxL.size (h:BoxL Y w W N L):w.heap.size+L.length≤W.heap.size:=by
 by_cases h0:L.length=0
 ·have:=h.t.size;omega
 ·have:=h.lt (i:=L.length - 1) (by omega);omega
theorem BoxL.at_ (h:BoxL Y w W N L) (N':Nat) (hN:N'≤W.heap.size):BoxL Y w W N' L:=⟨h.bx,h.t,hN⟩
theorem BoxL.mild {N':Nat} (h:BoxL Y w W N L) (mm:Mild Z N' W W') (hN:w.heap.size≤N') (hZ:Z=[]):BoxL Y w W' N L:=by
 subst hZ
 exact⟨fun i x hx=>mm.cells (h.bx i x hx) (by simp),h.t.mild mm hN (by simp),Nat.le_trans h.z mm.size⟩
theorem BoxL.later (h:BoxL Y w W N L) (t:Turned Z W W') (hY:∀k ∈ Z,k ∈ Y∧k < w.heap.size):BoxL Y w W' N L:=
 ⟨fun i x hx=>t.same (h.bx i x hx) (fun hk=>by have:=(hY _ hk).2;omega),h.t.trans t (fun k hk=> .inl (hY k hk).1),Nat.le_trans h.z t.size⟩
theorem BoxL.later0 (h:BoxL Y w W N L) (t:Turned [] W W'):BoxL Y w W' N L:=h.later t (by simp)
theorem BoxL.set (h:BoxL Y w W N L) {i:Nat} {v u:Value} {t:TypeId} (hi:L[i]?=some (v,t)):BoxL Y w (W.setCell ⟨w.heap.size+i,0,none⟩ u) N (L.set i (u,t)):=by
 refine⟨fun j x hx=>?_,h.t.setCell (.inr (by show w.heap.size≤w.heap.size+i;omega)) _,by simp [World.setCell];exact h.z⟩
 by_cases e:i=j
 ·subst e
  have hl:i < L.length:=(List.getElem?_eq_some_iff.1 hi).1
  rw [List.getElem?_set,if_pos rfl,if_pos hl] at hx
  cases hx
  rw [heap_setCell_same _ _ _ _ _ _ (h.bx i _ hi)]
  rfl
 ·rw [List.getElem?_set,if_neg e] at hx
  exact (Below.heap_setCell _ _ _ _ (by show w.heap.size+j≠w.heap.size+i;omega)).trans (h.bx j x hx)
theorem BoxL.other (h:BoxL Y w W N L) {p o:Nat} (u:Value) (hp:w.heap.size+L.length≤p):BoxL Y w (W.setCell ⟨p,o,none⟩ u) N L:=by
 refine⟨fun i x hx=>?_,h.t.setCell (.inr (by show w.heap.size≤p;omega)) _,by simp [World.setCell];exact h.z⟩
 have hi:i < L.length:=(List.getElem?_eq_some_iff.1 hx).1
 exact (Below.heap_setCell _ _ _ _ (by show w.heap.size+i≠p;omega)).trans (h.bx i x hx)
theorem keepsFrom_turned {B:Nat} (t:Turned Y W W') (hY:∀k ∈ Y,k < B):KeepsFrom B W W':=
 ⟨t.size,fun k o hB hk _=>t.same hk (fun hy=>by have:=hY k hy;omega)⟩
theorem sameAt_set {p:Nat} {o:Nat} {u:Value} (h:p ∉ Y):SameAt Y W (W.setCell ⟨p,o,none⟩ u):=fun k hk=>Below.heap_setCell _ _ _ _ (by show k≠p;rintro rfl;exact h hk)
theorem sameAt_turned (t:Turned Z W W') (hY:∀k ∈ Y,k < W.heap.size∧k ∉ Z):SameAt Y W W':=SameAt.of_turned t hY
end
end Go.Proofs.YtcgjbllmoglhfaaDoor
namespace Go.Proofs.YtcgjbllmoglhfaaDoor
open Go.RowKit Go.Maps Go.Shelf
attribute [local go_sem] Oper.semAt_some
abbrev tPL:TypeId:=26
structure LpV (w:World) (pa:Option Addr) (l:List Pty):Prop where
 is:∀(p:Int) (W:World),Turned [] w W→Calls Tryd.prog 29 #[.pointer pa, .int .i64 p] W fun e w'=>e= .returned (.bool (isL l.length p))∧w'=W
 at_:∀(W:World),Turned [] w W→∀(j:Nat) (x:Pty),l[j]?=some x→∃b r cap,pa=some ⟨b,0,none⟩∧W.cell? ⟨b,0,none⟩=some (.slice (some ⟨r,0,none⟩) l.length cap)∧W.cell? ⟨r,j*3,none⟩=some (.int .i64 x.1)∧W.cell? ⟨r,j*3+1,none⟩=some (.int .u64 x.2.1)∧W.cell? ⟨r,j*3+2,none⟩=some (.int .i64 x.2.2.1)∧
  ∀(i:Nat) (y:Pty),l[i]?=some y→W.cell? ⟨r,i*3+1,none⟩=some (.int .u64 y.2.1)
 len:l.length≤8
section
variable {w w':World} {b:Nat} {X Y:List Nat} {l l':List Pty} {s c f:Int} {a:Nat} {g:Lg} {n:Int} {pa:Option Addr}
theorem LpV.later (h:LpV w pa l) (t:Turned [] w w'):LpV w' pa l:=⟨fun p W u=>h.is p W (t.trans' u (by simp)),fun W u=>h.at_ W (t.trans' u (by simp)),h.len⟩
theorem LpQ.v (h:LpQ w b X l s c f a) (hl:l.length≤8):LpV w (some ⟨b,0,none⟩) l where
 is:=fun p W t=>lpis (h.keep0 t) p
 at_:=fun W t j x hx=>by
  obtain⟨ao,cap,q0,_,_,_,_,_,_,hr⟩:=(h.keep0 t).rows
  obtain⟨r,rfl,r0,r1,r2,_,_,_⟩:=hr j x hx
  refine⟨b,r,cap,rfl,q0,r0,r1,r2,fun i y hy=>?_⟩
  obtain⟨r',e,_,r1',_⟩:=hr i y hy
  cases e
  exact r1'
 len:=hl
theorem lplen_nil (w:World):Calls Tryd.prog 18 #[.pointer none] w fun e w'=>e= .returned (.int .i64 0)∧w'=w:=by
 go_enter Tryd.func18,Tryd.ntmps18
 go_wp2
 go_ret
 exact⟨rfl,rfl⟩
theorem lpis_nil (p:Int) (w:World):Calls Tryd.prog 29 #[.pointer none, .int .i64 p] w fun e w'=>e= .returned (.bool (isL 0 p))∧w'=w:=by
 have HL:=xhd (lplen_nil w)
 unfold isL
 cases b1:decide (0≤p) with
 |true=>
  have b1':(0:Int)≤p:=by simpa using b1
  have b2:decide (p < ((0:Nat):Int))=false:=by simp;omega
  rw [b2]
  go_enter Tryd.func29,Tryd.ntmps29
  go_wp2_with fail
  with_reducible refine HL.out.mono ?_
  rintro e w1 ⟨rfl,hw⟩
  obtain rfl:=hw.symm
  have b3:decide (p < 0)=false:=b2
  go_wp2
  go_ret
  exact⟨rfl,rfl⟩
 |false=>
  have b1':¬(0:Int)≤p:=by simpa using b1
  go_enter Tryd.func29,Tryd.ntmps29
  go_wp2
  go_ret
  exact⟨rfl,rfl⟩
theorem LpV.nil (w:World):LpV w none [] where
 is:=fun p W _=>lpis_nil p W
 at_:=fun W t j x hx=>by simp at hx
 len:=Nat.zero_le _
theorem lp_result {fn:Func} {p:Tmp} (hf:fn.results= #[.cell p tPq]) {tmps:Array Value} {w:World} {B:Nat} {x y z:Value} {t:TypeId} (hp:tmps.getD p undef= .pointer (some ⟨B,0,none⟩)) (h:w.heap[B]?=some (.cells #[x,y,z] t (0,0))):
  (results fn tmps).run Tryd.prog w= .ok (.agg #[x,y,z]) w:=by
 have h0:w.cell? ⟨B,0,none⟩=some x:=by simp [World.cell?,h]
 have h1:w.cell? ⟨B,1,none⟩=some y:=by simp [World.cell?,h]
 have h2:w.cell? ⟨B,2,none⟩=some z:=by simp [World.cell?,h]
 have hp':tmps[p]?.getD undef= .pointer (some ⟨B,0,none⟩):=by simpa using hp
 simp [results,hf,hp',asAddr,loadVar,go_sem,h0,h1,h2]
def lookP (l:List Pty) (p:Int):Value:= .agg #[.int .i64 (wtAt l p), .int .u64 (vAt l p), .int .i64 (heldAt l p)]
theorem all_out {p:Int} (h:isL l.length p=false):wtAt l p=0∧vAt l p=0∧heldAt l p=0:=by
 have h':¬(0≤p∧p < l.length):=by unfold isL at h;simp at h;omega
 unfold wtAt vAt heldAt
 by_cases h0:p < 0
 ·simp [h0]
 ·simp only [if_neg h0]
  rw [List.getElem?_eq_none (by omega)]
  simp
theorem lplook (h:LpV w pa l) (p:Int):Calls Tryd.prog 43 #[.pointer pa, .int .i64 p] w fun e w'=>e= .returned (lookP l p)∧Turned [] w w':=by
 have HIS:=xhd (fun W t=>h.is p W t)
 unfold lookP
 have ta:Turned [] w (w.alloc (.cells #[.int .i64 0, .int .u64 0, .int .i64 0] tPq)):=(Turned.refl [] w).alloc _
 have HTA:=xhd ta
 cases hp:isL l.length p with
 |true=>
  obtain⟨j,rfl,hj⟩:∃j:Nat,p=j∧j < l.length:=by unfold isL at hp;simp at hp;exact⟨p.toNat,by omega,by omega⟩
  obtain⟨b,r,cap,rfl,q0,r0,r1,r2,ry⟩:=h.at_ _ ta j _ (List.getElem?_eq_getElem hj)
  clear ry
  have e0:wtAt l j=l[j].1:=by rw [wtAt_nat,List.getElem?_eq_getElem hj];rfl
  have e1:vAt l j=l[j].2.1:=by rw [vAt_nat,List.getElem?_eq_getElem hj];rfl
  have e2:heldAt l j=l[j].2.2.1:=by unfold heldAt;rw [if_neg (by omega),Int.toNat_natCast,List.getElem?_eq_getElem hj];rfl
  rw [e0,e1,e2]
  obtain⟨x0,h0⟩:∃x,l[j].1=x:=⟨_,rfl⟩
  obtain⟨x1,h1⟩:∃x,l[j].2.1=x:=⟨_,rfl⟩
  obtain⟨x2,h2⟩:∃x,l[j].2.2.1=x:=⟨_,rfl⟩
  rw [h0] at r0 ⊢
  rw [h1] at r1 ⊢
  rw [h2] at r2 ⊢
  rw [hp] at HIS
  have i0:(0:Int)≤j:=by omega
  have i1:(j:Int) < l.length:=by omega
  obtain⟨m,hm⟩:∃m,l.length=m:=⟨_,rfl⟩
  rw [hm] at i1 q0
  clear e0 e1 e2 h hp hm ta h0 h1 h2
  go_enter Tryd.func43,Tryd.ntmps43
  go_wp2_with fail
  with_reducible refine (HIS.out _ HTA.out).mono ?_
  rintro e w1 ⟨rfl,hw⟩
  obtain rfl:=hw.symm
  go_wp2
  exact bodyPost_ret (lp_result rfl rfl (heap_alloc_new w _)) rfl ⟨rfl,(Turned.refl [] w).alloc _⟩
 |false=>
  obtain⟨e0,e1,e2⟩:=all_out hp
  rw [e0,e1,e2]
  rw [hp] at HIS
  clear e0 e1 e2 h hp ta
  go_enter Tryd.func43,Tryd.ntmps43
  go_wp2_with fail
  with_reducible refine (HIS.out _ HTA.out).mono ?_
  rintro e w1 ⟨rfl,hw⟩
  obtain rfl:=hw.symm
  go_wp2
  exact bodyPost_ret (lp_result rfl rfl (heap_alloc_new w _)) rfl ⟨rfl,(Turned.refl [] w).alloc _⟩
theorem lp_field0 (x y z:Int) (w:World):(Instr.field tPq (.agg #[.int .i64 x, .int .u64 y, .int .i64 z]) 0).run Tryd.prog w= .ok (.int .i64 x) w:=by kernel_rfl
theorem lp_field1 (x y z:Int) (w:World):(Instr.field tPq (.agg #[.int .i64 x, .int .u64 y, .int .i64 z]) 1).run Tryd.prog w= .ok (.int .u64 y) w:=by kernel_rfl
theorem lp_field2 (x y z:Int) (w:World):(Instr.field tPq (.agg #[.int .i64 x, .int .u64 y, .int .i64 z]) 2).run Tryd.prog w= .ok (.int .i64 z) w:=by kernel_rfl
theorem lpv (h:LpV w pa l) (p:Int):Calls Tryd.prog 24 #[.pointer pa, .int .i64 p] w fun e w'=>e= .returned (.int .u64 (vAt l p))∧Turned [] w w':=by
 have HL:=xhd (lplook h p)
 unfold lookP at HL
 obtain⟨x0,h0⟩:∃x,wtAt l p=x:=⟨_,rfl⟩
 obtain⟨x1,h1⟩:∃x,vAt l p=x:=⟨_,rfl⟩
 obtain⟨x2,h2⟩:∃x,heldAt l p=x:=⟨_,rfl⟩
 rw [h0,h1,h2] at HL
 rw [h1]
 clear h h0 h1 h2
 have hf:=fun W=>lp_field1 x0 x1 x2 W
 go_enter Tryd.func24,Tryd.ntmps24
 go_wp2_with fail
 with_reducible refine HL.out.mono ?_
 rintro e w1 ⟨rfl,ht⟩
 have HT:=xhd ht
 clear ht
 go_wp2
 go_ret
 exact⟨rfl,HT.out⟩
theorem lpheld (h:LpV w pa l) (p:Int):Calls Tryd.prog 25 #[.pointer pa, .int .i64 p] w fun e w'=>e= .returned (.int .i64 (heldAt l p))∧Turned [] w w':=by
 have HL:=xhd (lplook h p)
 unfold lookP at HL
 obtain⟨x0,h0⟩:∃x,wtAt l p=x:=⟨_,rfl⟩
 obtain⟨x1,h1⟩:∃x,vAt l p=x:=⟨_,rfl⟩
 obtain⟨x2,h2⟩:∃x,heldAt l p=x:=⟨_,rfl⟩
 rw [h0,h1,h2] at HL
 rw [h2]
 clear h h0 h1 h2
 have hf:=fun W=>lp_field2 x0 x1 x2 W
 go_enter Tryd.func25,Tryd.ntmps25
 go_wp2_with fail
 with_reducible refine HL.out.mono ?_
 rintro e w1 ⟨rfl,ht⟩
 have HT:=xhd ht
 clear ht
 go_wp2
 go_ret
 exact⟨rfl,HT.out⟩
theorem lpweight (h:LpV w pa l) (p:Int):Calls Tryd.prog 26 #[.pointer pa, .int .i64 p] w fun e w'=>e= .returned (.int .i64 (wtAt l p))∧Turned [] w w':=by
 have HL:=xhd (lplook h p)
 unfold lookP at HL
 obtain⟨x0,h0⟩:∃x,wtAt l p=x:=⟨_,rfl⟩
 obtain⟨x1,h1⟩:∃x,vAt l p=x:=⟨_,rfl⟩
 obtain⟨x2,h2⟩:∃x,heldAt l p=x:=⟨_,rfl⟩
 rw [h0,h1,h2] at HL
 rw [h0]
 clear h h0 h1 h2
 have hf:=fun W=>lp_field0 x0 x1 x2 W
 go_enter Tryd.func26,Tryd.ntmps26
 go_wp2_with fail
 with_reducible refine HL.out.mono ?_
 rintro e w1 ⟨rfl,ht⟩
 have HT:=xhd ht
 clear ht
 go_wp2
 go_ret
 exact⟨rfl,HT.out⟩
theorem lpours (h:LpV w pa l) (hT:TabOk w) (S:Nat) (hS:S < 18446744073709551616):
  Calls Tryd.prog 33 #[.pointer pa, .int .u64 (S:Int)] w fun e w'=>e= .returned (.int .u64 (inTo S l.length:Nat))∧Turned [] w w':=by
 refine callsIn_wide.1 (?_:CallsIn Fence.wide 20 _ _ _ _ _)
 refine callsIn_of_wp_marks Tryd.func33 rfl trivial ?_ rfl
 simp only [Tryd.ntmps33,List.size_toArray,List.length_cons,List.length_nil,Nat.reduceAdd,Nat.reduceSub,Array.replicate_succ,Array.replicate_zero,List.push_toArray,List.append_toArray,List.nil_append,List.cons_append]
 refine wpIn_wide.2 ?_
 have h0:=BoxL.start w [(.pointer pa,tPL),(.int .u64 0,30)]
 obtain⟨W0,hW0⟩:∃W0,(w.alloc (.cells #[.pointer pa] tPL)).alloc (.cells #[.int .u64 0] 30)=W0:=⟨_,rfl⟩
 have h0:BoxL [] w W0 0 [(.pointer pa,tPL),(.int .u64 0,30)]:=hW0 ▸ h0
 have HB0:=xhd h0
 have HW0:=xhd hW0
 have HT:=xhd hT
 have HQ:=xhd h
 have hw0:w.heap.size+2≤W0.heap.size:=h0.size
 clear h0 hW0 hT h
 go_wp2_with fail
 have hW0:=HW0.out
 (try rw [hW0])
 clear hW0
 with_reducible refine (all_any S _).mono ?_
 rintro e W1 ⟨rfl,hW1⟩
 have hA:W1.heap[W0.heap.size]?=some (.cells #[.int .u64 (S:Nat)] 30 (0,0)):=by rw [hW1];exact heap_alloc_new W0 _
 have t1:Turned [] W0 W1:=by rw [hW1];exact (Turned.refl [] W0).alloc _
 have hT1:TabOk W1:=HT.out.turned (HB0.out.t.trans' t1 (by simp)) (by simp)
 have hseq:=all1_seq (n:=19) (by omega) hA hS hT1
 have HB1:=xhd ((HB0.out.later0 t1).at_ W1.heap.size (Nat.le_refl _))
 have HSEQ:=xhd hseq
 have HT1:=xhd hT1
 have hw1:W0.heap.size≤W1.heap.size:=t1.size
 have HLT:=xhd HT.out.lt
 obtain⟨B,hB⟩:∃B,W0.heap.size=B:=⟨_,rfl⟩
 rw [hB] at HSEQ hw0 hw1 ⊢
 clear hA t1 hT1 hseq HB0 hW1 hB
 clear HW0
 go_wp2_with fail
 refine (wpIn_wide (n:=20)).1 ?_
 refine range_turns_plain rfl (by omega) (gf:=49) (lb:= #[.pointer (some ⟨B,0,none⟩)]) rfl trivial (enters_of Tryd.func49 (by kernel_rfl) rfl)
  (X:=[]) (Y:=[0]) (by simp) (fun k hk=>by rw [List.mem_singleton] at hk;subst hk;exact HT1.out.lt) HSEQ.out (fun _=>rfl) (fun _ _ _ h _=>h) (fun _ _ _ h _=>h)
  (fun pre W=>BoxL [] w W W1.heap.size [(.pointer pa,tPL),(.int .u64 (pre.foldl (ourSt l.length) 0:Nat),30)])
  (fun _ _ _=>False)
  (fun xs A B h mm=>h.mild mm (by omega) rfl) (fun c xs A B h mm=>h) HB1.out
  ?a1 ?assign ?body ?done ?stop
 case assign=>
  intro l x W K hK
  gi_wp2
  exact hK
 case body=>
  rintro lp pre p W hI hsp
  obtain⟨c0,f0⟩:=hI.one0 rfl
  obtain⟨c1,f1⟩:=hI.one (i:=1) rfl
  have HIS:=xhd (HQ.out.is p W hI.t)
  have hlt:=our_lt (pre:=pre) (m:=l.length) (s:=0) (by decide)
  have hs:=foldl_snoc (ourSt l.length) 0 pre p
  obtain⟨q,hq⟩:∃q,pre.foldl (ourSt l.length) 0=q:=⟨_,rfl⟩
  rw [hq] at c1 hlt hs
  have HWI:=xhd (fun W=>with_same q p W hlt)
  have HI:=xhd hI
  have HS:=xhd hs
  have HQQ:=xhd hq
  obtain⟨m,hm0⟩:∃m,l.length=m:=⟨_,rfl⟩
  have HM:=xhd hm0
  rw [hm0] at HIS
  clear hI hsp hs hq hm0 hlt
  cases hp:isL m p with
  |true=>
   rw [hp] at HIS
   have HST:Hid (ourSt m q p=withN q p):=xhd (by unfold ourSt;unfold isL at hp;simp at hp;rw [if_pos hp])
   clear hp
   gi_wp2_with fail
   refine⟨trivial,?_⟩
   refine (CallsIn.inRound lp (callsIn_wide.2 HIS.out)).mono ?_
   rintro e' V ⟨rfl,hw⟩
   obtain rfl:=hw.symm
   gi_wp2_with fail
   refine⟨trivial,?_⟩
   refine (CallsIn.inRound lp (callsIn_wide.2 (HWI.out _))).mono ?_
   rintro e' V ⟨rfl,hw⟩
   obtain rfl:=hw.symm
   gi_wp2
   refine⟨(KeepsOthers.setCell _ _ _).from _,sameAt_set (by have:=HLT.out;simp only [List.mem_singleton];omega),?_⟩
   show BoxL [] w _ _ [(.pointer pa,tPL),(.int .u64 (((pre++[p]).foldl (ourSt l.length) 0:Nat):Int),30)]
   rw [HS.out,HM.out,HST.out]
   exact HI.out.set (i:=1) rfl
  |false=>
   rw [hp] at HIS
   have HST:Hid (ourSt m q p=q):=xhd (by unfold ourSt;unfold isL at hp;rw [if_neg];intro hh;simp [hh.1,hh.2] at hp)
   clear hp
   gi_wp2_with fail
   refine⟨trivial,?_⟩
   refine (CallsIn.inRound lp (callsIn_wide.2 HIS.out)).mono ?_
   rintro e' V ⟨rfl,hw⟩
   obtain rfl:=hw.symm
   gi_wp2
   refine⟨KeepsFrom.refl _ _,SameAt.refl _ _,?_⟩
   show BoxL [] w _ _ [(.pointer pa,tPL),(.int .u64 (((pre++[p]).foldl (ourSt l.length) 0:Nat):Int),30)]
   rw [HS.out,HM.out,HST.out, ←HQQ.out]
   exact HI.out
 case done=>
  rintro D xs W hD rfl hI hK
  rw [ours_all] at hI
  obtain⟨c1,f1⟩:=hI.one (i:=1) rfl
  have HI:=xhd hI
  have HKD:=xhd hK
  clear hI hK
  go_wp2
  refine⟨by simp, .inl ⟨_,_,rfl,run_takeDeferred HKD.out,?_⟩⟩
  exact⟨_,results_tmp rfl _ _ _,rfl,HI.out.t.put (by omega) _⟩
 case stop=>
  rintro D c xs W _ _ h _
  exact h.elim
end
end Go.Proofs.YtcgjbllmoglhfaaDoor
