/-
  The program's begins: is that word one of a part's firsts?
  Programs that are parsed, plainly: the place that is told is one of the words', the ops are small.
  What Words answers; a row of words that grows.
  The program's Each, and what a loop over it hands out.
  The program's May.
  The program's reader of acts, plainly: a kind, numbers, an act, acts.
  Acts as values, in cells, in rows. (Made by gen_acval.py.)
  The program's shapes of acts: shapeOf, Name, may.
  The program's kindOf of acts. (Made by gen_ackind.py out of prog's.)
-/
import Derived.Test.YtbnhnnccioljhaaGreatDoorZAE
import Derived.Test.YtbnhnnccioljhaaGreatDoorZAA
import Derived.Test.YtbnhnnccioljhaaGreatDoorZAC
import Derived.Test.YtbnhnnccioljhaaGreatDoorZAB
import Derived.Test.YtbnhnnccioljhaaGreatDoorZAD
import Derived.Lib.SliceRun
import Derived.Shelf.Abstract
import Derived.OwnWalkIn
import Derived.TacticsInMore
import Derived.LoopNIn
import Derived.LoopIn
import Derived.Sort.LoopGhostIn
import Derived.Test.YtbnhnnccioljhaaGreatDoorZAl
set_option maxRecDepth 100000
set_option maxHeartbeats 25600000
namespace Go.Proofs.YtbnhnnccioljhaaGreatDoor
open Go.RowKit
def firstOf (x:Wd) (f:ByteArray):Bool:=decide (x=(1,f.data.toList,0,0))
abbrev begV (B:Nat):Value:= .func (.func 179) #[] #[.pointer (some ⟨B,0,none⟩)]
abbrev WBox (w:World) (B:Nat) (x:Wd):Prop:=w.heap[B]?=some (.cells #[.int .i64 x.1, .string ⟨x.2.1.toArray⟩, .int .i64 x.2.2.1, .int .i64 x.2.2.2] 95 (0,0))
theorem begin1_any (B:Nat) (x:Wd) (f:ByteArray) (w:World) (h:WBox w B x):
  Calls Tryz.prog 179 #[.string f, .pointer (some ⟨B,0,none⟩)] w fun e w'=>e= .returned (.bool (firstOf x f))∧Below w.heap.size w w':=by
 unfold firstOf
 have hq:=fun W=>eq_words x (1,f.data.toList,0,0) W
 have hl:=lt_of_block h
 unfold wdV at hq
 simp only [Lib.mk_data] at hq
 unfold WBox at h
 obtain⟨x0,tl,x2,x3⟩:=x
 simp only at h hq
 obtain⟨tx,htx⟩:∃t:ByteArray,⟨tl.toArray⟩=t:=⟨_,rfl⟩
 rw [htx] at h
 simp only [htx] at hq
 obtain⟨q,hqq⟩:∃q,decide ((x0,tl,x2,x3)=((1,f.data.toList,0,0):Wd))=q:=⟨_,rfl⟩
 rw [hqq]
 simp only [hqq] at hq
 have HK:=xhd (fun V (hV:Below w.heap.size w V)=>word_cells ((hV.block _ hl).trans h))
 have HNM:=xhd (fun W=>pname_any f W)
 have s0:=HK.out w.drew (Below.refl _ _).drew
 clear h htx hqq
 go_enter Tryz.func179,Tryz.ntmps179
 go_wp2_with fail
 go_region_held3 (fun V=>V.cell? ⟨B,0,none⟩=some (.int .i64 x0)∧V.cell? ⟨B,1,none⟩=some (.string tx)∧V.cell? ⟨B,2,none⟩=some (.int .i64 x2)∧V.cell? ⟨B,3,none⟩=some (.int .i64 x3))
  (first|exact s0|exact s1)
  (first
    |(go_at_call 90
      with_reducible refine (HNM.out _).mono ?_
      rintro r V1 ⟨rfl,hb⟩
      have HV1:=xhd ((Below.refl w.heap.size w).drew.trans hb)
      have s1:=HK.out _ HV1.out
      clear hb))
 clear s0 s1 hq
 go_wp2
 go_ret
 exact⟨rfl,HV1.out⟩
theorem indexfirst_any (B pb off pc:Nat) (x:Wd) (F:List ByteArray) (w:World) (hx:WBox w B x) (h:TArg w pb off F) (hm:F.length≤100000):
  Calls Tryz.prog 189 #[.slice (some ⟨pb,off,none⟩) F.length pc,begV B] w fun e w'=>(∃r:Int,e= .returned (.int .i64 r)∧decide (0≤r)=F.any (firstOf x))∧Below w.heap.size w w':=by
 have HA:=xhd h
 have HR:=xhd (fun f V (hV:Below w.heap.size w V)=>begin1_any B x f V ((hV.block _ (lt_of_block hx)).trans hx))
 obtain⟨n,hn⟩:∃n,F.length=n:=⟨_,rfl⟩
 have HN:=xhd hn
 rw [hn] at hm ⊢
 clear h hn hx
 go_enter Tryz.func189,Tryz.ntmps189
 go_wp2
 go_loopw [8] (fun s wr=>∃i:Nat,s= .int .i64 (i:Nat)∧i≤n∧Hid (Below w.heap.size w wr)∧Hid (∀j (hj:j < F.length),j < i→firstOf x F[j]=false)) (fun s _=>n - (intOf s).toNat)
 case atStart=>exact⟨0,rfl,Nat.zero_le _,Below.refl _ w,fun j _ hj=>absurd hj (Nat.not_lt_zero _)⟩
 case round=>
  obtain⟨i,rfl,hi,HB,HO⟩:=hrel
  by_cases hlt:i < n
  ·have hiL:i < F.length:=by rw [HN.out];exact hlt
   have hA:=HA.out.below HB.out
   have x0:=hA.cells i hiL
   obtain⟨f,hf⟩:∃f,F[i]=f:=⟨_,rfl⟩
   rw [hf] at x0
   have HX:=xhd hf
   have i0:(0:Int)≤i:=by omega
   have i1:(i:Int) < n:=by omega
   have i2:IntKind.i64.wrap ((i:Int)+1)=(i:Int)+1:=by rw [IntKind.wrap_i64];omega
   have HRK:=xhd (HR.out f wr HB.out)
   obtain⟨q,hq⟩:∃q,firstOf x f=q:=⟨_,rfl⟩
   have HQ:=xhd hq
   rw [hq] at HRK
   clear hf hq hA
   cases q with
   |true=>
    have HE:Hid (F.any (firstOf x)=true):=xhd (by
     rw [List.any_eq_true]
     exact⟨_,List.getElem_mem hiL,by rw [HX.out];exact HQ.out⟩)
    go_wp2_with fail
    with_reducible refine HRK.out.mono ?_
    rintro e w1 ⟨rfl,hb⟩
    have HB1:=xhd (HB.out.trans (hb.mono HB.out.size))
    clear hb
    go_wp2
    go_ret
    exact⟨⟨_,rfl,by rw [HE.out];exact decide_eq_true i0⟩,HB1.out⟩
   |false=>
    have HO2:Hid (∀j (hj:j < F.length),j < i+1→firstOf x F[j]=false):=xhd (fun j hj hji=>by
     rcases Nat.lt_or_ge j i with h|h
     ·exact HO.out j hj h
     ·obtain rfl:j=i:=by omega
      rw [HX.out]
      exact HQ.out)
    go_wp2_with fail
    with_reducible refine HRK.out.mono ?_
    rintro e w1 ⟨rfl,hb⟩
    have HB1:=xhd (HB.out.trans (hb.mono HB.out.size))
    clear hb
    go_wp2
    go_roundw
    case rel=>exact⟨i+1,by go_num,by omega,HB1,HO2⟩
    case measure=>simp [intOf];omega
  ·have HE:Hid (F.any (firstOf x)=false):=xhd (by
     rw [List.any_eq_false]
     intro o ho
     obtain⟨j,hj,rfl⟩:=List.getElem_of_mem ho
     rw [HO.out j hj (by have:=HN.out;omega)]
     decide)
   go_wp2
   go_ret
   exact⟨⟨_,rfl,by rw [HE.out];rfl⟩,HB.out⟩
theorem containsfirst_any (B pb off pc:Nat) (x:Wd) (F:List ByteArray) (w:World) (hx:WBox w B x) (h:TArg w pb off F) (hm:F.length≤100000):
  Calls Tryz.prog 178 #[.slice (some ⟨pb,off,none⟩) F.length pc,begV B] w fun e w'=>e= .returned (.bool (F.any (firstOf x)))∧Below w.heap.size w w':=by
 have HI:=xhd (indexfirst_any B pb off pc x F w hx h hm)
 obtain⟨n,hn⟩:∃n,F.length=n:=⟨_,rfl⟩
 obtain⟨q,hq⟩:∃q,F.any (firstOf x)=q:=⟨_,rfl⟩
 rw [hn,hq] at HI
 rw [hn,hq]
 clear h hn hq hm hx
 go_enter Tryz.func178,Tryz.ntmps178
 go_wp2_with fail
 with_reducible refine HI.out.mono ?_
 rintro e w1 ⟨⟨r,rfl,hr⟩,hb⟩
 have HR:=xhd hr
 have HB:=xhd hb
 clear hr hb
 go_wp2
 go_ret
 exact⟨by rw [←HR.out];rfl,HB.out⟩
theorem begins_any (lo hi:Int) (pb off pc:Nat) (x:Wd) (F:List ByteArray) (w:World) (h:TArg w pb off F) (hm:F.length≤100000):
  Calls Tryz.prog 162 #[.agg #[.int .i64 lo, .int .i64 hi, .slice (some ⟨pb,off,none⟩) F.length pc],wdV x] w fun e w'=>e= .returned (.bool (F.any (firstOf x)))∧Below w.heap.size w w':=by
 have hb:Below w.heap.size w ((w.alloc (.cells #[.int .i64 lo, .int .i64 hi, .slice (some ⟨pb,off,none⟩) F.length pc] 172)).alloc (.cells #[.int .i64 x.1, .string ⟨x.2.1.toArray⟩, .int .i64 x.2.2.1, .int .i64 x.2.2.2] 95)):=((Below.refl _ w).alloc (Nat.le_refl _) _).alloc (by simp) _
 have hw:=heap_alloc_new (w.alloc (.cells #[.int .i64 lo, .int .i64 hi, .slice (some ⟨pb,off,none⟩) F.length pc] 172)) (.cells #[.int .i64 x.1, .string ⟨x.2.1.toArray⟩, .int .i64 x.2.2.1, .int .i64 x.2.2.2] 95)
 simp only [World.size_alloc] at hw
 have HC:=xhd (containsfirst_any (w.heap.size+1) pb off pc x F _ hw (h.below hb) hm)
 have HB:=xhd hb
 obtain⟨n,hn⟩:∃n,F.length=n:=⟨_,rfl⟩
 obtain⟨q,hq⟩:∃q,F.any (firstOf x)=q:=⟨_,rfl⟩
 unfold wdV
 rw [hn,hq] at HC
 rw [hn] at HB
 rw [hn,hq]
 obtain⟨tx,htx⟩:∃t:ByteArray,⟨x.2.1.toArray⟩=t:=⟨_,rfl⟩
 rw [htx] at HC HB ⊢
 clear h hn hq hm hw hb htx
 go_enter Tryz.func162,Tryz.ntmps162
 go_wp2_with fail
 with_reducible refine HC.out.mono ?_
 rintro e w1 ⟨rfl,hb⟩
 have HB1:=xhd (HB.out.trans (hb.mono (by simp;omega)))
 clear hb
 go_wp2
 go_ret
 exact⟨rfl,HB1.out⟩
end Go.Proofs.YtbnhnnccioljhaaGreatDoor
namespace Go.Proofs.YtbnhnnccioljhaaGreatDoor
def placeE {α:Type} (L:List Wd):Except Bad (α×Nat)→Prop
 | .error e=>e.1≤L.length
 | .ok x=>x.2≤L.length
theorem arg_place {L:List Wd} {a:Nat} (ha:a≤L.length) (lo hi:Int):placeE L (argR L a lo hi):=by
 unfold argR
 cases hx:L[a]? with
 |none=>exact ha
 |some x=>
  have hlt:=(List.getElem?_eq_some_iff.1 hx).1
  simp only
  split
  ·split
   ·exact ha
   ·exact hlt
  ·exact ha
theorem op_place {L:List Wd} {a:Nat} (ha:a≤L.length) (k:Int):placeE L (opR L a k):=by
 unfold opR
 have h1:placeE L (arg1R L a k):=by
  unfold arg1R
  split
  ·exact ha
  ·exact arg_place ha _ _
 cases e1:arg1R L a k with
 |error e=>
  rw [e1] at h1
  exact h1
 |ok x=>
  rw [e1] at h1
  obtain⟨x,a1⟩:=x
  simp only
  have h2:placeE L (arg2R L a1 k):=by
   unfold arg2R
   split
   ·exact arg_place h1 _ _
   ·exact h1
  cases e2:arg2R L a1 k with
  |error e=>
   rw [e2] at h2
   exact h2
  |ok y=>
   rw [e2] at h2
   obtain⟨y,a2⟩:=y
   simp only
   cases e3:isR L a2 3 [59] with
   |true=>exact is_lt e3
   |false=>exact h2
theorem kindUp_lt {L:List Wd} {a:Nat} :∀n,kindUp L a n≠0→a < L.length
 |0,h=>absurd rfl h
 |n+1,h=>by
  unfold kindUp at h
  split at h
  ·next h1=>
   exact is_lt (by simpa using h1)
  ·exact kindUp_lt n h
theorem ops_place {L:List Wd} :∀(n a:Nat) (ops:List Opn),a≤L.length→placeE L (opsR L n a ops)
 |0,a,ops,ha=>ha
 |n+1,a,ops,ha=>by
  unfold opsR
  cases e1:isR L a 3 [125] with
  |true=>
   rw [if_pos rfl]
   split
   ·exact ha
   ·exact is_lt e1
  |false=>
   rw [if_neg (by simp)]
   split
   ·exact ha
   ·next hk=>
    split
    ·exact ha
    ·have hlt:a < L.length:=kindUp_lt 11 hk
     have h1:=op_place (L:=L) (a:=a+1) hlt (kindR L a)
     cases e2:opR L (a+1) (kindR L a) with
     |error e=>
      rw [e2] at h1
      exact h1
     |ok x=>
      rw [e2] at h1
      obtain⟨o,a2⟩:=x
      exact ops_place n a2 _ h1
theorem parse_place {L:List Wd} {a:Nat} (ha:a≤L.length):∃n:Nat,(parseR L a).2.1=n∧n≤L.length:=by
 cases h1:isR L a 1 progB with
 |false=>exact⟨a,by rw [parse_prog ha h1],ha⟩
 |true=>
  have hlt:=is_lt h1
  obtain⟨⟨f,a1⟩,ho⟩:∃x,openR L (a+1)=x:=⟨_,rfl⟩
  have h2:a1≤L.length:=by
   unfold openR at ho
   cases h3:isR L (a+1) 1 foreverB with
   |true=>
    rw [h3,if_pos rfl] at ho
    have:=is_lt h3
    simp only [Prod.mk.injEq] at ho
    omega
   |false=>
    rw [h3,if_neg (by simp)] at ho
    simp only [Prod.mk.injEq] at ho
    omega
  cases h4:isR L a1 3 [123] with
  |false=>exact⟨a1,by rw [parse_open ha h1 ho h4],h2⟩
  |true=>
   have h5:=ops_place (L:=L) 13 (a1+1) [] (is_lt h4)
   rw [parse_ops ha h1 ho h4]
   cases e5:opsR L 13 (a1+1) [] with
   |error e=>
    rw [e5] at h5
    exact⟨e.1,rfl,h5⟩
   |ok x=>
    rw [e5] at h5
    obtain⟨ops,d⟩:=x
    exact⟨d,rfl,h5⟩
theorem parse_none {L:List Wd} {a:Nat} (ha:a≤L.length) (h:(parseR L a).2.2≠0):(parseR L a).1.2=[]:=by
 cases h1:isR L a 1 progB with
 |false=>rw [parse_prog ha h1]
 |true=>
  obtain⟨⟨f,a1⟩,ho⟩:∃x,openR L (a+1)=x:=⟨_,rfl⟩
  cases h4:isR L a1 3 [123] with
  |false=>rw [parse_open ha h1 ho h4]
  |true=>
   rw [parse_ops ha h1 ho h4] at h ⊢
   cases e5:opsR L 13 (a1+1) [] with
   |error e=>rfl
   |ok x=>
    rw [e5] at h
    obtain⟨ops,d⟩:=x
    exact absurd rfl h
theorem op_small {o:Opn} (h:opMay o=true):small o.1:=by
 simp only [opMay,Bool.and_eq_true] at h
 have h1:=h.1
 unfold small
 by_cases hk:1≤o.1∧o.1≤11
 ·omega
 ·exfalso
  have hn:nameR o.1=[]:=by
   unfold nameR
   by_cases h0:o.1=0
   ·rw [h0]
    rfl
   ·rw [if_neg (by omega)]
  simp [hn] at h1
theorem parse_small {L:List Wd} {a:Nat} (ha:a≤L.length):(parseR L a).1.2.length≤12∧∀o ∈ (parseR L a).1.2,small o.1:=by
 by_cases h:(parseR L a).2.2=0
 ·have hm:=parse_may h
  simp only [mayR,Bool.and_eq_true,decide_eq_true_eq,List.all_eq_true] at hm
  exact⟨hm.2.1,fun o ho=>op_small (hm.2.2 o ho)⟩
 ·rw [parse_none ha h]
  exact⟨by simp,fun o ho=>by cases ho⟩
end Go.Proofs.YtbnhnnccioljhaaGreatDoor
namespace Go.Proofs.YtbnhnnccioljhaaGreatDoor
open Go.RowKit
structure WI (w wr:World) (v:Value) (ws:List Wd) (pv:Array Value):Prop where
 row:WRow w.heap.size wr v ws
 bel:Below w.heap.size w wr
 box:wr.heap[w.heap.size]?=some (.cells pv 49 (0,0))
 siz:w.heap.size < wr.heap.size
theorem WI.more {w wr wr':World} {v:Value} {ws:List Wd} {pv:Array Value} (h:WI w wr v ws pv) (hb:Below wr.heap.size wr wr'):WI w wr' v ws pv:=
 ⟨row_below h.row hb,h.bel.trans (hb.mono (Nat.le_of_lt h.siz)),(hb.block _ h.siz).trans h.box,Nat.lt_of_lt_of_le h.siz hb.size⟩
theorem WI.kept {w wx w4:World} {v:Value} {ws:List Wd} {pv:Array Value} (h:WI w wx v ws pv) (hg:wx.grownBy w4 v.ownBlock) {k:Nat} {cs:Array Value} {t:TypeId}
  (hk:wx.heap[k]?=some (.cells cs t (0,0))) (ht:t≠95):w4.heap[k]?=some (.cells cs t (0,0)):=
 (hg.block k (lt_of_block hk) (block_off hk h.row ht)).trans hk
theorem WI.push {w wx w4:World} {v v':Value} {ws:List Wd} {x:Wd} {pv:Array Value} (h:WI w wx v ws pv)
  (hown:w4.ownsRow w.heap.size 95 4 v' (ws.length+1) (wdsC ws++wdC x)) (hg:wx.grownBy w4 v.ownBlock):WI w w4 v' (ws++[x]) pv:=by
 have hb:Below w.heap.size wx w4:=app_below (Below.refl _ _) (Nat.le_of_lt h.siz) (Nat.le_refl _) h.row hg
 refine⟨?_,h.bel.trans hb,h.kept hg h.box (by decide),Nat.lt_of_lt_of_le h.siz hb.size⟩
 unfold WRow
 rw [wdsC_snoc,List.length_append,List.length_singleton]
 exact hown
theorem first_row (w1:World) (base:Nat) (hb:base≤w1.heap.size) (a b c d:Value) (x:Wd) (h:wdC x=[a,b,c,d]):
  WRow base (w1.alloc (.cells #[a,b,c,d] 95)) (.slice (some ⟨w1.heap.size,0,none⟩) 1 1) [x]:=by
 refine⟨by rw [wdsC_len], .inr ⟨_,1,_,rfl,hb,heap_alloc_new _ _,Nat.le_refl _,by decide,rfl,?_⟩⟩
 simp only [wdsC,List.flatMap_cons,List.flatMap_nil,List.append_nil,h]
 rfl
theorem WI.first (w:World) (x:Wd) (pv:Array Value) (a b c d:Value) (h:wdC x=[a,b,c,d]):
  WI w ((w.alloc (.cells pv 49)).alloc (.cells #[a,b,c,d] 95)) (.slice (some ⟨w.heap.size+1,0,none⟩) 1 1) [x] pv:=by
 have hs:(w.alloc (.cells pv 49)).heap.size=w.heap.size+1:=by simp
 refine⟨?_,((Below.refl _ w).alloc (Nat.le_refl _) _).alloc (by simp) _,(Below.heap_alloc _ _ _ (by simp)).trans (heap_alloc_new w _),by simp;omega⟩
 rw [←hs]
 exact first_row _ _ (by simp) a b c d x h
theorem word_ones (a:Int) (t:ByteArray) (c d:Int):∀u ∈ [Value.int .i64 a, .string t, .int .i64 c, .int .i64 d],u.oneCell'=true:=by
 intro u hu
 simp only [List.mem_cons,List.not_mem_nil,or_false] at hu
 rcases hu with rfl|rfl|rfl|rfl<;>rfl
theorem word_at {W:World} {g:Nat} (hg:W.heap.size=g) (a b c d:Value) (t:TypeId):∀(j:Nat) (u:Value),[a,b,c,d][j]?=some u→(W.alloc (.cells #[a,b,c,d] t)).cell? ((⟨g,0,none⟩:Addr).add j)=some u:=by
 subst hg
 exact word_new W a b c d t
def WordsP (ws:List Wd) (w:World) (e:Ending) (w':World):Prop:=∃v,e= .returned v∧WRow w.heap.size w' v ws∧Below w.heap.size w w'
def headR (f:Bool):List Wd:=(1,progB,0,0)::((if f then [(1,foreverB,0,0)] else [])++[(3,[123],0,0)])
theorem words_head (f:Bool) (L:List Opn):wordsR (f,L)=headR f++L.flatMap opW++[(3,[125],0,0)]:=by
 cases f<;>simp [wordsR,headR]
theorem take_next {L:List Opn} {i:Nat} (h:i < L.length) (pre:List Wd):pre++(L.take (i+1)).flatMap opW=pre++(L.take i).flatMap opW++opW L[i]:=by
 have e:L.take (i+1)=L.take i++[L[i]]:=(List.take_append_getElem h).symm
 have e1:[L[i]].flatMap opW=opW L[i]:=by simp only [List.flatMap_cons,List.flatMap_nil,List.append_nil]
 rw [e,List.flatMap_append,e1, ←List.append_assoc]
end Go.Proofs.YtbnhnnccioljhaaGreatDoor
namespace Go.Proofs.YtbnhnnccioljhaaGreatDoor
open Go.RowKit Go.Maps Go.Shelf
theorem turned_below0 {w w':World} (h:Below w.heap.size w w'):Turned [] w w':=⟨h.os,h.tape,h.output,h.size,fun k hk _=>h.block k hk⟩
theorem oarg_cells {w:World} {ao:Option Addr} {b off:Nat} {L:List Opn} (h:OArg w ao b off L):∀j u,(opsC L)[j]?=some u→w.cell? ((⟨b,off,none⟩:Addr).add j)=some u:=by
 intro j u hu
 have hj:=(List.getElem?_eq_some_iff.1 hu).1
 rw [opsC_len] at hj
 have hd:j / 3 < L.length:=by omega
 obtain⟨x0,x1,x2⟩:=h.cells (j / 3) hd
 have he:j=j / 3*3+j % 3:=by omega
 have hm:j % 3 < 3:=by omega
 rw [he,opsC_get L (j / 3) (j % 3) hd hm] at hu
 rw [Addr.add_lit,show off+j=off+j / 3*3+j % 3 by omega]
 have h3:j % 3=0∨j % 3=1∨j % 3=2:=by omega
 rcases h3 with h|h|h<;>rw [h] at hu ⊢ <;>simp [opC] at hu<;>subst hu
 ·exact x0
 ·exact x1
 ·exact x2
theorem opsC_one (L:List Opn):∀u ∈ opsC L,u.oneCell'=true:=by
 intro u hu
 obtain⟨x,_,hx⟩:=List.mem_flatMap.1 hu
 simp [opC] at hx
 rcases hx with rfl|rfl|rfl<;>rfl
theorem opn_new (w:World):(w.alloc (.cells #[] 142)).ownsRow w.heap.size 142 3 (.slice (some ⟨w.heap.size,0,none⟩) 0 0) 0 []:=
 World.ownsRow_made w #[] 0 (Nat.le_refl _) (by simp) (by simp)
theorem clone_any (ao:Option Addr) (b off cap:Nat) (L:List Opn) (w:World) (h:OArg w ao b off L) (hm:L.length≤100000):
  Calls Tryz.prog 146 #[.slice ao L.length cap] w fun e w'=>∃v,e= .returned v∧ORow w.heap.size w' v L∧Below w.heap.size w w':=by
 obtain⟨i0,hi0,hz0,hz1,hz2⟩:=info_parts op_info
 have hnil:∀(w:World) (a:Option Addr) (n c:Nat),(binOp .eql 47 (.slice a n c) (.slice none 0 0)).run Tryz.prog w= .ok (.bool a.isNone) w:=fun w a n c=>Lib.run_eql_slice_nil w _ _ a n c 0 0 Tryz.underlying47
 cases ao with
 |none=>
  have hL:L=[]:=by
   cases L with
   |nil=>rfl
   |cons x l=>exact absurd (h.at_ (by simp)).1 (by simp)
  subst hL
  rw [List.length_nil]
  clear h hm
  go_enter Tryz.func146,Tryz.ntmps146
  go_wp2
  go_ret
  exact⟨_,rfl,World.ownsRow_nil _ _ _ _,Below.refl _ _⟩
 |some p=>
  have hp:0 < L.length→p=⟨b,off,none⟩:=fun h0=>Option.some.inj (h.at_ h0).1
  have hcells:∀j u,(opsC L)[j]?=some u→(w.alloc (.cells #[] 142)).cell? (p.add j)=some u:=by
   intro j u hu
   have hj:=(List.getElem?_eq_some_iff.1 hu).1
   rw [opsC_len] at hj
   rw [hp (by omega)]
   have h2:=h.below ((Below.refl _ w).alloc (Nat.le_refl _) (.cells #[] 142))
   exact oarg_cells h2 j u hu
  have HC:=xhd hcells
  have HL:=xhd (opsC_len L)
  obtain⟨n,hn⟩:∃n,L.length=n:=⟨_,rfl⟩
  have HN:=xhd hn
  rw [hn] at hm HL ⊢
  clear hcells h hp hn
  go_enter Tryz.func146,Tryz.ntmps146
  go_wp2_with (at_builtin;refine wpList_append_own _ rfl _ _ 47 rfl w.heap.size 142 i0 (.agg #[.int .i64 0, .int .i64 0, .int .i64 0]) 3 24 Tryz.underlying47 hi0 hz0 hz1 hz2 rfl (by decide) _ 0 [] rfl (opn_new w) p n cap (opsC L) rfl HL.out HC.out (opsC_one L) (by unfold maxLen;omega) (by omega) (by simp) ?_)
  intro v' w1 hown hgrow _
  have hown2:ORow w.heap.size w1 v' L:=by
   unfold ORow
   rw [HN.out]
   simpa using hown
  have HO:=xhd hown2
  have HB:=xhd (app_below ((Below.refl _ w).alloc (Nat.le_refl _) (.cells #[] 142)) (Nat.le_refl _) (Nat.le_refl _) (opn_new w) hgrow)
  clear hown hgrow hown2
  go_wp2
  go_ret
  exact⟨_,rfl,HO.out,HB.out⟩
def KeptO (n₀:Nat) (w:World) (B:Nat) (L:List Opn):Prop:=∃cv:Value,w.heap[B]?=some (.cells #[cv] 47 (0,0))∧n₀≤B∧ORow n₀ w cv L
theorem each_any (f:Bool) (ao:Option Addr) (b off cap:Nat) (L:List Opn) (w:World) (h:OArg w ao b off L) (hm:L.length≤100000):
  Calls Tryz.prog 94 #[prgV f ao L.length cap] w fun e w'=>∃B,e= .returned (.func (.func 147) #[] #[.pointer (some ⟨B,0,none⟩)])∧KeptO w.heap.size w' B L∧Below w.heap.size w w':=by
 have h0:=h.below ((Below.refl _ w).alloc (Nat.le_refl _) (.cells #[.bool f, .slice ao L.length cap] 49))
 have HC:=xhd (clone_any ao b off cap L _ h0 hm)
 clear h h0 hm
 obtain⟨n,hn⟩:∃n,L.length=n:=⟨_,rfl⟩
 rw [hn] at HC ⊢
 clear hn
 go_enter Tryz.func94,Tryz.ntmps94
 go_wp2_with fail
 refine HC.out.mono ?_
 rintro e w1 ⟨v,rfl,hrow,hb⟩
 obtain⟨av,vcap,rfl,_,_⟩:=ownsRow_shape hrow
 have hb2:=(box_kept hb).2
 have HK:=xhd (show KeptO w.heap.size (w1.alloc (.cells #[.slice av L.length vcap] 47)) w1.heap.size L from⟨_,heap_alloc_new w1 _,hb2.size,row_base (hrow.alloc _) (by simp)⟩)
 have HB:=xhd (hb2.alloc hb2.size (.cells #[.slice av L.length vcap] 47))
 clear hrow hb hb2
 go_wp2
 go_ret
 exact⟨_,rfl,HK.out,HB.out⟩
attribute [local go_sem] Oper.semAt_some
abbrev encO (x:Opn×Nat):Array Value:= #[.int .i64 (x.2:Nat), .agg #[.int .i64 x.1.1, .int .i64 x.1.2.1, .int .i64 x.1.2.2]]
theorem each1_seq {n n₀:Nat} (hn:1≤n) {w:World} {B:Nat} {L:List Opn} (h:KeptO n₀ w B L) (hL:L.length≤100000):
  ∃Y:List Nat,(∀k ∈ Y,n₀≤k∧k < w.heap.size)∧TurnSeq Fence.wide n Tryz.prog 147 #[.pointer (some ⟨B,0,none⟩)] encO [] Y (fun xs=>xs <+:L.zipIdx) (fun xs _=>xs=L.zipIdx) (fun xs _=>xs <+:L.zipIdx) w:=by
 obtain⟨cv,h1,h2,h3⟩:=h
 refine⟨cv.ownBlock.toList,fun k hk=>⟨(h3.lt k (by simpa using hk)).1,ownsRow_lt h3 k hk⟩,?_⟩
 intro l J Jx W hW hJ hY hj0
 have b0:=cell1 (hW.same h1 (by simp))
 have hr:=ownsRow_same (w':=W) h3 (fun k _ hl=>hW.block k hl (by simp))
 have HJ:=xhd hJ
 have HY:=xhd hY
 have HR:=xhd hr
 obtain⟨av,vcap,hv,_,_⟩:=ownsRow_shape hr
 subst hv
 clear hJ hY h1 h3 hr
 refine callsIn_of_wp Tryz.func147 rfl trivial ?_ rfl
 simp only [Tryz.ntmps147,List.size_toArray,List.length_cons,List.length_nil,Nat.reduceAdd,Nat.reduceSub,Array.replicate_succ,Array.replicate_zero,List.push_toArray,List.append_toArray,List.nil_append,List.cons_append]
 gi_wp2
 gi_loopw [7] (fun i wr=>∃k:Nat,k≤L.length∧i= .int .i64 k∧Hid (J (L.zipIdx.take k) wr)∧Hid (ORow n₀ wr (.slice av L.length vcap) L)) (fun i _=>L.length - (intOf i).toNat)
 case atStart=>exact⟨0,Nat.zero_le _,rfl,xhd hj0,HR⟩
 case round=>
  obtain⟨k,hk,rfl,HJ0,HRR⟩:=hrel
  by_cases hlt:k < L.length
  ·obtain⟨g,cap',hv,_,_⟩:=ownsRow_pos HRR.out (by omega)
   simp only [Value.slice.injEq] at hv
   obtain⟨rfl,_,rfl⟩:=hv
   have rc:=row_op HRR.out k hlt
   obtain⟨⟨n1,n2,n3⟩,hnd⟩:∃nd,L[k]=nd:=⟨_,rfl⟩
   rw [hnd] at rc
   simp only at rc
   obtain⟨r0,r1,r2⟩:=rc
   have htk:L.zipIdx.take (k+1)=L.zipIdx.take k++[((n1,n2,n3),k)]:=by
    rw [List.take_succ_eq_append_getElem (by rw [List.length_zipIdx];exact hlt),List.getElem_zipIdx,hnd]
    simp
   have ta:Turned [] wr (wr.alloc (.cells #[.int .i64 n1, .int .i64 n2, .int .i64 n3] 142)):=(Turned.refl [] wr).alloc _
   have hgl:g < wr.heap.size:=ownsRow_lt HRR.out g (by simp [Value.ownBlock])
   obtain⟨fn,tmps,assign,body,hy,hR⟩:=HY.out (L.zipIdx.take k) ((n1,n2,n3),k) (wr.alloc (.cells #[.int .i64 n1, .int .i64 n2, .int .i64 n3] 142)) (HJ.out _ _ _ HJ0.out ta) (by rw [←htk];exact List.take_prefix _ _)
   have HTK:=xhd htk
   have i1:(k:Int) < L.length:=by omega
   have i0:(0:Int)≤k:=by omega
   clear hnd htk ta
   (try dsimp only at hy)
   gi_wp2
   refine hR.mono ?_
   rintro e W3 ⟨hs,hz,⟨rfl,hj3⟩ |⟨rfl,hx3⟩⟩
   ·have J3:=xhd hj3
    have R3:=xhd (ownsRow_same HRR.out (fun j hj hl=>by
     have h1:=hs j hj
     rw [h1]
     exact Below.heap_alloc _ _ _ hl))
    clear hj3 hs hz
    gi_wp2
    go_roundw
    case rel=>exact⟨k+1,by omega,by simp,by rw [HTK.out];exact J3,R3⟩
    case measure=>simp [intOf];omega
   ·have J3:=xhd hx3
    clear hx3 hs hz
    gi_wp2
    refine bodyPost_ret (results_none rfl _ _ _) rfl ?_
    exact⟨⟨_,rfl⟩, .inr ⟨_,by rw [←HTK.out];exact List.take_prefix _ _,J3.out⟩⟩
  ·obtain rfl:k=L.length:=by omega
   gi_wp2
   go_end0
   have hj:=HJ0.out
   rw [List.take_of_length_le (by rw [List.length_zipIdx];exact Nat.le_refl _)] at hj
   exact⟨⟨_,rfl⟩, .inl (by first|exact hj|exact⟨_,rfl,hj⟩)⟩
end Go.Proofs.YtbnhnnccioljhaaGreatDoor
namespace Go.Proofs.YtbnhnnccioljhaaGreatDoor
open Go.RowKit Go.Maps Go.Shelf
attribute [local go_sem] Oper.semAt_some
structure MayB (w W:World) (N:Nat):Prop where
 res:W.heap[w.heap.size+1]?=some (.cells #[.bool false] 4 (0,0))
 t:Turned [] w W
 z:N≤W.heap.size
theorem MayB.mild {w W W':World} {N N':Nat} (h:MayB w W N) (m:Mild [] N' W W') (hN:w.heap.size≤N'):MayB w W' N:=
 ⟨m.cells h.res (by simp),h.t.mild m hN (by simp),Nat.le_trans h.z m.size⟩
theorem MayB.below {w W W':World} {N:Nat} (h:MayB w W N) (hb:Below W.heap.size W W'):MayB w W' N:=
 ⟨(hb.block _ (lt_of_block h.res)).trans h.res,h.t.trans (turned_below0 hb) (Newer.refl _ _),Nat.le_trans h.z hb.size⟩
theorem keeps_below {n:Nat} {A B:World} (h:Below A.heap.size A B):KeepsFrom n A B:=
 ⟨h.size,fun _ _ _ hk _=>(h.block _ (lt_of_block hk)).trans hk⟩
theorem zip_may {L:List Opn} {pre:List (Opn×Nat)} (h:pre <+:L.zipIdx):∀x ∈ pre,x.1 ∈ L:=by
 intro x hx
 have h2:=h.subset hx
 exact (List.mem_zipIdx' h2).2 ▸ List.getElem_mem _
theorem may_out (w:World) (f:Bool) (ao:Option Addr) (n cap:Nat):
  ((w.alloc (.cells #[.bool f, .slice ao n cap] 49)).alloc (.cells #[.bool false] 4)).heap[w.heap.size+1]?=some (.cells #[.bool false] 4 (0,0))∧
  Below w.heap.size w ((w.alloc (.cells #[.bool f, .slice ao n cap] 49)).alloc (.cells #[.bool false] 4)):=by
 have hz:=heap_alloc_new (w.alloc (.cells #[.bool f, .slice ao n cap] 49)) (.cells #[.bool false] 4)
 rw [World.size_alloc] at hz
 exact⟨hz,((Below.refl _ w).alloc (Nat.le_refl _) _).alloc (by simp) _⟩
theorem zip_mem {L:List Opn} {x:Opn} (h:x ∈ L):∃j,(x,j) ∈ L.zipIdx:=by
 obtain⟨i,hi,rfl⟩:=List.getElem_of_mem h
 refine⟨i,?_⟩
 have h2:L.zipIdx[i]'(by rw [List.length_zipIdx];exact hi)=(L[i],i):=by
  rw [List.getElem_zipIdx]
  simp
 rw [←h2]
 exact List.getElem_mem _
theorem MayB.fin {w W:World} {N D:Nat} (h:MayB w W N) (hN:w.heap.size+2≤D) (hK:W.heap[D]?=some (.deferred (some []))) (q:Bool):
  (W.setCell ⟨w.heap.size+1,0,none⟩ (.bool q)).heap[D]?=some (.deferred (some []))∧
  (∀o,((W.setCell ⟨w.heap.size+1,0,none⟩ (.bool q)).putObj D o).heap[w.heap.size+1]?=some (.cells #[.bool q] 4 (0,0))∧
  Below w.heap.size w ((W.setCell ⟨w.heap.size+1,0,none⟩ (.bool q)).putObj D o)):=by
 have hne:D≠w.heap.size+1:=by omega
 refine⟨(Below.heap_setCell _ _ _ _ hne).trans hK,fun o=>⟨?_,?_⟩⟩
 ·rw [World.putObj_heap_other (Ne.symm hne),heap_setCell_same _ _ _ _ _ _ h.res]
  rfl
 ·exact ((h.t.setCell (.inr (by show w.heap.size≤w.heap.size+1;omega)) _).put (by omega) o).below (by simp) (Nat.le_refl _)
theorem MayB.set {w W:World} {N:Nat} (h:MayB w W N):MayB w (W.setCell ⟨w.heap.size+1,0,none⟩ (.bool false)) N:=by
 refine⟨?_,h.t.setCell (.inr (by show w.heap.size≤w.heap.size+1;omega)) _,by simpa [World.setCell] using h.z⟩
 rw [heap_setCell_same _ _ _ _ _ _ h.res]
 rfl
theorem pmay_loop (f:Bool) (ao:Option Addr) (b off cap:Nat) (L:List Opn) (w:World) (h:OArg w ao b off L) (h1:1≤L.length) (h12:L.length≤12):
  Calls Tryz.prog 93 #[prgV f ao L.length cap] w fun e w'=>e= .returned (.bool (mayR (f,L)))∧Below w.heap.size w w':=by
 have hm:mayR (f,L)=L.all opMay:=by
  unfold mayR
  simp only
  rw [decide_eq_true (by omega),decide_eq_true h12]
  rfl
 rw [hm]
 refine callsIn_wide.1 (?_:CallsIn Fence.wide 20 _ _ _ _ _)
 refine callsIn_of_wp_marks Tryz.func93 rfl trivial ?_ rfl
 simp only [Tryz.ntmps93,List.size_toArray,List.length_cons,List.length_nil,Nat.reduceAdd,Nat.reduceSub,Array.replicate_succ,Array.replicate_zero,List.push_toArray,List.append_toArray,List.nil_append,List.cons_append]
 refine wpIn_wide.2 ?_
 obtain⟨W0,hW0⟩:∃W0,(w.alloc (.cells #[.bool f, .slice ao L.length cap] 49)).alloc (.cells #[.bool false] 4)=W0:=⟨_,rfl⟩
 have hb0:Below w.heap.size w W0:=by
  rw [←hW0]
  exact ((Below.refl _ w).alloc (Nat.le_refl _) _).alloc (by simp) _
 have hB0:MayB w W0 0:=by
  have hz:=heap_alloc_new (w.alloc (.cells #[.bool f, .slice ao L.length cap] 49)) (.cells #[.bool false] 4)
  rw [World.size_alloc,hW0] at hz
  exact⟨hz,turned_below0 hb0,Nat.zero_le _⟩
 have HB0:=xhd hB0
 have HE:=xhd (each_any f ao b off cap L W0 (h.below hb0) (by omega))
 have HM:=xhd (fun k a c W=>mayop_any k a c W)
 obtain⟨n,hn⟩:∃n,L.length=n:=⟨_,rfl⟩
 have HN:=xhd hn
 rw [hn] at h1 h12 HE hW0 ⊢
 have g1:¬(n:Int) < 1:=by omega
 have g2:¬(12:Int) < n:=by omega
 clear h hm hB0 hb0 hn
 have HW0:=xhd hW0
 clear hW0
 go_wp2_with fail
 rw [HW0.out]
 refine HE.out.mono ?_
 rintro e W1 ⟨B,rfl,hK,hb⟩
 obtain⟨Yb,hY,hseq⟩:=each1_seq (n:=19) (by omega) hK (by have:=HN.out;omega)
 have HB1:Hid (MayB w W1 W1.heap.size):=xhd (by
  have h:=HB0.out.below hb
  exact⟨h.res,h.t,Nat.le_refl _⟩)
 have HY:=xhd hY
 have HSEQ:=xhd hseq
 have hw1:w.heap.size+2≤W1.heap.size:=lt_of_block HB1.out.res
 have hw0:w.heap.size+2≤W0.heap.size:=lt_of_block HB0.out.res
 clear hK hb hY hseq HB0 HE
 go_wp2_with fail
 refine (wpIn_wide (n:=20)).1 ?_
 refine range_turns_boxed rfl (by omega) (gf:=147) (lb:= #[.pointer (some ⟨B,0,none⟩)]) rfl trivial (enters_of Tryz.func147 (by kernel_rfl) rfl)
  (X:=[]) (Y:=Yb) (by simp) (fun k hk=>(HY.out k hk).2) HSEQ.out (fun _=>rfl) (fun _ _ _ h _=>h) (fun _ _ _ h _=>h)
  (fun pre W=>MayB w W W1.heap.size∧∀x ∈ pre,opMay x.1=true)
  (fun c pre W=>c= .ret∧MayB w W W1.heap.size∧∃x ∈ pre,opMay x.1=false)
  (fun xs A B h mm=>⟨h.1.mild mm (by omega),h.2⟩) (fun c xs A B h mm=>⟨h.1,h.2.1.mild mm (by omega),h.2.2⟩) ⟨HB1.out,by simp⟩ (fun xs W h=>h.1.z)
  142 (fun x=> #[.int .i64 x.1.1, .int .i64 x.1.2.1, .int .i64 x.1.2.2]) ?a1 ?assign ?body ?done ?stop
 case assign=>
  intro l x Bk W K hBk hK
  gi_wp2
  exact hK
 case body=>
  rintro l pre ⟨⟨x1,x2,x3⟩,j⟩ Bk W hk hbk ⟨hI,hall⟩ hsp
  simp only at hk
  obtain⟨k0,k1,k2⟩:=op_cells hk
  have HI:=xhd hI
  have HALL:=xhd hall
  have HCM:=xhd (HM.out x1 x2 x3 W)
  obtain⟨q,hq⟩:∃q,opMay (x1,x2,x3)=q:=⟨_,rfl⟩
  have HQ:=xhd hq
  rw [hq] at HCM
  clear hI hall hq hsp hk
  cases q with
  |true=>
   gi_wp2_with fail
   refine⟨trivial,?_⟩
   refine (CallsIn.inRound l (callsIn_wide.2 HCM.out)).mono ?_
   rintro e' V ⟨rfl,hb⟩
   have HB:=xhd hb
   clear hb
   gi_wp2
   refine⟨keeps_below HB.out,fun j hj=>HB.out.block _ ?_,HI.out.below HB.out,?_⟩
   ·have:=(HY.out j hj).2
    have:=HI.out.z
    omega
   ·intro y hy
    rcases List.mem_append.1 hy with h|h
    ·exact HALL.out y h
    ·simp at h
     subst h
     exact HQ.out
  |false=>
   gi_wp2_with fail
   refine⟨trivial,?_⟩
   refine (CallsIn.inRound l (callsIn_wide.2 HCM.out)).mono ?_
   rintro e' V ⟨rfl,hb⟩
   have HB:=xhd hb
   have hV:=HI.out.below hb
   have r0:=cell1 hV.res
   have f0:=not_frozen hV.res 0
   have HV:=xhd hV
   clear hb hV
   gi_wp2
   refine⟨(keeps_below HB.out).trans ((KeepsOthers.setCell _ _ _).from _),fun j hj=>?_,rfl,HV.out.set,((x1,x2,x3),j),List.mem_append_right _ (by simp),HQ.out⟩
   have h1:=HY.out j hj
   have h2:=HI.out.z
   exact (Below.heap_setCell _ _ _ _ (by show j≠w.heap.size+1;omega)).trans (HB.out.block _ (by omega))
 case done=>
  rintro D xs W hD rfl ⟨hI,hall⟩ hK
  have HI:=xhd hI
  have HKD:=xhd hK
  have r0:=cell1 hI.res
  have f0:=not_frozen hI.res 0
  have hA:L.all opMay=true:=by
   rw [List.all_eq_true]
   intro x hx
   obtain⟨j,hj⟩:=zip_mem hx
   exact hall _ hj
  have HA:=xhd hA
  clear hI hK hA
  go_wp2
  have hf:=HI.out.fin (D:=D) (by omega) HKD.out true
  refine⟨by simp, .inl ⟨_,_,rfl,run_takeDeferred hf.1,?_⟩⟩
  exact⟨_,bool_result rfl rfl (hf.2 _).1,by rw [HA.out],(hf.2 _).2⟩
 case stop=>
  rintro D c xs W hD hsx ⟨rfl,hI,hx⟩ hK
  have HI:=xhd hI
  have HKD:=xhd hK
  clear hI hK
  refine wpIn_ret ?_
  simp only [Exit.inBlock]
  have hA:L.all opMay=false:=by
   obtain⟨x,hx1,hx2⟩:=hx
   rw [List.all_eq_false]
   exact⟨x.1,zip_may hsx x hx1,by simp [hx2]⟩
  have hne:D≠w.heap.size+1:=by omega
  have hres:∀o,(W.putObj D o).heap[w.heap.size+1]?=some (.cells #[.bool false] 4 (0,0)):=fun o=>(World.putObj_heap_other (Ne.symm hne)).trans HI.out.res
  refine⟨by simp, .inl ⟨_,_,rfl,run_takeDeferred HKD.out,?_⟩⟩
  exact⟨_,bool_result rfl rfl (hres _),by rw [hA],(HI.out.t.put (by omega) _).below (by simp) (Nat.le_refl _)⟩
theorem pmay_any (f:Bool) (ao:Option Addr) (b off cap:Nat) (L:List Opn) (w:World) (h:OArg w ao b off L):
  Calls Tryz.prog 93 #[prgV f ao L.length cap] w fun e w'=>e= .returned (.bool (mayR (f,L)))∧Below w.heap.size w w':=by
 by_cases h1:1≤L.length
 ·by_cases h12:L.length≤12
  ·exact pmay_loop f ao b off cap L w h h1 h12
  ·rw [may_long (by omega)]
   obtain⟨n,hn⟩:∃n,L.length=n:=⟨_,rfl⟩
   rw [hn] at h12 h1 ⊢
   have g1:¬(n:Int) < 1:=by omega
   have g2:(12:Int) < n:=by omega
   clear h hn
   have HX:=xhd (may_out w f ao n cap)
   go_enter Tryz.func93,Tryz.ntmps93
   go_wp2
   refine bodyPost_ret (bool_result rfl rfl HX.out.1) rfl ?_
   exact⟨rfl,HX.out.2⟩
 ·have hq:mayR (f,L)=false:=by
    unfold mayR
    simp only
    rw [decide_eq_false (by omega),Bool.false_and]
  rw [hq]
  obtain⟨n,hn⟩:∃n,L.length=n:=⟨_,rfl⟩
  rw [hn] at h1 ⊢
  have g1:(n:Int) < 1:=by omega
  clear h hn hq
  have HX:=xhd (may_out w f ao n cap)
  go_enter Tryz.func93,Tryz.ntmps93
  go_wp2
  refine bodyPost_ret (bool_result rfl rfl HX.out.1) rfl ?_
  exact⟨rfl,HX.out.2⟩
end Go.Proofs.YtbnhnnccioljhaaGreatDoor
namespace Go.Proofs.YtbnhnnccioljhaaGreatDoor
open Go.RowKit
def kindA (x:Wd):Nat:=if x.1=1∧x.2.2.1=0∧x.2.2.2=0 then acT x.2.1 8 else 0
theorem acT_none {t:List By} :∀n:Nat,(∀j:Nat,1≤j→j≤n→t≠acName (j:Int))→acT t n=0
 |0,_=>rfl
 |n+1,h=>by
  rw [acT,if_neg (h (n+1) (by omega) (Nat.le_refl _))]
  exact acT_none n (fun j h1 h2=>h j h1 (by omega))
theorem kindA_hit {x:Wd} {n:Nat} (h1:1≤n) (h2:n≤8) (hx:x=(1,acName (n:Int),0,0)):kindA x=n:=by
 subst hx
 unfold kindA
 rw [if_pos ⟨rfl,rfl,rfl⟩]
 have h:=(act_name (kind_name_ne (k:=n) (by omega) h2)).1
 simp only at h ⊢
 omega
theorem kindA_miss {x:Wd} (h:∀j:Nat,1≤j→j < 9→x≠(1,acName (j:Int),0,0)):kindA x=0:=by
 unfold kindA
 split
 ·next hc=>
  refine acT_none 8 (fun j h1 h2 e=>h j h1 (by omega) ?_)
  obtain⟨a,b,c,d⟩:=x
  simp only at hc e ⊢
  obtain⟨rfl,rfl,rfl⟩:=hc
  rw [e]
 ·rfl
theorem kindA_next {L:List Wd} {c k:Nat} (h:kindA (nextR L c)=k) (hk:k≠0):nextR L c=(1,acName (k:Int),0,0):=by
 refine Decidable.byContradiction fun hne=>?_
 have hall:∀j:Nat,1≤j→j < 9→nextR L c≠(1,acName (j:Int),0,0):=by
  intro j h1 h2 he
  have h3:=kindA_hit h1 (by omega) he
  rw [h] at h3
  subst h3
  exact hne he
 exact hk (h ▸ kindA_miss hall)
theorem acup_not {L:List Wd} {c:Nat} (h:∀t,isR L c 1 t=false):∀n,acUp L c n=0
 |0=>rfl
 |n+1=>by rw [acUp,h,if_neg (by simp)];exact acup_not h n
theorem ackind_next {L:List Wd} (hL:Clean L) (c:Nat):acKind L c=kindA (nextR L c):=by
 unfold acKind
 by_cases hc:c < L.length
 ·have hd:L.drop c=L[c]::L.drop (c+1):=List.drop_eq_getElem_cons hc
  rw [next_at hc]
  have hcl:=(hL _ (List.getElem_mem hc)).1
  unfold kindA
  simp only
  by_cases h1:L[c].1=1
  ·rw [acup_at hd h1,if_pos ⟨h1,hcl (by omega),trivial⟩]
  ·rw [if_neg (fun h=>h1 h.1),acup_not]
   intro t
   rw [is_at hd]
   simp [h1]
 ·rw [next_end (by omega)]
  rw [acup_not (fun t=>is_empty (by omega))]
  rfl
def In9 (L:List Wd):Prop:=∀x ∈ L,x.1=2→in9 x.2.2.1=true
theorem next_in9 {L:List Wd} (hL:Clean L) (hN:In9 L) (c:Nat):0≤(nextR L c).2.2.1∧(nextR L c).2.2.1≤999999999:=by
 by_cases hc:c < L.length
 ·rw [next_at hc]
  simp only
  by_cases h2:L[c].1=2
  ·have h:=hN _ (List.getElem_mem hc) h2
   simpa [in9] using h
  ·rw [(hL _ (List.getElem_mem hc)).1 h2]
   omega
 ·rw [next_end (by omega)]
  simp only
  omega
def numsQ (L:List Wd):Nat→Nat→Int→List Int→List Int×Nat×Int
 |0,c,e,out=>(out,c,e)
 |n+1,c,e,out=>numsQ L n (rdnR L c 0 999999999 e).2.1 (rdnR L c 0 999999999 e).2.2 (out++[(rdnR L c 0 999999999 e).1])
def acQ (L:List Wd) (c:Nat) (e:Int):Ac×Nat×Int:=
 if kindA (nextR L c)=0 then ((0,0,0,0,0),c,failE e 5) else
  let k:Int:=(kindA (nextR L c):Nat)
  let r1:=needQ L c e (1,acName k,0,0)
  let r2:=numsQ L (acMany k) r1.1 r1.2 []
  let r3:=needQ L r2.2.1 r2.2.2 (3,[59],0,0)
  (mkAc k r2.1,r3.1,r3.2)
theorem numsQ_dead {L:List Wd} {c:Nat} {e:Int} (he:e≠0):∀(n:Nat) (out:List Int),(numsQ L n c e out).2=(c,e)
 |0,out=>rfl
 |n+1,out=>by
  rw [numsQ,num_dead he]
  exact numsQ_dead he n _
theorem numsQ_le {L:List Wd} :∀(n c:Nat) (e:Int) (out:List Int),c≤L.length→(numsQ L n c e out).2.1≤L.length
 |0,c,e,out,h=>h
 |n+1,c,e,out,h=>by
  rw [numsQ]
  exact numsQ_le n _ _ _ (rdnR_le h)
theorem acQ_dead {L:List Wd} {c:Nat} {e:Int} (he:e≠0):(acQ L c e).2=(c,e):=by
 unfold acQ
 split
 ·unfold failE
  rw [if_neg he]
 ·simp only [need_dead he,numsQ_dead he]
theorem acQ_le {L:List Wd} {c:Nat} {e:Int} (h:c≤L.length):(acQ L c e).2.1≤L.length:=by
 unfold acQ
 split
 ·exact h
 ·simp only
  exact needQ_le (numsQ_le _ _ _ _ (needQ_le h (by simp))) (by simp)
theorem numsQ_live {L:List Wd} (hL:Clean L) (hN:In9 L):∀(n c:Nat) (out:List Int),
  match numsP L n c out with
  | .ok (ns,c1)=>numsQ L n c 0 out=(ns,c1,0)
  | .error (c1,x)=>(numsQ L n c 0 out).2=(c1,x)∧x≠0
 |0,c,out=>rfl
 |n+1,c,out=>by
  have hbad:¬((nextR L c).1=2∧(nextR L c).2.1=[])→(numsQ L (n+1) c 0 out).2=(c,5)∧(5:Int)≠0:=by
   intro h
   rw [numsQ,num_no hL h]
   refine⟨?_,by decide⟩
   show (numsQ L n c (failE 0 5) _).2=(c,5)
   rw [numsQ_dead (by decide)]
   rfl
  unfold numsP
  by_cases hc:c < L.length
  ·rw [List.getElem?_eq_getElem hc]
   simp only
   by_cases h2:L[c].1=2
   ·rw [if_pos h2]
    have hx:nextR L c=(2,[],L[c].2.2.1,0):=by
     rw [next_at hc,h2,(hL _ (List.getElem_mem hc)).2 h2]
    have hin:=hN _ (List.getElem_mem hc) h2
    simp only [in9,Bool.and_eq_true,decide_eq_true_eq] at hin
    rw [numsQ,num_ok hx hin]
    exact numsQ_live hL hN n (c+1) (out++[L[c].2.2.1])
   ·rw [if_neg h2]
    refine hbad ?_
    rw [next_at hc]
    exact fun h=>h2 h.1
  ·rw [List.getElem?_eq_none (by omega)]
   refine hbad ?_
   rw [next_end (by omega)]
   exact fun h=>absurd h.1 (by decide)
theorem acQ_live {L:List Wd} (hL:Clean L) (hN:In9 L) {c k:Nat} (h:kindA (nextR L c)=k) (hk:k≠0):
  match acP L (c+1) (k:Int) with
  | .ok (o,a)=>acQ L c 0=(o,a,0)
  | .error (a,x)=>(acQ L c 0).2=(a,x)∧x≠0:=by
 have hx:=kindA_next h hk
 have e1:needQ L c 0 (1,acName (k:Int),0,0)=(c+1,0):=by rw [need_live,if_pos hx]
 have hl:=numsQ_live hL hN (acMany (k:Int)) (c+1) []
 unfold acP acQ
 rw [h,if_neg hk]
 simp only [e1]
 cases hp:numsP L (acMany (k:Int)) (c+1) [] with
 |error e=>
  rw [hp] at hl
  obtain⟨h1,h2⟩:=hl
  simp only [h1,need_dead h2]
  exact⟨trivial,h2⟩
 |ok r=>
  obtain⟨ns,c1⟩:=r
  rw [hp] at hl
  simp only at hl
  simp only [hl,need_live,is_next hL (c:=c1) (k:=3) (t:=[59]) (.inr rfl)]
  by_cases hs:nextR L c1=(3,[59],0,0)
  ·simp only [hs,decide_true,if_true]
  ·simp only [hs,decide_false,Bool.false_eq_true,if_false]
   exact⟨trivial,by decide⟩
def AcsI (L:List Wd) (A:Except Bad (List Ac×Nat)) (c:Nat) (e:Int) (out:List Ac):Prop:=
 (e=0∧out.length≤4000∧∃n,L.length < n+c∧acsP L n c out=A)∨(e≠0∧out.length≤4001∧A= .error (c,e))
theorem AcsI.start (L:List Wd) (c:Nat):AcsI L (acsP L (L.length+1) c []) c 0 []:= .inl ⟨rfl,Nat.zero_le _,L.length+1,by omega,rfl⟩
theorem AcsI.dead {L:List Wd} {A:Except Bad (List Ac×Nat)} {c:Nat} {e:Int} {out:List Ac} (h:AcsI L A c e out) (he:e≠0):A= .error (c,e):=by
 rcases h with⟨h0,_⟩ |⟨_,_,h⟩
 ·exact absurd h0 he
 ·exact h
theorem AcsI.len {L:List Wd} {A:Except Bad (List Ac×Nat)} {c:Nat} {e:Int} {out:List Ac} (h:AcsI L A c e out):out.length≤4001∧(e=0→out.length≤4000):=by
 rcases h with⟨_,h,_⟩ |⟨h0,h,_⟩
 ·exact⟨by omega,fun _=>h⟩
 ·exact⟨h,fun e0=>absurd e0 h0⟩
theorem AcsI.last {L:List Wd} {A:Except Bad (List Ac×Nat)} {c:Nat} {out:List Ac} (h:AcsI L A c 0 out) (hle:c≤L.length) (hc:L.length≤c):A= .ok (out,c):=by
 rcases h with⟨_,_,n,hn,hA⟩ |⟨h0,_⟩
 ·obtain⟨m,rfl⟩:∃m,n=m+1:=⟨n - 1,by omega⟩
  rw [←hA,acsP,if_pos hc]
 ·exact absurd rfl h0
theorem acP_gt {L:List Wd} {c:Nat} {k:Int} {a:Ac} {c2:Nat} (h:acP L c k= .ok (a,c2)):c < c2:=by
 have hn:∀(n c:Nat) (out ns:List Int) (c1:Nat),numsP L n c out= .ok (ns,c1)→c≤c1:=by
  intro n
  induction n with
  |zero=>
   intro c out ns c1 h
   simp only [numsP,Except.ok.injEq,Prod.mk.injEq] at h
   omega
  |succ n ih=>
   intro c out ns c1 h
   unfold numsP at h
   split at h
   ·split at h
    ·have:=ih _ _ _ _ h
     omega
    ·cases h
   ·cases h
 unfold acP at h
 split at h
 ·cases h
 ·next ns c1 hp=>
  have:=hn _ _ _ _ _ hp
  split at h
  ·simp only [Except.ok.injEq,Prod.mk.injEq] at h
   omega
  ·cases h
theorem AcsI.step {L:List Wd} (hL:Clean L) (hN:In9 L) {A:Except Bad (List Ac×Nat)} {c:Nat} {out:List Ac} (h:AcsI L A c 0 out) (hc:c < L.length) {e1:Int}
  (he:e1=if out.length=4000∧kindA (nextR L c)≠0 then (6:Int) else 0):AcsI L A (acQ L c e1).2.1 (acQ L c e1).2.2 (out++[(acQ L c e1).1]):=by
 rcases h with⟨_,hl,n,hn,hA⟩ |⟨h0,_⟩
 ·obtain⟨m,rfl⟩:∃m,n=m+1:=⟨n - 1,by omega⟩
  rw [acsP,if_neg (by omega),ackind_next hL] at hA
  have hlen:(out++[(acQ L c e1).1]).length≤4001:=by rw [List.length_append,List.length_singleton];omega
  by_cases hk:kindA (nextR L c)=0
  ·rw [if_pos hk] at hA
   rw [if_neg (fun h=>h.2 hk)] at he
   subst he
   have hq:(acQ L c 0).2=(c,5):=by
    unfold acQ
    rw [if_pos hk]
    rfl
   rw [hq]
   exact .inr ⟨by show (5:Int)≠0;decide,hlen,hA.symm⟩
  ·rw [if_neg hk] at hA
   by_cases h4:out.length=4000
   ·rw [if_pos h4] at hA
    rw [if_pos ⟨h4,hk⟩] at he
    subst he
    rw [acQ_dead (by decide)]
    exact .inr ⟨by show (6:Int)≠0;decide,hlen,hA.symm⟩
   ·rw [if_neg h4] at hA
    rw [if_neg (fun h=>h4 h.1)] at he
    subst he
    have hq:=acQ_live hL hN (c:=c) rfl hk
    cases hp:acP L (c+1) (kindA (nextR L c)) with
    |error e=>
     rw [hp] at hA hq
     obtain⟨q1,q2⟩:=hq
     simp only at hA
     rw [q1]
     exact .inr ⟨q2,hlen,hA.symm⟩
    |ok r=>
     obtain⟨a,c2⟩:=r
     rw [hp] at hA hq
     simp only at hA hq
     have hg:=acP_gt hp
     rw [hq]
     refine .inl ⟨rfl,by rw [List.length_append,List.length_singleton];omega,m,by simp only;omega,hA⟩
 ·exact absurd rfl h0
def acC (o:Ac):List Value:=[.int .i64 o.1, .int .i64 o.2.1, .int .i64 o.2.2.1, .int .i64 o.2.2.2.1, .int .i64 o.2.2.2.2]
def acV (o:Ac):Value:= .agg #[.int .i64 o.1, .int .i64 o.2.1, .int .i64 o.2.2.1, .int .i64 o.2.2.2.1, .int .i64 o.2.2.2.2]
abbrev acsC (L:List Ac):List Value:=L.flatMap acC
theorem acC_len (x:Ac):(acC x).length=5:=rfl
theorem acsC_len:∀L:List Ac,(acsC L).length=L.length*5
 |[]=>rfl
 |x::L=>by
  have:=acsC_len L
  simp only [acsC,List.flatMap_cons,List.length_append,acC_len,List.length_cons] at this ⊢
  omega
theorem acsC_get:∀(L:List Ac) (j i:Nat) (hj:j < L.length),i < 5→(acsC L)[j*5+i]?=(acC L[j])[i]?
 |x::L,0,i,_,hi=>by
  simp only [acsC,List.flatMap_cons,Nat.zero_mul,Nat.zero_add,List.getElem_cons_zero]
  rw [List.getElem?_append_left (by rw [acC_len];exact hi)]
 |x::L,j+1,i,hj,hi=>by
  have ih:=acsC_get L j i (by simpa using hj) hi
  have e:(j+1)*5+i=(acC x).length+(j*5+i):=by rw [acC_len];omega
  simp only [acsC,List.flatMap_cons,List.getElem_cons_succ] at ih ⊢
  rw [e,List.getElem?_append_right (by omega),Nat.add_sub_cancel_left]
  exact ih
theorem acsC_snoc (L:List Ac) (x:Ac):acsC (L++[x])=acsC L++acC x:=by simp [acsC]
theorem acsC_one (L:List Ac):∀u ∈ acsC L,u.oneCell'=true:=by
 intro u hu
 obtain⟨x,_,hx⟩:=List.mem_flatMap.1 hu
 simp [acC] at hx
 rcases hx with rfl|rfl|rfl|rfl|rfl<;>rfl
theorem acC_one (x:Ac):∀u ∈ acC x,u.oneCell'=true:=by
 intro u hx
 simp [acC] at hx
 rcases hx with rfl|rfl|rfl|rfl|rfl<;>rfl
abbrev ARow (base:Nat) (w:World) (v:Value) (L:List Ac):Prop:=w.ownsRow base 73 5 v L.length (acsC L)
theorem row_ac {base:Nat} {w:World} {g n cap:Nat} {L:List Ac} (h:ARow base w (.slice (some ⟨g,0,none⟩) n cap) L) (j:Nat) (hj:j < L.length):
  w.cell? ⟨g,j*5,none⟩=some (.int .i64 L[j].1)∧w.cell? ⟨g,j*5+1,none⟩=some (.int .i64 L[j].2.1)∧w.cell? ⟨g,j*5+2,none⟩=some (.int .i64 L[j].2.2.1)∧w.cell? ⟨g,j*5+3,none⟩=some (.int .i64 L[j].2.2.2.1)∧w.cell? ⟨g,j*5+4,none⟩=some (.int .i64 L[j].2.2.2.2):=by
 obtain⟨_,_,h1,_⟩:=ownsRow_shape h
 simp only [Value.slice.injEq] at h1
 obtain⟨_,rfl,_⟩:=h1
 refine⟨?_,?_,?_,?_,?_⟩
 ·rw [h.cellAt _ (by omega)];exact acsC_get L j 0 hj (by omega)
 ·rw [h.cellAt _ (by omega)];exact acsC_get L j 1 hj (by omega)
 ·rw [h.cellAt _ (by omega)];exact acsC_get L j 2 hj (by omega)
 ·rw [h.cellAt _ (by omega)];exact acsC_get L j 3 hj (by omega)
 ·rw [h.cellAt _ (by omega)];exact acsC_get L j 4 hj (by omega)
theorem act_info:(Tryz.prog.info? 73).map (fun i=>(i.zero,i.size,i.bytes))=some (some (.agg #[.int .i64 0, .int .i64 0, .int .i64 0, .int .i64 0, .int .i64 0]),5,40):=by kernel_rfl
structure AArg (w:World) (ao:Option Addr) (b off:Nat) (L:List Ac):Prop where
 at_:0 < L.length→ao=some ⟨b,off,none⟩∧b < w.heap.size
 cells:∀i (hi:i < L.length),w.cell? ⟨b,off+i*5,none⟩=some (.int .i64 L[i].1)∧w.cell? ⟨b,off+i*5+1,none⟩=some (.int .i64 L[i].2.1)∧w.cell? ⟨b,off+i*5+2,none⟩=some (.int .i64 L[i].2.2.1)∧w.cell? ⟨b,off+i*5+3,none⟩=some (.int .i64 L[i].2.2.2.1)∧w.cell? ⟨b,off+i*5+4,none⟩=some (.int .i64 L[i].2.2.2.2)
theorem AArg.below {w w':World} {ao:Option Addr} {b off:Nat} {L:List Ac} (h:AArg w ao b off L) (hb:Below w.heap.size w w'):AArg w' ao b off L:=by
 refine⟨fun h0=>⟨(h.at_ h0).1,Nat.lt_of_lt_of_le (h.at_ h0).2 hb.size⟩,fun i hi=>?_⟩
 have hl:=(h.at_ (by omega)).2
 obtain⟨h0,h1,h2,h3,h4⟩:=h.cells i hi
 exact⟨(hb.cell (p:=⟨b,off+i*5,none⟩) hl).trans h0,(hb.cell (p:=⟨b,off+i*5+1,none⟩) hl).trans h1,(hb.cell (p:=⟨b,off+i*5+2,none⟩) hl).trans h2,(hb.cell (p:=⟨b,off+i*5+3,none⟩) hl).trans h3,(hb.cell (p:=⟨b,off+i*5+4,none⟩) hl).trans h4⟩
theorem AArg.of_row {base:Nat} {w:World} {v:Value} {L:List Ac} (h:ARow base w v L):∃ao b cap,v= .slice ao L.length cap∧AArg w ao b 0 L:=by
 by_cases h0:0 < L.length
 ·obtain⟨g,cap,rfl,_,_⟩:=ownsRow_pos h h0
  refine⟨_,g,cap,rfl,fun _=>⟨rfl,(h.lt g (by simp [Value.ownBlock])).2⟩,fun i hi=>?_⟩
  have hr:=row_ac h i hi
  simpa using hr
 ·obtain⟨a,cap,rfl,_,_⟩:=ownsRow_shape h
  exact⟨a,0,cap,rfl,fun h=>absurd h h0,fun i hi=>by omega⟩
theorem aarg_cells {w:World} {ao:Option Addr} {b off:Nat} {L:List Ac} (h:AArg w ao b off L):∀j u,(acsC L)[j]?=some u→w.cell? ((⟨b,off,none⟩:Addr).add j)=some u:=by
 intro j u hu
 have hj:=(List.getElem?_eq_some_iff.1 hu).1
 rw [acsC_len] at hj
 have hd:j / 5 < L.length:=by omega
 obtain⟨x0,x1,x2,x3,x4⟩:=h.cells (j / 5) hd
 have he:j=j / 5*5+j % 5:=by omega
 have hm:j % 5 < 5:=by omega
 rw [he,acsC_get L (j / 5) (j % 5) hd hm] at hu
 rw [Addr.add_lit,show off+j=off+j / 5*5+j % 5 by omega]
 have h3:j % 5=0∨j % 5=1∨j % 5=2∨j % 5=3∨j % 5=4:=by omega
 rcases h3 with h|h|h|h|h<;>rw [h] at hu ⊢ <;>simp [acC] at hu<;>subst hu
 ·exact x0
 ·exact x1
 ·exact x2
 ·exact x3
 ·exact x4
theorem act_cells {w:World} {B:Nat} {a b c d e:Value} {t:TypeId} (h:w.heap[B]?=some (.cells #[a,b,c,d,e] t (0,0))):
  w.cell? ⟨B,0,none⟩=some a∧w.cell? ⟨B,1,none⟩=some b∧w.cell? ⟨B,2,none⟩=some c∧w.cell? ⟨B,3,none⟩=some d∧w.cell? ⟨B,4,none⟩=some e:=by
 refine⟨?_,?_,?_,?_,?_⟩<;>simp [World.cell?,h]
abbrev ashC (k:Int):Array Value:= #[.string ⟨(acName k).toArray⟩, .int .i64 (acMany k:Nat)]
theorem ashape_res {fn:Func} {p:Tmp} (hf:fn.results= #[.cell p 160]) {tmps:Array Value} {w:World} {B:Nat} {a b:Value} (hp:tmps.getD p undef= .pointer (some ⟨B,0,none⟩)) (h:w.heap[B]?=some (.cells #[a,b] 160 (0,0))):
  (results fn tmps).run Tryz.prog w= .ok (.agg #[a,b]) w:=by
 obtain⟨h0,h1⟩:=two_cells h
 rw [results_one hf,hp]
 simp [loadVar,go_sem,h0,h1]
def AShapeP (k:Int) (w:World) (e:Ending) (w':World):Prop:=e= .returned (.agg (ashC k))∧Below w.heap.size w w'
theorem ashape_fin {k:Int} {w w':World} {c:Array Value} (hc:c=ashC k) (hb:Below w.heap.size w w'):AShapeP k w (.returned (.agg c)) w':=⟨by rw [hc],hb⟩
theorem ashape_facts (w:World) (u0 u1:Value):
  (w.alloc (.cells #[u0,u1] 160)).heap[w.heap.size]?=some (.cells #[u0,u1] 160 (0,0))∧Below w.heap.size w (w.alloc (.cells #[u0,u1] 160)):=
 ⟨heap_alloc_new w _,(Below.refl _ w).alloc (Nat.le_refl _) _⟩
theorem ashape_in (k:Int) (h0:1≤k) (h1:k≤8) (w:World):Calls Tryz.prog 99 #[.int .i64 k] w (AShapeP k w):=by
 have:k=1∨k=2∨k=3∨k=4∨k=5∨k=6∨k=7∨k=8:=by omega
 rcases this with h|h|h|h|h|h|h|h<;>subst h<;>
 ·go_enter Tryz.func99,Tryz.ntmps99
  go_wp2
  refine bodyPost_ret (ashape_res rfl rfl (ashape_facts w _ _).1) rfl ?_
  exact ashape_fin rfl (ashape_facts w _ _).2
theorem ashape_none {k:Int} (h:k < 1∨8 < k):ashC k= #[.string ⟨#[]⟩, .int .i64 0]:=by
 have hn:acName k=[]:=by
  unfold acName
  split
  ·have:k=0:=by omega
   subst this
   rfl
  ·rfl
 have hm:acMany k=0:=by
  unfold acMany
  rw [if_neg (by omega),if_neg (by omega),if_neg (by omega)]
 simp only [ashC,hn,hm]
 rfl
theorem ashape_out (k:Int) (h:k < 1∨8 < k) (w:World):Calls Tryz.prog 99 #[.int .i64 k] w (AShapeP k w):=by
 have h1:(k == 1)=false:=by simp;omega
 have h2:(k == 2)=false:=by simp;omega
 have h3:(k == 3)=false:=by simp;omega
 have h4:(k == 4)=false:=by simp;omega
 have h5:(k == 5)=false:=by simp;omega
 have h6:(k == 6)=false:=by simp;omega
 have h7:(k == 7)=false:=by simp;omega
 have h8:(k == 8)=false:=by simp;omega
 have HN:=xhd (ashape_none h)
 clear h
 go_enter Tryz.func99,Tryz.ntmps99
 go_wp2
 refine bodyPost_ret (ashape_res rfl rfl (ashape_facts w _ _).1) rfl ?_
 exact ashape_fin HN.out.symm (ashape_facts w _ _).2
theorem ashape_any (k:Int) (w:World):Calls Tryz.prog 99 #[.int .i64 k] w fun e w'=>e= .returned (.agg (ashC k))∧Below w.heap.size w w':=by
 by_cases h:1≤k∧k≤8
 ·exact ashape_in k h.1 h.2 w
 ·exact ashape_out k (by omega) w
theorem ashape_field (s:ByteArray) (n:Int) (w:World):(Instr.field 160 (.agg #[.string s, .int .i64 n]) 0).run Tryz.prog w= .ok (.string s) w:=by kernel_rfl
theorem ashape_let (k:Int):∃(s:ByteArray) (n:Int),ashC k= #[.string s, .int .i64 n]∧s.data.toList=acName k∧n=(acMany k:Nat):=
 ⟨_,_,rfl,rfl,rfl⟩
theorem many_four (k:Int):acMany k≤4:=by
 unfold acMany
 split
 ·omega
 ·split
  ·omega
  ·split<;>omega
theorem anm_any (k:Int) (w:World):Calls Tryz.prog 164 #[.int .i64 k] w fun e w'=>e= .returned (.string ⟨(acName k).toArray⟩)∧Below w.heap.size w w':=by
 have h:=fun W=>ashape_any k W
 obtain⟨s,n,e,hs, -⟩:=ashape_let k
 have e2:(⟨(acName k).toArray⟩:ByteArray)=s:=by rw [←hs]
 rw [e2]
 simp only [e] at h
 have H:=xhd h
 have hf:=fun W=>ashape_field s n W
 clear h e hs e2
 go_enter Tryz.func164,Tryz.ntmps164
 go_wp2_with fail
 with_reducible refine (H.out _).mono ?_
 rintro e w1 ⟨rfl,hb⟩
 have HB:=xhd hb
 clear hb
 go_wp2
 go_ret
 exact⟨rfl,HB.out⟩
def mostA (n p:Int):Int:=if n≤p then 0 else 999999999
theorem span_res {fn:Func} {p:Tmp} (hf:fn.results= #[.cell p 149]) {tmps:Array Value} {w:World} {B:Nat} {a b:Value} (hp:tmps.getD p undef= .pointer (some ⟨B,0,none⟩)) (h:w.heap[B]?=some (.cells #[a,b] 149 (0,0))):
  (results fn tmps).run Tryz.prog w= .ok (.agg #[a,b]) w:=by
 obtain⟨h0,h1⟩:=two_cells h
 rw [results_one hf,hp]
 simp [loadVar,go_sem,h0,h1]
theorem span_facts (w:World) (o:Obj) (u0 u1:Value):
  ((w.alloc o).alloc (.cells #[u0,u1] 149)).heap[w.heap.size+1]?=some (.cells #[u0,u1] 149 (0,0))∧Below w.heap.size w ((w.alloc o).alloc (.cells #[u0,u1] 149)):=by
 have h:=heap_alloc_new (w.alloc o) (.cells #[u0,u1] 149)
 rw [World.size_alloc] at h
 exact⟨h,((Below.refl _ w).alloc (Nat.le_refl _) _).alloc (by simp) _⟩
theorem amay_any (s:ByteArray) (n p:Int) (w:World):Calls Tryz.prog 149 #[.agg #[.string s, .int .i64 n], .int .i64 p] w fun e w'=>e= .returned (.agg #[.int .i64 0, .int .i64 (mostA n p)])∧Below w.heap.size w w':=by
 unfold mostA
 by_cases h:n≤p
 ·rw [if_pos h]
  go_enter Tryz.func149,Tryz.ntmps149
  go_wp2
  refine bodyPost_ret (span_res rfl rfl (span_facts w _ _ _).1) rfl ?_
  exact⟨rfl,(span_facts w _ _ _).2⟩
 ·rw [if_neg h]
  go_enter Tryz.func149,Tryz.ntmps149
  go_wp2
  refine bodyPost_ret (span_res rfl rfl (span_facts w _ _ _).1) rfl ?_
  exact⟨rfl,(span_facts w _ _ _).2⟩
theorem four_res {fn:Func} {p:Tmp} (hf:fn.results= #[.cell p 162]) {tmps:Array Value} {w:World} {B:Nat} {a b c d:Value} (hp:tmps.getD p undef= .pointer (some ⟨B,0,none⟩)) (h:w.heap[B]?=some (.cells #[a,b,c,d] 162 (0,0))):
  (results fn tmps).run Tryz.prog w= .ok (.agg #[a,b,c,d]) w:=by
 obtain⟨h0,h1,h2,h3⟩:=word_cells h
 rw [results_one hf,hp]
 simp [loadVar,go_sem,h0,h1,h2,h3]
theorem four_facts (w:World) (o:Obj) (u0 u1 u2 u3:Value):
  ((w.alloc o).alloc (.cells #[u0,u1,u2,u3] 162)).heap[w.heap.size+1]?=some (.cells #[u0,u1,u2,u3] 162 (0,0))∧Below w.heap.size w ((w.alloc o).alloc (.cells #[u0,u1,u2,u3] 162)):=by
 have h:=heap_alloc_new (w.alloc o) (.cells #[u0,u1,u2,u3] 162)
 rw [World.size_alloc] at h
 exact⟨h,((Below.refl _ w).alloc (Nat.le_refl _) _).alloc (by simp) _⟩
theorem numbersof_any (k x0 x1 x2 x3:Int) (w:World):Calls Tryz.prog 100 #[.agg #[.int .i64 k, .int .i64 x0, .int .i64 x1, .int .i64 x2, .int .i64 x3]] w fun e w'=>e= .returned (.agg #[.int .i64 x0, .int .i64 x1, .int .i64 x2, .int .i64 x3])∧Below w.heap.size w w':=by
 go_enter Tryz.func100,Tryz.ntmps100
 go_wp2
 refine bodyPost_ret (four_res rfl rfl (four_facts w _ _ _ _ _).1) rfl ?_
 exact⟨rfl,(four_facts w _ _ _ _ _).2⟩
theorem akindof_any (x:Wd) (w:World):
  Calls Tryz.prog 136 #[wdV x] w fun e w'=>e= .returned (.int .i64 (kindA x:Nat))∧Below w.heap.size w w':=by
 have HHIT:=xhd (fun (n:Nat) (h1:1≤n) (h2:n≤8) (hx:x=(1,acName (n:Int),0,0))=>kindA_hit h1 h2 hx)
 have HMISS:=xhd (fun h=>kindA_miss (x:=x) h)
 have HNM:=xhd (fun k W=>anm_any k W)
 have HW:=xhd (fun s W=>pname_any s W)
 have HQ:=xhd (fun (n:Nat) W=>eq_words x (1,acName (n:Int),0,0) W)
 obtain⟨q,hq⟩:∃q,kindA x=q:=⟨_,rfl⟩
 rw [hq] at HHIT HMISS ⊢
 clear hq
 unfold wdV at HQ ⊢
 simp only at HQ
 have HX:Hid (∃tx:ByteArray,⟨x.2.1.toArray⟩=tx):=⟨_,rfl⟩
 obtain⟨tx,htx⟩:=HX.out
 simp only [htx] at HQ ⊢
 obtain⟨x0,hx0⟩:∃x0,x.1=x0:=⟨_,rfl⟩
 obtain⟨x2,hx2⟩:∃x0,x.2.2.1=x0:=⟨_,rfl⟩
 obtain⟨x3,hx3⟩:∃x0,x.2.2.2=x0:=⟨_,rfl⟩
 simp only [hx0,hx2,hx3] at HQ ⊢
 clear hx0 hx2 hx3 htx HX
 go_enter Tryz.func136,Tryz.ntmps136
 go_wp2_with fail
 go_loopw [3] (fun k' wr=>∃k:Nat,k'= .int .i64 k∧1≤k∧k≤9∧Hid (wr.heap[w.heap.size]?=some (.cells #[.int .i64 x0, .string tx, .int .i64 x2, .int .i64 x3] 95 (0,0))∧Below w.heap.size w wr)∧Hid (∀j:Nat,1≤j→j < k→x≠(1,acName (j:Int),0,0))) (fun k' _=>9 - (intOf k').toNat)
 case atStart=>exact⟨1,rfl,by omega,by omega,⟨heap_alloc_new w _,(Below.refl _ w).alloc (Nat.le_refl _) _⟩,fun j h1 h2=>by omega⟩
 case round=>
  obtain⟨k,rfl,hk1,hk9,HB,HO⟩:=hrel
  by_cases hk:k≤8
  ·have hnm:=fun W=>HNM.out (k:Int) W
   obtain⟨tn,htn⟩:∃tn:ByteArray,⟨(acName (k:Int)).toArray⟩=tn:=⟨_,rfl⟩
   have hqk:=fun W=>HQ.out k W
   simp only [htn] at hnm hqk
   have HNK:=xhd hnm
   have HWK:=xhd (fun W=>HW.out tn W)
   have HS:Hid (∀V,Below wr.heap.size wr V→V.cell? ⟨w.heap.size,0,none⟩=some (.int .i64 x0)∧V.cell? ⟨w.heap.size,1,none⟩=some (.string tx)∧V.cell? ⟨w.heap.size,2,none⟩=some (.int .i64 x2)∧V.cell? ⟨w.heap.size,3,none⟩=some (.int .i64 x3)):=
    xhd fun V hV=>word_cells ((hV.block _ (lt_of_block HB.out.1)).trans HB.out.1)
   have HB0:=xhd ((Below.refl wr.heap.size wr).drew)
   have s0:=HS.out _ HB0.out
   have hkw:IntKind.i64.wrap ((k:Int)+1)=(k:Int)+1:=IntWalk.i64_in _ (by omega)
   cases hd:decide (x=((1,acName (k:Int),0,0):Wd)) with
   |true=>
    rw [hd] at hqk
    have HE:=xhd (HHIT.out k hk1 hk (of_decide_eq_true hd))
    clear hnm hd htn
    go_wp2_with fail
    go_region_held3 (fun V=>V.cell? ⟨w.heap.size,0,none⟩=some (.int .i64 x0)∧V.cell? ⟨w.heap.size,1,none⟩=some (.string tx)∧V.cell? ⟨w.heap.size,2,none⟩=some (.int .i64 x2)∧V.cell? ⟨w.heap.size,3,none⟩=some (.int .i64 x3))
     (first|exact s0|exact s1|exact s2)
     (first
       |(go_at_call 164
         with_reducible refine (HNK.out _).mono ?_
         rintro r V1 ⟨rfl,hb⟩
         have HV1:=xhd (HB0.out.trans (hb.mono HB0.out.size))
         have s1:=HS.out _ HV1.out
         clear hb)
       |(go_at_call 90
         with_reducible refine (HWK.out _).mono ?_
         rintro r V2 ⟨rfl,hb⟩
         have HV2:=xhd (HV1.out.trans (hb.mono HV1.out.size))
         have s2:=HS.out _ HV2.out
         clear hb))
    clear s0 s1 s2
    go_wp2
    go_ret
    rw [HE.out]
    exact⟨rfl,HB.out.2.trans (HV2.out.mono HB.out.2.size)⟩
   |false=>
    rw [hd] at hqk
    have hne:=of_decide_eq_false hd
    have HO2:Hid (∀j:Nat,1≤j→j < k+1→x≠(1,acName (j:Int),0,0)):=xhd (fun j h1 h2=>by
     rcases Nat.lt_or_ge j k with h|h
     ·exact HO.out j h1 h
     ·have:j=k:=by omega
      subst this
      exact hne)
    clear hnm hd htn hne
    go_wp2_with fail
    go_region_held3 (fun V=>V.cell? ⟨w.heap.size,0,none⟩=some (.int .i64 x0)∧V.cell? ⟨w.heap.size,1,none⟩=some (.string tx)∧V.cell? ⟨w.heap.size,2,none⟩=some (.int .i64 x2)∧V.cell? ⟨w.heap.size,3,none⟩=some (.int .i64 x3))
     (first|exact s0|exact s1|exact s2)
     (first
       |(go_at_call 164
         with_reducible refine (HNK.out _).mono ?_
         rintro r V1 ⟨rfl,hb⟩
         have HV1:=xhd (HB0.out.trans (hb.mono HB0.out.size))
         have s1:=HS.out _ HV1.out
         clear hb)
       |(go_at_call 90
         with_reducible refine (HWK.out _).mono ?_
         rintro r V2 ⟨rfl,hb⟩
         have HV2:=xhd (HV1.out.trans (hb.mono HV1.out.size))
         have s2:=HS.out _ HV2.out
         clear hb))
    clear s0 s1 s2
    go_wp2
    go_roundw
    case rel=>exact⟨k+1,by go_num,by omega,by omega,⟨(HV2.out.block _ (lt_of_block HB.out.1)).trans HB.out.1,HB.out.2.trans (HV2.out.mono HB.out.2.size)⟩,HO2⟩
    case measure=>simp [intOf];omega
  ·have hk2:k=9:=by omega
   have HE:=xhd (HMISS.out (fun j h1 h2=>HO.out j h1 (by omega)))
   subst hk2
   go_wp2
   go_ret
   rw [HE.out]
   exact⟨rfl,HB.out.2⟩
end Go.Proofs.YtbnhnnccioljhaaGreatDoor
