/-
  The document's field of setups: a name and a number, as words.
  A program that may be: its words are clean, and they are joined. No program.
-/
import Derived.Test.YtbnhnnccioljhaaGreatDoorZAA
import Derived.Test.YtbnhnnccioljhaaGreatDoorZAH
import Derived.Laws.AppendOwn
import Derived.Test.YtbnhnnccioljhaaGreatDoorZAK
import Derived.Test.YtbnhnnccioljhaaGreatDoorZAS
import Derived.Test.YtbnhnnccioljhaaGreatDoorZAl
set_option maxRecDepth 100000
set_option maxHeartbeats 25600000
namespace Go.Proofs.YtbnhnnccioljhaaGreatDoor
open Go.RowKit
def MoreW (base:Nat) (v:Value) (ws xs:List Wd) (w:World) (e:Ending) (w':World):Prop:=
 ∃v',e= .returned v'∧WRow base w' v' (ws++xs)∧w.grownBy w' v.ownBlock
theorem grown_trans {w w1 w2:World} {row:Option Nat} (h:w.grownBy w1 row) (h2:w1.grownBy w2 row):w.grownBy w2 row:=
 ⟨h2.os.trans h.os,h2.tape.trans h.tape,h2.output.trans h.output,Nat.le_trans h.size h2.size,fun k hk hr=>(h2.block k (Nat.lt_of_lt_of_le hk h.size) hr).trans (h.block k hk hr)⟩
theorem eight_new (W:World) (a b c d e f g h:Value) (t:TypeId):∀(j:Nat) (u:Value),[a,b,c,d,e,f,g,h][j]?=some u→(W.alloc (.cells #[a,b,c,d,e,f,g,h] t)).cell? ((⟨W.heap.size,0,none⟩:Addr).add j)=some u:=by
 intro j u hj
 rw [Addr.add_lit]
 match j,hj with
 |0,hj|1,hj|2,hj|3,hj|4,hj|5,hj|6,hj|7,hj=>
  simp at hj
  subst hj
  simp
theorem rfieldw_any {w:World} {base:Nat} {v:Value} {ws:List Wd} (h:WRow base w v ws) (hb:base≤w.heap.size) (hl:ws.length≤100000) (name:ByteArray) (n:Int):
  Calls Tryz.prog 58 #[v, .string name, .int .i64 n] w (MoreW base v ws (fieldW name.data.toList n) w):=by
 obtain⟨i0,hi0,hz0,hz1,hz2⟩:=info_parts word_info
 have HR:=xhd (row_below h ((Below.refl _ w).alloc (Nat.le_refl _) (.cells #[.int .i64 1, .string name, .int .i64 0, .int .i64 0, .int .i64 2, .string ⟨#[]⟩, .int .i64 n, .int .i64 0] 95)))
 obtain⟨av,cv,hv,_,_⟩:=ownsRow_shape h
 subst hv
 clear h
 go_enter Tryz.func58,Tryz.ntmps58
 go_wp2_with (at_builtin;refine wpList_append_own _ rfl _ _ 50 rfl base 95 i0 (.agg #[.int .i64 0, .string ⟨#[]⟩, .int .i64 0, .int .i64 0]) 4 40 Tryz.underlying50 hi0 hz0 hz1 hz2 rfl (by decide) _ _ _ rfl HR.out ⟨_,0,none⟩ 2 2 [.int .i64 1, .string name, .int .i64 0, .int .i64 0, .int .i64 2, .string ⟨#[]⟩, .int .i64 n, .int .i64 0] rfl rfl ?c1 ?c2 ?c3 ?c4 ?c5 ?_)
 try (case c1=>exact eight_new _ _ _ _ _ _ _ _ _ _)
 try (case c2=>
  intro u hu
  simp only [List.mem_cons,List.not_mem_nil,or_false] at hu
  rcases hu with rfl|rfl|rfl|rfl|rfl|rfl|rfl|rfl<;>rfl)
 try (case c3=>(unfold maxLen;omega))
 try (case c4=>omega)
 try (case c5=>(simp;omega))
 intro v2 w2 hown hg _
 have HO:=xhd hown
 have HG:=xhd hg
 clear hown hg
 go_wp2
 go_ret
 refine⟨v2,rfl,?_,grown_trans (World.grownBy_alloc w _ _) HG.out⟩
 have e:wdsC (ws++fieldW name.data.toList n)=wdsC ws++[.int .i64 1, .string name, .int .i64 0, .int .i64 0, .int .i64 2, .string ⟨#[]⟩, .int .i64 n, .int .i64 0]:=by
  simp [wdsC,fieldW,wdC]
 unfold WRow
 rw [e,List.length_append]
 exact HO.out
def okW (x:Wd):Prop:=∃s,textR x=some s∧s.length≤40
theorem ok_num {n:Int} (h0:0≤n) (h1:n≤64):okW (2,[],n,0):=by
 refine⟨digitsR n.toNat,?_,?_⟩
 ·unfold textR
  rw [if_pos rfl,if_pos ⟨rfl,h0,by show n≤999999999;omega⟩]
 ·obtain⟨k,rfl⟩:=Int.eq_ofNat_of_zero_le h0
  have hk:k < 65:=by omega
  have:∀j:Fin 65,(digitsR j.1).length≤40:=by decide+kernel
  exact this ⟨k,hk⟩
theorem ok_name {k:Int} (h:nameR k≠[]):okW (1,nameR k,0,0):=by
 have ok:∀t:List By,(textR (1,t,0,0)=some t∧t.length≤40)→okW (1,t,0,0):=fun t h=>⟨t,h.1,h.2⟩
 rcases name_kinds h with h|h|h|h|h|h|h|h|h|h|h<;>subst h<;>exact ok _ (by decide+kernel)
theorem ok_op {o:Opn} (h:opMay o=true):∀x ∈ opW o,okW x:=by
 intro x hx
 simp only [opMay,Bool.and_eq_true,Bool.not_eq_true',decide_eq_false_iff_not] at h
 obtain⟨hn,ha,hb⟩:=h
 unfold opW at hx
 simp only [List.mem_cons,List.mem_append] at hx
 rcases hx with rfl|hx|hx|rfl|hx
 ·exact ok_name hn
 ·split at hx
  ·next hl=>
   simp at hx
   subst hx
   unfold aMay at ha
   rw [if_pos hl] at ha
   simp only [Bool.and_eq_true,decide_eq_true_eq] at ha
   have:(limR o.1).2≤64:=by
    unfold limR
    split
    ·decide
    ·split
     ·decide
     ·split
      ·decide
      ·split<;>decide
   exact ok_num (by omega) (by omega)
  ·cases hx
 ·split at hx
  ·next h5=>
   simp at hx
   subst hx
   unfold bMay at hb
   rw [if_pos h5] at hb
   simp only [Bool.and_eq_true,decide_eq_true_eq] at hb
   exact ok_num (by omega) (by omega)
  ·cases hx
 ·exact⟨[59],by decide+kernel,by decide⟩
 ·cases hx
theorem ok_words {p:Prg} (h:mayR p=true):∀x ∈ wordsR p,okW x:=by
 intro x hx
 simp only [mayR,Bool.and_eq_true,decide_eq_true_eq,List.all_eq_true] at h
 unfold wordsR at hx
 simp only [List.mem_cons,List.mem_append] at hx
 rcases hx with rfl|hx|rfl|hx|rfl|hx
 ·exact⟨progB,by decide+kernel,by decide⟩
 ·split at hx
  ·simp at hx
   subst hx
   exact⟨foreverB,by decide+kernel,by decide⟩
  ·cases hx
 ·exact⟨[123],by decide+kernel,by decide⟩
 ·obtain⟨o,ho,hw⟩:=List.mem_flatMap.1 hx
  exact ok_op (h.2.2 o ho) x hw
 ·exact⟨[125],by decide+kernel,by decide⟩
 ·cases hx
end Go.Proofs.YtbnhnnccioljhaaGreatDoor
