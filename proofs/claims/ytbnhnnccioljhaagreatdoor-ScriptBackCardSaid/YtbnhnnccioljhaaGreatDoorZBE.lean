/-
  The words of a script that may be have texts. No program.
-/
import Derived.Test.YtbnhnnccioljhaaGreatDoorZAW
import Derived.Test.YtbnhnnccioljhaaGreatDoorZAA
import Derived.Test.YtbnhnnccioljhaaGreatDoorZBA
import Derived.Test.YtbnhnnccioljhaaGreatDoorZAl
set_option maxRecDepth 100000
set_option maxHeartbeats 25600000
namespace Go.Proofs.YtbnhnnccioljhaaGreatDoor
open Go.RowKit
def hasT (x:Wd):Prop:=∃s,textR x=some s
theorem join_has:∀(ws:List Wd) (out:List By),(∀x ∈ ws,hasT x)→∃r,joinF ws out=some r
 |[],out,_=>⟨out,rfl⟩
 |w::ws,out,h=>by
  obtain⟨s,hs⟩:=h w (by simp)
  simp only [joinF,hs]
  exact join_has ws _ (fun x hx=>h x (by simp [hx]))
theorem num_has {n:Int} (h0:0≤n) (h1:n≤999999999):hasT (2,[],n,0):=⟨digitsR n.toNat,by
 unfold textR
 rw [if_pos rfl,if_pos ⟨rfl,h0,h1⟩]⟩
theorem in_has {n m:Int} (h:inS n m=true) (hm:m≤32):hasT (2,[],n,0):=by
 simp only [inS,Bool.and_eq_true,decide_eq_true_eq] at h
 exact num_has (by omega) (by omega)
theorem field_has {nm:List By} {n m:Int} (hn:hasT (1,nm,0,0)) (h:inS n m=true) (hm:m≤32):∀x ∈ fieldW nm n,hasT x:=by
 intro x hx
 simp only [fieldW,List.mem_cons,List.not_mem_nil,or_false] at hx
 rcases hx with rfl|rfl
 ·exact hn
 ·exact in_has h hm
theorem semi_has:hasT semiW:=⟨[59],by decide+kernel⟩
theorem setup_has {s:Stp} (h:mayS s=true):∀x ∈ wordsS s,hasT x:=by
 obtain⟨c,g,gs,ls,ps⟩:=s
 rw [mayS_eq] at h
 simp only [Bool.and_eq_true,decide_eq_true_eq,List.all_eq_true] at h
 obtain⟨hc,hg,_,_,_,hgs,hls,hps⟩:=h
 intro x hx
 unfold wordsS at hx
 simp only [List.mem_append,List.mem_flatMap,List.mem_singleton] at hx
 rcases hx with (((((h|rfl) |h|rfl) |⟨n,hn,h⟩) |⟨k,hk,h⟩) |⟨p,hp,h⟩)
 ·exact field_has ⟨coresB,by decide+kernel⟩ hc (by decide) x h
 ·exact semi_has
 ·exact field_has ⟨grainB,by decide+kernel⟩ hg (by decide) x h
 ·exact semi_has
 ·simp only [groupW,List.mem_append,List.mem_singleton] at h
  rcases h with h|rfl
  ·exact field_has ⟨groupB,by decide+kernel⟩ (hgs n hn) (by decide) x h
  ·exact semi_has
 ·have hk:=hls k hk
  obtain⟨sh,a,b,c,d⟩:=k
  unfold lockW at h
  simp only [lkMay,Bool.and_eq_true] at hk
  obtain⟨⟨ha,hb⟩,hcd⟩:=hk
  simp only [List.mem_cons,List.mem_append,List.not_mem_nil,or_false] at h
  rcases h with rfl|h|h|h|rfl
  ·cases sh
   ·exact⟨lockB,(by decide+kernel:textR (1,lockB,0,0)=some lockB)⟩
   ·exact⟨sharedB,(by decide+kernel:textR (1,sharedB,0,0)=some sharedB)⟩
  ·exact field_has ⟨sliceB,by decide+kernel⟩ ha (by decide) x h
  ·exact field_has ⟨critB,by decide+kernel⟩ hb (by decide) x h
  ·cases sh with
   |true=>
    simp only [if_true,List.mem_append,Bool.and_eq_true] at h hcd
    rcases h with h|h
    ·exact field_has ⟨readB,by decide+kernel⟩ hcd.1 (by decide) x h
    ·exact field_has ⟨writeB,by decide+kernel⟩ hcd.2 (by decide) x h
   |false=>simp at h
  ·exact semi_has
 ·obtain⟨s,hs,_⟩:=ok_words (check_may (of_decide_eq_true (hps p hp))) x h
  exact⟨s,hs⟩
theorem ac_has {a:Ac} (h:acMay a=true):∀x ∈ acW a,hasT x:=by
 simp only [acMay,Bool.and_eq_true,Bool.not_eq_true',decide_eq_false_iff_not,List.all_eq_true] at h
 obtain⟨hn,h9,_⟩:=h
 have hs:∀t:List By,textR (1,t,0,0)=some t→hasT (1,t,0,0):=fun t h=>⟨t,h⟩
 intro x hx
 unfold acW acTail at hx
 simp only [List.mem_cons,List.mem_append,List.mem_map,List.not_mem_nil,or_false] at hx
 rcases hx with rfl|⟨n,hn2,rfl⟩ |rfl
 ·rcases ac_kinds hn with h|h|h|h|h|h|h|h<;>(rw [h];exact hs _ (by decide+kernel))
 ·have:=h9 n (List.mem_of_mem_take hn2)
  simp only [in9,Bool.and_eq_true,decide_eq_true_eq] at this
  exact num_has this.1 this.2
 ·exact semi_has
theorem sc_joined {x:Scr} (h:scMay x=true):(joinA (wordsSc x)).2≠1:=by
 simp only [scMay,Bool.and_eq_true,acsMay,List.all_eq_true] at h
 obtain⟨r,hr⟩:=join_has (wordsSc x) [] (fun y hy=>by
  rcases List.mem_append.1 hy with hy|hy
  ·exact setup_has h.1 y hy
  ·obtain⟨a,ha,hy⟩:=List.mem_flatMap.1 hy
   exact ac_has (h.2.2 a ha) y hy)
 unfold joinA
 rw [hr]
 simp only
 split
 ·show (6:Int)≠1;decide
 ·show (0:Int)≠1;decide
end Go.Proofs.YtbnhnnccioljhaaGreatDoor
