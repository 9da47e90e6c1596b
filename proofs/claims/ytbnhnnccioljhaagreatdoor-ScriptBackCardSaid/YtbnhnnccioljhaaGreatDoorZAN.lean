/-
  The document's Name, Many, get, put of acts.
  The document's One of acts: may an act be?
-/
import Derived.Test.YtbnhnnccioljhaaGreatDoorZAI
import Derived.Test.YtbnhnnccioljhaaGreatDoorZAK
import Derived.Test.YtbnhnnccioljhaaGreatDoorZAl
set_option maxRecDepth 100000
set_option maxHeartbeats 25600000
namespace Go.Proofs.YtbnhnnccioljhaaGreatDoor
open Go.RowKit
theorem raname_any (k:Int) (w:World):Calls Tryz.prog 54 #[.int .i64 k] w fun e w'=>e= .returned (.string ⟨(acName k).toArray⟩)∧Below w.heap.size w w':=by
 by_cases h0:k < 0
 ·have hn:acName k=[]:=by unfold acName;rw [if_neg (by omega)]
  rw [hn]
  clear hn
  go_enter Tryz.func54,Tryz.ntmps54
  go_wp2
  go_ret
  exact⟨rfl,(Below.refl _ w).alloc (Nat.le_refl _) _⟩
 ·by_cases h8:8 < k
  ·have hn:acName k=[]:=by unfold acName;rw [if_neg (by omega)]
   rw [hn]
   clear hn
   go_enter Tryz.func54,Tryz.ntmps54
   go_wp2
   go_ret
   exact⟨rfl,(Below.refl _ w).alloc (Nat.le_refl _) _⟩
  ·have:k=0∨k=1∨k=2∨k=3∨k=4∨k=5∨k=6∨k=7∨k=8:=by omega
   clear h0 h8
   rcases this with h|h|h|h|h|h|h|h|h<;>subst h<;>
   ·go_enter Tryz.func54,Tryz.ntmps54
    go_wp2
    go_ret
    exact⟨rfl,(Below.refl _ w).alloc (Nat.le_refl _) _⟩
theorem ramany_any (k:Int) (h1:1≤k) (h8:k≤8) (w:World):Calls Tryz.prog 55 #[.int .i64 k] w fun e w'=>e= .returned (.int .i64 (acMany k:Nat))∧Below w.heap.size w w':=by
 have:k=1∨k=2∨k=3∨k=4∨k=5∨k=6∨k=7∨k=8:=by omega
 clear h1 h8
 rcases this with h|h|h|h|h|h|h|h<;>subst h<;>
 ·go_enter Tryz.func55,Tryz.ntmps55
  go_wp2
  go_ret
  exact⟨rfl,(Below.refl _ w).alloc (Nat.le_refl _) _⟩
theorem raget_any (k x0 x1 x2 x3:Int) (i:Nat) (w:World):Calls Tryz.prog 56 #[.agg #[.int .i64 k, .int .i64 x0, .int .i64 x1, .int .i64 x2, .int .i64 x3], .int .i64 i] w fun e w'=>e= .returned (.int .i64 (xN x0 x1 x2 x3 i))∧Below w.heap.size w w':=by
 by_cases h0:i=0
 ·subst h0
  go_enter Tryz.func56,Tryz.ntmps56
  go_wp2
  go_ret
  exact⟨rfl,(Below.refl _ w).alloc (Nat.le_refl _) _⟩
 ·by_cases h1:i=1
  ·subst h1
   go_enter Tryz.func56,Tryz.ntmps56
   go_wp2
   go_ret
   exact⟨rfl,(Below.refl _ w).alloc (Nat.le_refl _) _⟩
  ·by_cases h2:i=2
   ·subst h2
    go_enter Tryz.func56,Tryz.ntmps56
    go_wp2
    go_ret
    exact⟨rfl,(Below.refl _ w).alloc (Nat.le_refl _) _⟩
   ·have e:xN x0 x1 x2 x3 i=x3:=by
      match i,h0,h1,h2 with
      |j+3,_,_,_=>rfl
    rw [e]
    have b0:((i:Int) == 0)=false:=by simp;omega
    have b1:((i:Int) == 1)=false:=by simp;omega
    have b2:((i:Int) == 2)=false:=by simp;omega
    clear e h0 h1 h2
    go_enter Tryz.func56,Tryz.ntmps56
    go_wp2
    go_ret
    exact⟨rfl,(Below.refl _ w).alloc (Nat.le_refl _) _⟩
theorem put_facts (w:World) (o:Obj) (a b c d e:Value):
  ((w.alloc o).alloc (.cells #[a,b,c,d,e] 73)).heap[w.heap.size+1]?=some (.cells #[a,b,c,d,e] 73 (0,0))∧Below w.heap.size w ((w.alloc o).alloc (.cells #[a,b,c,d,e] 73)):=by
 have h:=heap_alloc_new (w.alloc o) (.cells #[a,b,c,d,e] 73)
 rw [World.size_alloc] at h
 exact⟨h,((Below.refl _ w).alloc (Nat.le_refl _) _).alloc (by simp) _⟩
theorem raput0 (k x0 x1 x2 x3 v:Int) (w:World):Calls Tryz.prog 81 #[.agg #[.int .i64 k, .int .i64 x0, .int .i64 x1, .int .i64 x2, .int .i64 x3], .int .i64 0, .int .i64 v] w fun e w'=>e= .returned (.agg #[.int .i64 k, .int .i64 v, .int .i64 x1, .int .i64 x2, .int .i64 x3])∧Below w.heap.size w w':=by
 go_enter Tryz.func81,Tryz.ntmps81
 go_wp2
 refine bodyPost_ret (act_res rfl rfl (put_facts w _ _ _ _ _ _).1) rfl ?_
 exact⟨rfl,(put_facts w _ _ _ _ _ _).2⟩
theorem raput1 (k x0 x1 x2 x3 v:Int) (w:World):Calls Tryz.prog 81 #[.agg #[.int .i64 k, .int .i64 x0, .int .i64 x1, .int .i64 x2, .int .i64 x3], .int .i64 1, .int .i64 v] w fun e w'=>e= .returned (.agg #[.int .i64 k, .int .i64 x0, .int .i64 v, .int .i64 x2, .int .i64 x3])∧Below w.heap.size w w':=by
 go_enter Tryz.func81,Tryz.ntmps81
 go_wp2
 refine bodyPost_ret (act_res rfl rfl (put_facts w _ _ _ _ _ _).1) rfl ?_
 exact⟨rfl,(put_facts w _ _ _ _ _ _).2⟩
theorem raput2 (k x0 x1 x2 x3 v:Int) (w:World):Calls Tryz.prog 81 #[.agg #[.int .i64 k, .int .i64 x0, .int .i64 x1, .int .i64 x2, .int .i64 x3], .int .i64 2, .int .i64 v] w fun e w'=>e= .returned (.agg #[.int .i64 k, .int .i64 x0, .int .i64 x1, .int .i64 v, .int .i64 x3])∧Below w.heap.size w w':=by
 go_enter Tryz.func81,Tryz.ntmps81
 go_wp2
 refine bodyPost_ret (act_res rfl rfl (put_facts w _ _ _ _ _ _).1) rfl ?_
 exact⟨rfl,(put_facts w _ _ _ _ _ _).2⟩
theorem raput3 (k x0 x1 x2 x3 v:Int) (w:World):Calls Tryz.prog 81 #[.agg #[.int .i64 k, .int .i64 x0, .int .i64 x1, .int .i64 x2, .int .i64 x3], .int .i64 3, .int .i64 v] w fun e w'=>e= .returned (.agg #[.int .i64 k, .int .i64 x0, .int .i64 x1, .int .i64 x2, .int .i64 v])∧Below w.heap.size w w':=by
 go_enter Tryz.func81,Tryz.ntmps81
 go_wp2
 refine bodyPost_ret (act_res rfl rfl (put_facts w _ _ _ _ _ _).1) rfl ?_
 exact⟨rfl,(put_facts w _ _ _ _ _ _).2⟩
theorem getD_snoc {out:List Int} {i:Nat} (h:out.length=i) (v:Int) (j:Nat):(out++[v]).getD j 0=if j=i then v else out.getD j 0:=by
 rw [List.getD_eq_getElem?_getD,List.getD_eq_getElem?_getD]
 by_cases hj:j=i
 ·subst hj
  rw [if_pos rfl,List.getElem?_append_right (by omega)]
  simp [h]
 ·rw [if_neg hj]
  rcases Nat.lt_or_ge j i with h2|h2
  ·rw [List.getElem?_append_left (by omega)]
  ·rw [List.getElem?_append_right (by omega),List.getElem?_eq_none (by simp;omega),List.getElem?_eq_none (by omega)]
theorem raput_any (k:Int) (out:List Int) (i:Nat) (h:out.length=i) (hi:i < 4) (v:Int) (w:World):Calls Tryz.prog 81 #[acV (mkAc k out), .int .i64 i, .int .i64 v] w fun e w'=>e= .returned (acV (mkAc k (out++[v])))∧Below w.heap.size w w':=by
 have e:mkAc k (out++[v])=(k,if 0=i then v else out.getD 0 0,if 1=i then v else out.getD 1 0,if 2=i then v else out.getD 2 0,if 3=i then v else out.getD 3 0):=by
  unfold mkAc
  rw [getD_snoc h,getD_snoc h,getD_snoc h,getD_snoc h]
 rw [e]
 have:i=0∨i=1∨i=2∨i=3:=by omega
 clear h e
 rcases this with rfl|rfl|rfl|rfl
 ·exact raput0 k _ _ _ _ v w
 ·exact raput1 k _ _ _ _ v w
 ·exact raput2 k _ _ _ _ v w
 ·exact raput3 k _ _ _ _ v w
structure RoB (w V:World) (a:Array Value):Prop where
 act:V.heap[w.heap.size]?=some (.cells a 73 (0,0))
 bel:Below w.heap.size w V
theorem RoB.below {w V V':World} {a:Array Value} (h:RoB w V a) (hb:Below V.heap.size V V'):RoB w V' a:=
 ⟨(hb.block _ (lt_of_block h.act)).trans h.act,h.bel.trans (hb.mono h.bel.size)⟩
theorem ok_low {m x:Int} {j:Nat} (h:x < 0):okA m x j=false:=by
 unfold okA
 rw [decide_eq_false (by omega),Bool.false_and]
theorem ok_high {m x:Int} {j:Nat} (h:999999999 < x):okA m x j=false:=by
 unfold okA mostA
 rw [Bool.and_eq_false_iff]
 right
 split<;>simp<;>omega
theorem ok_past {m x:Int} {j:Nat} (h:m≤(j:Int)) (hx:¬x=0):okA m x j=false:=by
 unfold okA mostA
 rw [if_pos h]
 simp
 omega
theorem ok_in {m x:Int} {j:Nat} (h0:0≤x) (h9:x≤999999999) (h:m≤(j:Int)→x=0):okA m x j=true:=by
 unfold okA mostA
 by_cases hm:m≤(j:Int)
 ·rw [if_pos hm,h hm]
  rfl
 ·rw [if_neg hm,decide_eq_true h0,decide_eq_true h9]
  rfl
theorem raone_any (k x0 x1 x2 x3:Int) (w:World):Calls Tryz.prog 53 #[.agg #[.int .i64 k, .int .i64 x0, .int .i64 x1, .int .i64 x2, .int .i64 x3]] w fun e w'=>e= .returned (.bool (acMay (k,x0,x1,x2,x3)))∧Below w.heap.size w w':=by
 have HYES:=xhd (fun h=>acmay_yes (k:=k) (x0:=x0) (x1:=x1) (x2:=x2) (x3:=x3) h)
 have HNO:=xhd (fun j (hj:j < 4) h=>acmay_no (k:=k) (x0:=x0) (x1:=x1) (x2:=x2) (x3:=x3) (j:=j) hj h)
 have hn:=acmay_ok k x0 x1 x2 x3
 obtain⟨A,hA⟩:∃A,acMay (k,x0,x1,x2,x3)=A:=⟨_,rfl⟩
 rw [hA] at HYES HNO hn ⊢
 have hnm:=fun W=>raname_any k W
 obtain⟨s,hs⟩:∃s:ByteArray,⟨(acName k).toArray⟩=s:=⟨_,rfl⟩
 simp only [hs] at hnm
 have hsl:s.toList=acName k:=by rw [Lib.toList_data, ←hs]
 have HNM:=xhd hnm
 have HB0:Hid (RoB w (w.alloc (.cells #[.int .i64 k, .int .i64 x0, .int .i64 x1, .int .i64 x2, .int .i64 x3] 73)) #[.int .i64 k, .int .i64 x0, .int .i64 x1, .int .i64 x2, .int .i64 x3]):=xhd ⟨heap_alloc_new w _,(Below.refl _ w).alloc (Nat.le_refl _) _⟩
 by_cases he:acName k=[]
 ·have hse:s.toList=[]:=hsl.trans he
  have q0:(s.toList == [])=true:=by rw [hse];rfl
  have q1:s.toList.isEmpty=true:=by rw [hse];rfl
  rw [he] at hn
  have HA:=xhd (show A=false by rw [hn];simp)
  clear hn hA hnm hs hsl he
  go_enter Tryz.func53,Tryz.ntmps53
  go_wp2_with fail
  with_reducible refine (HNM.out _).mono ?_
  rintro e w1 ⟨rfl,hb⟩
  have HB1:=xhd (HB0.out.below hb)
  clear hb
  go_wp2
  go_ret
  exact⟨congrArg (fun x=>Ending.returned (.bool x)) HA.out.symm,HB1.out.bel⟩
 ·have hse:¬s.toList=[]:=fun h=>he (hsl.symm.trans h)
  have q0:(s.toList == [])=false:=by simpa using hse
  have q1:s.toList.isEmpty=false:=by simpa using hse
  have hk:=ac_kinds he
  have hk8:1≤k∧k≤8:=by omega
  have hmy:=fun W=>ramany_any k hk8.1 hk8.2 W
  obtain⟨m,hm⟩:∃m:Nat,acMany k=m:=⟨_,rfl⟩
  rw [hm] at HYES HNO
  simp only [hm] at hmy
  rw [decide_eq_false he] at HYES
  have HMY:=xhd hmy
  have HGT:=xhd (fun (i:Nat) W=>raget_any k x0 x1 x2 x3 i W)
  clear hn hA hnm hs hsl he hk hk8 hmy hm
  go_enter Tryz.func53,Tryz.ntmps53
  go_wp2_with fail
  with_reducible refine (HNM.out _).mono ?_
  rintro e w1 ⟨rfl,hb⟩
  have HB1:=xhd (HB0.out.below hb)
  clear hb
  go_wp2_with fail
  go_loopw [3] (fun i' wr=>∃i:Nat,i'= .int .i64 i∧i≤4∧Hid (RoB w wr #[.int .i64 k, .int .i64 x0, .int .i64 x1, .int .i64 x2, .int .i64 x3])∧Hid (∀j:Nat,j < i→okA (m:Nat) (xN x0 x1 x2 x3 j) j=true)) (fun i' _=>4 - (intOf i').toNat)
  case atStart=>exact⟨0,rfl,by omega,HB1,fun j h=>by omega⟩
  case round=>
   obtain⟨i,rfl,hi,HB,HO⟩:=hrel
   by_cases hlt:i < 4
   ·have hgt:=fun W=>HGT.out i W
    have hno:=fun h=>HNO.out i hlt h
    have hok:∀h:okA (m:Nat) (xN x0 x1 x2 x3 i) i=true,∀j:Nat,j < i+1→okA (m:Nat) (xN x0 x1 x2 x3 j) j=true:=fun h j hj=>by
     rcases Nat.lt_or_ge j i with h1|h1
     ·exact HO.out j h1
     ·obtain rfl:j=i:=by omega
      exact h
    obtain⟨x,hx⟩:∃x,xN x0 x1 x2 x3 i=x:=⟨_,rfl⟩
    rw [hx] at hno
    rw [hx] at hok
    simp only [hx] at hgt
    have HGI:=xhd hgt
    have HNI:=xhd hno
    have HOI:=xhd hok
    have i4:(i:Int) < 4:=by omega
    have i2:IntKind.i64.wrap ((i:Int)+1)=(i:Int)+1:=by rw [IntKind.wrap_i64];omega
    obtain⟨c0,c1,c2,c3,c4⟩:=act_cells HB.out.act
    clear hgt hno hok hx
    by_cases hlo:x < 0
    ·have HA:=xhd (HNI.out (ok_low hlo))
     go_wp2_with fail
     with_reducible refine (HGI.out _).mono ?_
     rintro e w2 ⟨rfl,hb⟩
     have HB2:=xhd (HB.out.below hb)
     clear hb
     go_wp2
     go_ret
     exact⟨congrArg (fun x=>Ending.returned (.bool x)) HA.out.symm,HB2.out.bel⟩
    ·by_cases hhi:999999999 < x
     ·have HA:=xhd (HNI.out (ok_high hhi))
      go_wp2_with fail
      with_reducible refine (HGI.out _).mono ?_
      rintro e w2 ⟨rfl,hb⟩
      have HB2:=xhd (HB.out.below hb)
      clear hb
      go_wp2
      go_ret
      exact⟨congrArg (fun x=>Ending.returned (.bool x)) HA.out.symm,HB2.out.bel⟩
     ·by_cases him:m≤i
      ·have him2:(m:Int)≤i:=by omega
       by_cases hz:x=0
       ·have HO2:=xhd (HOI.out (ok_in (by omega) (by omega) (fun _=>hz)))
        subst hz
        clear hlo hhi
        go_wp2_with fail
        with_reducible refine (HGI.out _).mono ?_
        rintro e w2 ⟨rfl,hb⟩
        have HB2:=xhd (HB.out.below hb)
        clear hb c0 c1 c2 c3 c4
        obtain⟨c0,c1,c2,c3,c4⟩:=act_cells HB2.out.act
        go_wp2_with fail
        with_reducible refine (HMY.out _).mono ?_
        rintro e w3 ⟨rfl,hb⟩
        have HB3:=xhd (HB2.out.below hb)
        clear hb
        go_wp2
        go_roundw
        case rel=>exact⟨i+1,by go_num,by omega,HB3,HO2⟩
        case measure=>simp [intOf];omega
       ·have HA:=xhd (HNI.out (ok_past him2 hz))
        have hzb:(x != 0)=true:=by simpa using hz
        go_wp2_with fail
        with_reducible refine (HGI.out _).mono ?_
        rintro e w2 ⟨rfl,hb⟩
        have HB2:=xhd (HB.out.below hb)
        clear hb c0 c1 c2 c3 c4
        obtain⟨c0,c1,c2,c3,c4⟩:=act_cells HB2.out.act
        go_wp2_with fail
        with_reducible refine (HMY.out _).mono ?_
        rintro e w3 ⟨rfl,hb⟩
        have HB3:=xhd (HB2.out.below hb)
        clear hb
        go_wp2
        go_ret
        exact⟨congrArg (fun x=>Ending.returned (.bool x)) HA.out.symm,HB3.out.bel⟩
      ·have him2:¬(m:Int)≤i:=by omega
       have HO2:=xhd (HOI.out (ok_in (by omega) (by omega) (fun h=>absurd h him2)))
       go_wp2_with fail
       with_reducible refine (HGI.out _).mono ?_
       rintro e w2 ⟨rfl,hb⟩
       have HB2:=xhd (HB.out.below hb)
       clear hb c0 c1 c2 c3 c4
       obtain⟨c0,c1,c2,c3,c4⟩:=act_cells HB2.out.act
       go_wp2_with fail
       with_reducible refine (HMY.out _).mono ?_
       rintro e w3 ⟨rfl,hb⟩
       have HB3:=xhd (HB2.out.below hb)
       clear hb
       go_wp2
       go_roundw
       case rel=>exact⟨i+1,by go_num,by omega,HB3,HO2⟩
       case measure=>simp [intOf];omega
   ·obtain rfl:i=4:=by omega
    have HA:=xhd (HYES.out (fun j hj=>HO.out j hj))
    go_wp2
    go_ret
    exact⟨congrArg (fun x=>Ending.returned (.bool x)) HA.out.symm,HB.out.bel⟩
end Go.Proofs.YtbnhnnccioljhaaGreatDoor
