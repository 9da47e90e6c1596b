/-
  The document's May of setups. (Made by gen_rmay.py.)
-/
import Derived.Test.YtbnhnnccioljhaaGreatDoorZAX
import Derived.Deep.RegionHeld3
import Derived.Test.YtbnhnnccioljhaaGreatDoorZAl
set_option maxRecDepth 100000
set_option maxHeartbeats 25600000
namespace Go.Proofs.YtbnhnnccioljhaaGreatDoor
open Go.RowKit
structure SyB (w W:World) (cs:Array Value):Prop where
 box:W.heap[w.heap.size]?=some (.cells cs 26 (0,0))
 bel:Below w.heap.size w W
theorem SyB.below {w W W':World} {cs:Array Value} (h:SyB w W cs) (hb:Below W.heap.size W W'):SyB w W' cs:=
 ⟨(hb.block _ (lt_of_block h.box)).trans h.box,h.bel.trans (hb.mono h.bel.size)⟩
theorem all_not {α:Type} {p:α→Bool} {L:List α} {i:Nat} (hi:i < L.length) (h:p L[i]=false):L.all p=false:=by
 rw [List.all_eq_false]
 exact⟨_,List.getElem_mem hi,by simp [h]⟩
theorem all_yes {α:Type} {p:α→Bool} {L:List α} (h:∀j (hj:j < L.length),p L[j]=true):L.all p=true:=by
 rw [List.all_eq_true]
 intro o ho
 obtain⟨j,hj,rfl⟩:=List.getElem_of_mem ho
 exact h j hj
theorem rsmay_any (s:Stp) (ag:Option Addr) (bg og cg:Nat) (al:Option Addr) (bl ol cl:Nat) (ap:Option Addr) (bp op cp:Nat) (w:World) (h:SArg w s ag bg og al bl ol ap bp op) (hz:SSize s):
  Calls Tryz.prog 20 #[.agg (stC s.1 s.2.1 ag s.2.2.1.length cg al s.2.2.2.1.length cl ap s.2.2.2.2.length cp)] w fun e w'=>e= .returned (.bool (mayS s))∧Below w.heap.size w w':=by
 obtain⟨c,g,gs,ls,ps⟩:=s
 have HG:=xhd h.gs
 have HL:=xhd h.ls
 have HP:=xhd h.ps
 have HZ:=xhd hz
 have zg:=hz.g
 have zl:=hz.l
 have zp:=hz.p
 simp only at HG HL HP zg zl zp ⊢
 rw [mayS_eq]
 have HCK:=xhd (fun V i (hi:i < ps.length) (ai:Option Addr) (bi oi ci:Nat) (hV:Below w.heap.size w V) (ho:OArg V ai bi oi (ps[i]).2)=>rcheck_any (ps[i]).1 ai bi oi ci (ps[i]).2 al bl ol cl ls (ps.length:Nat) V ho (HL.out.below hV) (hz.ops _ (List.getElem_mem hi)).2 (hz.ops _ (List.getElem_mem hi)).1 zl)
 have HW:=xhd (fun n m V=>rwithin_any n m V)
 obtain⟨ng,hng⟩:∃n,gs.length=n:=⟨_,rfl⟩
 obtain⟨nl,hnl⟩:∃n,ls.length=n:=⟨_,rfl⟩
 obtain⟨np,hnp⟩:∃n,ps.length=n:=⟨_,rfl⟩
 obtain⟨A,hA⟩:∃A,(inS c 4&&(inS g 8&&(inS gs.length 4&&(decide (ls.length≤8)&&(inS ps.length 8&&(gs.all (inS · 16)&&(ls.all lkMay&&ps.all (fitS ls ps.length))))))))=A:=⟨_,rfl⟩
 rw [hA]
 rw [hng,hnl,hnp] at hA
 have HA:=xhd hA
 have HNG:=xhd hng
 have HNL:=xhd hnl
 have HNP:=xhd hnp
 rw [hng] at zg ⊢
 rw [hnl] at zl ⊢
 rw [hnp] at zp ⊢
 obtain⟨W0,hW0⟩:∃W0,w.alloc (.cells (stC c g ag ng cg al nl cl ap np cp) 26)=W0:=⟨_,rfl⟩
 have HY:Hid (SyB w W0 (stC c g ag ng cg al nl cl ap np cp)):=xhd (by
  rw [←hW0]
  exact⟨heap_alloc_new w _,(Below.refl _ w).alloc (Nat.le_refl _) _⟩)
 have HB0:=xhd ((Below.refl _ w).alloc (Nat.le_refl _) (.cells (stC c g ag ng cg al nl cl ap np cp) 26))
 have HW0:=xhd hW0
 clear h hz hA hng hnl hnp hW0
 cases q1:inS c 4 with
 |false=>
  have Hq1:=xhd (fun V=>by
   have h:=HW.out c 4 V
   rw [q1] at h
   exact h)
  have HE:Hid (A=false):=xhd (by rw [←HA.out];simp [q1])
  go_enter Tryz.func20,Tryz.ntmps20
  go_wp2_with fail
  with_reducible refine (Hq1.out _).mono ?_
  rintro e w' ⟨rfl,rfl⟩
  go_wp2
  go_ret
  exact⟨congrArg (fun x=>Ending.returned (.bool x)) HE.out.symm,HB0.out⟩
 |true=>
  have Hq1:=xhd (fun V=>by
   have h:=HW.out c 4 V
   rw [q1] at h
   exact h)
  cases q2:inS g 8 with
  |false=>
   have Hq2:=xhd (fun V=>by
    have h:=HW.out g 8 V
    rw [q2] at h
    exact h)
   have HE:Hid (A=false):=xhd (by rw [←HA.out];simp [q1,q2])
   go_enter Tryz.func20,Tryz.ntmps20
   go_wp2_with fail
   with_reducible refine (Hq1.out _).mono ?_
   rintro e w' ⟨rfl,rfl⟩
   go_wp2_with fail
   with_reducible refine (Hq2.out _).mono ?_
   rintro e w' ⟨rfl,rfl⟩
   go_wp2
   go_ret
   exact⟨congrArg (fun x=>Ending.returned (.bool x)) HE.out.symm,HB0.out⟩
  |true=>
   have Hq2:=xhd (fun V=>by
    have h:=HW.out g 8 V
    rw [q2] at h
    exact h)
   cases q3:inS ng 4 with
   |false=>
    have Hq3:=xhd (fun V=>by
     have h:=HW.out (ng:Nat) 4 V
     rw [q3] at h
     exact h)
    have HE:Hid (A=false):=xhd (by rw [←HA.out];simp [q1,q2,q3])
    go_enter Tryz.func20,Tryz.ntmps20
    go_wp2_with fail
    with_reducible refine (Hq1.out _).mono ?_
    rintro e w' ⟨rfl,rfl⟩
    go_wp2_with fail
    with_reducible refine (Hq2.out _).mono ?_
    rintro e w' ⟨rfl,rfl⟩
    go_wp2_with fail
    with_reducible refine (Hq3.out _).mono ?_
    rintro e w' ⟨rfl,rfl⟩
    go_wp2
    go_ret
    exact⟨congrArg (fun x=>Ending.returned (.bool x)) HE.out.symm,HB0.out⟩
   |true=>
    have Hq3:=xhd (fun V=>by
     have h:=HW.out (ng:Nat) 4 V
     rw [q3] at h
     exact h)
    by_cases h8n:nl≤8
    ·have g8:¬(8:Int) < nl:=by omega
     cases q5:inS np 8 with
     |false=>
      have Hq5:=xhd (fun V=>by
       have h:=HW.out (np:Nat) 8 V
       rw [q5] at h
       exact h)
      have HE:Hid (A=false):=xhd (by rw [←HA.out];simp [q1,q2,q3,h8n,q5])
      go_enter Tryz.func20,Tryz.ntmps20
      go_wp2_with fail
      with_reducible refine (Hq1.out _).mono ?_
      rintro e w' ⟨rfl,rfl⟩
      go_wp2_with fail
      with_reducible refine (Hq2.out _).mono ?_
      rintro e w' ⟨rfl,rfl⟩
      go_wp2_with fail
      with_reducible refine (Hq3.out _).mono ?_
      rintro e w' ⟨rfl,rfl⟩
      go_wp2_with fail
      with_reducible refine (Hq5.out _).mono ?_
      rintro e w' ⟨rfl,rfl⟩
      go_wp2
      go_ret
      exact⟨congrArg (fun x=>Ending.returned (.bool x)) HE.out.symm,HB0.out⟩
     |true=>
      have Hq5:=xhd (fun V=>by
       have h:=HW.out (np:Nat) 8 V
       rw [q5] at h
       exact h)
      have HA1:Hid (A=(gs.all (inS · 16)&&(ls.all lkMay&&ps.all (fitS ls (np:Nat))))):=xhd (by rw [←HA.out];simp [q1,q2,q3,h8n,q5])
      clear q1 q2 q3 q5 h8n
      go_enter Tryz.func20,Tryz.ntmps20
      go_wp2_with fail
      with_reducible refine (Hq1.out _).mono ?_
      rintro e w' ⟨rfl,rfl⟩
      go_wp2_with fail
      with_reducible refine (Hq2.out _).mono ?_
      rintro e w' ⟨rfl,rfl⟩
      go_wp2_with fail
      with_reducible refine (Hq3.out _).mono ?_
      rintro e w' ⟨rfl,rfl⟩
      go_wp2_with fail
      with_reducible refine (Hq5.out _).mono ?_
      rintro e w' ⟨rfl,rfl⟩
      go_wp2_with fail
      rw [HW0.out]
      obtain⟨c0,c1,c2,c3,c4⟩:=st_cells HY.out.box
      go_loopw [3] (fun s wr=>∃i:Nat,s= .int .i64 (i:Nat)∧i≤ng∧wr=W0∧Hid (∀j (hj:j < gs.length),j < i→inS gs[j] 16=true)) (fun s _=>ng - (intOf s).toNat)
      case atStart=>exact⟨0,rfl,Nat.zero_le _,rfl,fun j _ hj=>absurd hj (Nat.not_lt_zero _)⟩
      case round=>
       obtain⟨i,rfl,hi,rfl,HO⟩:=hrel
       by_cases hlt:i < ng
       ·have hiL:i < gs.length:=by rw [HNG.out];exact hlt
        have hA:=HG.out.below HY.out.bel
        obtain⟨rfl,hbl⟩:=hA.at_ (by omega)
        have x0:=hA.cells i hiL
        have i0:(0:Int)≤i:=by omega
        have i1:(i:Int) < ng:=by omega
        have i2:IntKind.i64.wrap ((i:Int)+1)=(i:Int)+1:=by rw [IntKind.wrap_i64];omega
        clear hA
        cases q:inS gs[i] 16 with
        |false=>
         have HE:Hid (A=false):=xhd (by rw [HA1.out,all_not hiL q,Bool.false_and])
         have HQ:=xhd (fun V=>by
          have h:=HW.out gs[i] 16 V
          rw [q] at h
          exact h)
         clear q
         go_wp2_with fail
         with_reducible refine (HQ.out _).mono ?_
         rintro e w' ⟨rfl,rfl⟩
         go_wp2
         go_ret
         exact⟨congrArg (fun x=>Ending.returned (.bool x)) HE.out.symm,HY.out.bel⟩
        |true=>
         have HO2:Hid (∀j (hj:j < gs.length),j < i+1→inS gs[j] 16=true):=xhd (fun j hj hji=>by
          rcases Nat.lt_or_ge j i with h|h
          ·exact HO.out j hj h
          ·obtain rfl:j=i:=by omega
           exact q)
         have HQ:=xhd (fun V=>by
          have h:=HW.out gs[i] 16 V
          rw [q] at h
          exact h)
         clear q
         go_wp2_with fail
         with_reducible refine (HQ.out _).mono ?_
         rintro e w' ⟨rfl,rfl⟩
         go_wp2
         go_roundw
         case rel=>exact⟨i+1,by go_num,by omega,trivial,HO2⟩
         case measure=>simp [intOf];omega
       ·have HA2:Hid (A=(ls.all lkMay&&ps.all (fitS ls (np:Nat)))):=xhd (by rw [HA1.out,all_yes (fun j hj=>HO.out j hj (by have:=HNG.out;omega)),Bool.true_and])
        have ni:¬(i:Int) < ng:=by omega
        go_wp2_with fail
        go_loopw [4] (fun s wr=>∃i:Nat,s= .int .i64 (i:Nat)∧i≤nl∧Hid (SyB w wr (stC c g ag ng cg al nl cl ap np cp))∧Hid (∀j (hj:j < ls.length),j < i→lkMay ls[j]=true)) (fun s _=>nl - (intOf s).toNat)
        case atStart=>exact⟨0,rfl,Nat.zero_le _,HY,fun j _ hj=>absurd hj (Nat.not_lt_zero _)⟩
        case round=>
         clear c0 c1 c2 c3 c4 hlt ni
         obtain⟨i,rfl,hi,HM,HO⟩:=hrel
         obtain⟨c0,c1,c2,c3,c4⟩:=st_cells HM.out.box
         by_cases hlt:i < nl
         ·have hiL:i < ls.length:=by rw [HNL.out];exact hlt
          have hA:=HL.out.below HM.out.bel
          obtain⟨rfl,hbl⟩:=hA.at_ (by omega)
          obtain⟨x0,x1,x2,x3,x4⟩:=hA.cells i hiL
          obtain⟨⟨sh,sl,cr,rd,wt⟩,hx⟩:∃x,ls[i]=x:=⟨_,rfl⟩
          rw [hx] at x0 x1 x2 x3 x4
          simp only at x0 x1 x2 x3 x4
          have HX:=xhd hx
          have i0:(0:Int)≤i:=by omega
          have i1:(i:Int) < nl:=by omega
          have i2:IntKind.i64.wrap ((i:Int)+1)=(i:Int)+1:=by rw [IntKind.wrap_i64];omega
          have lb:=lt_of_block HM.out.box
          clear hA hx
          cases q1:inS sl 16 with
          |false=>
           have HQ1:=xhd (fun V=>by
            have h:=HW.out sl 16 V
            rw [q1] at h
            exact h)
           have HE:Hid (A=false):=xhd (by rw [HA2.out,all_not hiL (by rw [HX.out];simp [lkMay,q1]),Bool.false_and])
           clear q1
           go_wp2_with fail
           with_reducible refine (HQ1.out _).mono ?_
           rintro e w' ⟨rfl,rfl⟩
           go_wp2
           go_ret
           exact⟨congrArg (fun x=>Ending.returned (.bool x)) HE.out.symm,HM.out.bel.alloc HM.out.bel.size _⟩
          |true=>
           cases q2:inS cr 32 with
           |false=>
            have HQ1:=xhd (fun V=>by
             have h:=HW.out sl 16 V
             rw [q1] at h
             exact h)
            have HQ2:=xhd (fun V=>by
             have h:=HW.out cr 32 V
             rw [q2] at h
             exact h)
            have HE:Hid (A=false):=xhd (by rw [HA2.out,all_not hiL (by rw [HX.out];simp [lkMay,q1,q2]),Bool.false_and])
            clear q1 q2
            go_wp2_with fail
            with_reducible refine (HQ1.out _).mono ?_
            rintro e w' ⟨rfl,rfl⟩
            go_wp2_with fail
            with_reducible refine (HQ2.out _).mono ?_
            rintro e w' ⟨rfl,rfl⟩
            go_wp2
            go_ret
            exact⟨congrArg (fun x=>Ending.returned (.bool x)) HE.out.symm,HM.out.bel.alloc HM.out.bel.size _⟩
           |true=>
            cases sh with
            |true=>
             cases q3:inS rd 16 with
             |false=>
              have HQ1:=xhd (fun V=>by
               have h:=HW.out sl 16 V
               rw [q1] at h
               exact h)
              have HQ2:=xhd (fun V=>by
               have h:=HW.out cr 32 V
               rw [q2] at h
               exact h)
              have HQ3:=xhd (fun V=>by
               have h:=HW.out rd 16 V
               rw [q3] at h
               exact h)
              have HE:Hid (A=false):=xhd (by rw [HA2.out,all_not hiL (by rw [HX.out];simp [lkMay,q1,q2,q3]),Bool.false_and])
              clear q1 q2 q3
              go_wp2_with fail
              with_reducible refine (HQ1.out _).mono ?_
              rintro e w' ⟨rfl,rfl⟩
              go_wp2_with fail
              with_reducible refine (HQ2.out _).mono ?_
              rintro e w' ⟨rfl,rfl⟩
              go_wp2_with fail
              with_reducible refine (HQ3.out _).mono ?_
              rintro e w' ⟨rfl,rfl⟩
              go_wp2
              go_ret
              exact⟨congrArg (fun x=>Ending.returned (.bool x)) HE.out.symm,HM.out.bel.alloc HM.out.bel.size _⟩
             |true=>
              cases q4:inS wt 16 with
              |false=>
               have HQ1:=xhd (fun V=>by
                have h:=HW.out sl 16 V
                rw [q1] at h
                exact h)
               have HQ2:=xhd (fun V=>by
                have h:=HW.out cr 32 V
                rw [q2] at h
                exact h)
               have HQ3:=xhd (fun V=>by
                have h:=HW.out rd 16 V
                rw [q3] at h
                exact h)
               have HQ4:=xhd (fun V=>by
                have h:=HW.out wt 16 V
                rw [q4] at h
                exact h)
               have HE:Hid (A=false):=xhd (by rw [HA2.out,all_not hiL (by rw [HX.out];simp [lkMay,q1,q2,q3,q4]),Bool.false_and])
               clear q1 q2 q3 q4
               go_wp2_with fail
               with_reducible refine (HQ1.out _).mono ?_
               rintro e w' ⟨rfl,rfl⟩
               go_wp2_with fail
               with_reducible refine (HQ2.out _).mono ?_
               rintro e w' ⟨rfl,rfl⟩
               go_wp2_with fail
               with_reducible refine (HQ3.out _).mono ?_
               rintro e w' ⟨rfl,rfl⟩
               go_wp2_with fail
               with_reducible refine (HQ4.out _).mono ?_
               rintro e w' ⟨rfl,rfl⟩
               go_wp2
               go_ret
               exact⟨congrArg (fun x=>Ending.returned (.bool x)) HE.out.symm,HM.out.bel.alloc HM.out.bel.size _⟩
              |true=>
               have HQ1:=xhd (fun V=>by
                have h:=HW.out sl 16 V
                rw [q1] at h
                exact h)
               have HQ2:=xhd (fun V=>by
                have h:=HW.out cr 32 V
                rw [q2] at h
                exact h)
               have HQ3:=xhd (fun V=>by
                have h:=HW.out rd 16 V
                rw [q3] at h
                exact h)
               have HQ4:=xhd (fun V=>by
                have h:=HW.out wt 16 V
                rw [q4] at h
                exact h)
               have HO2:Hid (∀j (hj:j < ls.length),j < i+1→lkMay ls[j]=true):=xhd (fun j hj hji=>by
                rcases Nat.lt_or_ge j i with h|h
                ·exact HO.out j hj h
                ·obtain rfl:j=i:=by omega
                 rw [HX.out]
                 simp [lkMay,q1,q2,q3,q4])
               clear q1 q2 q3 q4
               go_wp2_with fail
               with_reducible refine (HQ1.out _).mono ?_
               rintro e w' ⟨rfl,rfl⟩
               go_wp2_with fail
               with_reducible refine (HQ2.out _).mono ?_
               rintro e w' ⟨rfl,rfl⟩
               go_wp2_with fail
               with_reducible refine (HQ3.out _).mono ?_
               rintro e w' ⟨rfl,rfl⟩
               go_wp2_with fail
               with_reducible refine (HQ4.out _).mono ?_
               rintro e w' ⟨rfl,rfl⟩
               go_wp2
               go_roundw
               case rel=>exact⟨i+1,by go_num,by omega,xhd (HM.out.below ((Below.refl _ _).alloc (Nat.le_refl _) _)),HO2⟩
               case measure=>simp [intOf];omega
            |false=>
             by_cases r0:rd=0
             ·subst r0
              by_cases t0:wt=0
              ·subst t0
               have HQ1:=xhd (fun V=>by
                have h:=HW.out sl 16 V
                rw [q1] at h
                exact h)
               have HQ2:=xhd (fun V=>by
                have h:=HW.out cr 32 V
                rw [q2] at h
                exact h)
               have HO2:Hid (∀j (hj:j < ls.length),j < i+1→lkMay ls[j]=true):=xhd (fun j hj hji=>by
                rcases Nat.lt_or_ge j i with h|h
                ·exact HO.out j hj h
                ·obtain rfl:j=i:=by omega
                 rw [HX.out]
                 simp [lkMay,q1,q2])
               clear q1 q2
               go_wp2_with fail
               with_reducible refine (HQ1.out _).mono ?_
               rintro e w' ⟨rfl,rfl⟩
               go_wp2_with fail
               with_reducible refine (HQ2.out _).mono ?_
               rintro e w' ⟨rfl,rfl⟩
               go_wp2
               go_roundw
               case rel=>exact⟨i+1,by go_num,by omega,xhd (HM.out.below ((Below.refl _ _).alloc (Nat.le_refl _) _)),HO2⟩
               case measure=>simp [intOf];omega
              ·have tt:(wt == 0)=false:=by simpa using t0
               have tn:(wt != 0)=true:=by simpa using t0
               have HQ1:=xhd (fun V=>by
                have h:=HW.out sl 16 V
                rw [q1] at h
                exact h)
               have HQ2:=xhd (fun V=>by
                have h:=HW.out cr 32 V
                rw [q2] at h
                exact h)
               have HE:Hid (A=false):=xhd (by rw [HA2.out,all_not hiL (by rw [HX.out];simp [lkMay,q1,q2,t0]),Bool.false_and])
               clear q1 q2
               go_wp2_with fail
               with_reducible refine (HQ1.out _).mono ?_
               rintro e w' ⟨rfl,rfl⟩
               go_wp2_with fail
               with_reducible refine (HQ2.out _).mono ?_
               rintro e w' ⟨rfl,rfl⟩
               go_wp2
               go_ret
               exact⟨congrArg (fun x=>Ending.returned (.bool x)) HE.out.symm,HM.out.bel.alloc HM.out.bel.size _⟩
             ·have rr:(rd == 0)=false:=by simpa using r0
              have rn:(rd != 0)=true:=by simpa using r0
              have HQ1:=xhd (fun V=>by
               have h:=HW.out sl 16 V
               rw [q1] at h
               exact h)
              have HQ2:=xhd (fun V=>by
               have h:=HW.out cr 32 V
               rw [q2] at h
               exact h)
              have HE:Hid (A=false):=xhd (by rw [HA2.out,all_not hiL (by rw [HX.out];simp [lkMay,q1,q2,r0]),Bool.false_and])
              clear q1 q2
              go_wp2_with fail
              with_reducible refine (HQ1.out _).mono ?_
              rintro e w' ⟨rfl,rfl⟩
              go_wp2_with fail
              with_reducible refine (HQ2.out _).mono ?_
              rintro e w' ⟨rfl,rfl⟩
              go_wp2
              go_ret
              exact⟨congrArg (fun x=>Ending.returned (.bool x)) HE.out.symm,HM.out.bel.alloc HM.out.bel.size _⟩
         ·have HA3:Hid (A=ps.all (fitS ls (np:Nat))):=xhd (by rw [HA2.out,all_yes (fun j hj=>HO.out j hj (by have:=HNL.out;omega)),Bool.true_and])
          have ni:¬(i:Int) < nl:=by omega
          go_wp2_with fail
          go_loopw [6] (fun s wr=>∃i:Nat,s= .int .i64 (i:Nat)∧i≤np∧Hid (SyB w wr (stC c g ag ng cg al nl cl ap np cp))∧Hid (∀j (hj:j < ps.length),j < i→fitS ls (np:Nat) ps[j]=true)) (fun s _=>np - (intOf s).toNat)
          case atStart=>exact⟨0,rfl,Nat.zero_le _,HM,fun j _ hj=>absurd hj (Nat.not_lt_zero _)⟩
          case round=>
           clear c0 c1 c2 c3 c4 hlt ni HM
           obtain⟨i,rfl,hi,HM,HO⟩:=hrel
           by_cases hlt:i < np
           ·obtain⟨c0,c1,c2,c3,c4⟩:=st_cells HM.out.box
            have hiL:i < ps.length:=by rw [HNP.out];exact hlt
            have HB1:=xhd ((Below.refl wr.heap.size wr).drew)
            have hbd:=HM.out.below HB1.out
            have hA:=HP.out.below hbd.bel
            obtain⟨rfl,hbl⟩:=hA.at_ (by omega)
            obtain⟨ai,bi,oi,ci,x0,x1,ho⟩:=hA.cells i hiL
            have hck:=HCK.out _ i hiL ai bi oi ci hbd.bel ho
            obtain⟨⟨pf,pl⟩,hx⟩:∃x,ps[i]=x:=⟨_,rfl⟩
            simp only [hx,HNP.out,HNL.out] at x0 x1 hck
            have HX:=xhd hx
            have p0:=And.intro (st_cells hbd.box).2.2.2.1 (And.intro (st_cells hbd.box).2.2.2.2 (And.intro x0 x1))
            have i0:(0:Int)≤i:=by omega
            have i1:(i:Int) < np:=by omega
            have i2:IntKind.i64.wrap ((i:Int)+1)=(i:Int)+1:=by rw [IntKind.wrap_i64];omega
            obtain⟨⟨ri,re⟩,hre⟩:∃r,checkR (pf,pl) ls (np:Nat)=r:=⟨_,rfl⟩
            have hfit:fitS ls (np:Nat) ps[i]=decide (re=0):=by rw [hx];unfold fitS;rw [hre]
            rw [hre] at hck
            have HCI:=xhd hck
            have HF:=xhd hfit
            clear hA hx ho hck hre hfit hbd x0 x1
            go_wp2_with fail
            go_region_held3 (fun V=>V.cell? ⟨w.heap.size,3,none⟩=some (.slice al nl cl)∧V.cell? ⟨w.heap.size,4,none⟩=some (.slice (some ⟨bp,op,none⟩) np cp)∧V.cell? ⟨bp,op+i*2,none⟩=some (.bool pf)∧V.cell? ⟨bp,op+i*2+1,none⟩=some (.slice ai pl.length ci))
             (first|exact p0|exact p1)
             (first
               |(go_at_call 52
                 with_reducible refine HCI.out.mono ?_
                 rintro r V1 ⟨rfl,hb⟩
                 have HV1:=xhd (HB1.out.trans (hb.mono HB1.out.size))
                 have p1:=And.intro ((hb.cell (p:=⟨w.heap.size,3,none⟩) (by simpa using lt_of_block HM.out.box)).trans p0.1) (And.intro ((hb.cell (p:=⟨w.heap.size,4,none⟩) (by simpa using lt_of_block HM.out.box)).trans p0.2.1) (And.intro ((hb.cell (p:=⟨bp,op+i*2,none⟩) hbl).trans p0.2.2.1) ((hb.cell (p:=⟨bp,op+i*2+1,none⟩) hbl).trans p0.2.2.2)))
                 clear hb))
            clear p0 p1
            by_cases hr0:re=0
            ·subst hr0
             have HO2:Hid (∀j (hj:j < ps.length),j < i+1→fitS ls (np:Nat) ps[j]=true):=xhd (fun j hj hji=>by
              rcases Nat.lt_or_ge j i with h|h
              ·exact HO.out j hj h
              ·obtain rfl:j=i:=by omega
               rw [HF.out]
               rfl)
             go_wp2
             go_roundw
             case rel=>exact⟨i+1,by go_num,by omega,xhd (HM.out.below HV1.out),HO2⟩
             case measure=>simp [intOf];omega
            ·have rr:(re == 0)=false:=by simpa using hr0
             have rn:(re != 0)=true:=by simpa using hr0
             have HE:Hid (A=false):=xhd (by rw [HA3.out,all_not hiL (by rw [HF.out];simp [hr0])])
             go_wp2
             go_ret
             exact⟨congrArg (fun x=>Ending.returned (.bool x)) HE.out.symm,(HM.out.below HV1.out).bel⟩
           ·have HE:Hid (A=true):=xhd (by rw [HA3.out,all_yes (fun j hj=>HO.out j hj (by have:=HNP.out;omega))])
            have ni:¬(i:Int) < np:=by omega
            obtain⟨c0,c1,c2,c3,c4⟩:=st_cells HM.out.box
            go_wp2
            go_ret
            exact⟨congrArg (fun x=>Ending.returned (.bool x)) HE.out.symm,HM.out.bel⟩
    ·have h8:¬nl≤8:=h8n
     have g8:(8:Int) < nl:=by omega
     have HE:Hid (A=false):=xhd (by rw [←HA.out];simp [q1,q2,q3,h8])
     go_enter Tryz.func20,Tryz.ntmps20
     go_wp2_with fail
     with_reducible refine (Hq1.out _).mono ?_
     rintro e w' ⟨rfl,rfl⟩
     go_wp2_with fail
     with_reducible refine (Hq2.out _).mono ?_
     rintro e w' ⟨rfl,rfl⟩
     go_wp2_with fail
     with_reducible refine (Hq3.out _).mono ?_
     rintro e w' ⟨rfl,rfl⟩
     go_wp2
     go_ret
     exact⟨congrArg (fun x=>Ending.returned (.bool x)) HE.out.symm,HB0.out⟩
end Go.Proofs.YtbnhnnccioljhaaGreatDoor
