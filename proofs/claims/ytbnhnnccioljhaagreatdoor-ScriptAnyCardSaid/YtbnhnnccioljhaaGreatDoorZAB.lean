/-
  The document's is, Name, Limits, One.
  The document's One, May.
  The document's May.
-/
import Derived.Test.YtbnhnnccioljhaaGreatDoorZAA
import Derived.Test.YtbnhnnccioljhaaGreatDoorZAl
set_option maxRecDepth 100000
set_option maxHeartbeats 25600000
namespace Go.Proofs.YtbnhnnccioljhaaGreatDoor
open Go.RowKit
theorem is_any (ao:Option Addr) (b off cap:Nat) (L:List Wd) (a:Nat) (k:Int) (s:ByteArray) (w:World) (h:WArg w ao b off L) (hl:L.length≤100000):
  Calls Tryz.prog 144 #[.slice ao L.length cap, .int .i64 a, .int .i64 k, .string s] w fun e w'=>e= .returned (.bool (isR L a k s.data.toList))∧w'=w:=by
 have HA:=xhd h
 obtain⟨n,hn⟩:∃n,L.length=n:=⟨_,rfl⟩
 have HN:=xhd hn
 rw [hn] at hl ⊢
 clear h hn
 by_cases hlt:a < n
 ·have hlt':a < L.length:=by rw [HN.out];exact hlt
  obtain⟨rfl,hb⟩:=HA.out.at_ (by omega)
  obtain⟨x0,x1,x2,x3⟩:=HA.out.cells a hlt'
  have e:isR L a k s.data.toList=(decide (L[a].1=k)&&decide (L[a].2.1=s.data.toList)):=by
   unfold isR;rw [List.getElem?_eq_getElem hlt']
  rw [e]
  obtain⟨⟨k1,t1,m,p⟩,hx⟩:∃x,L[a]=x:=⟨_,rfl⟩
  rw [hx] at x0 x1 ⊢
  simp only at x0 x1 ⊢
  clear x2 x3 e
  by_cases hk:k1=k
  ·subst hk
   by_cases ht:t1=s.data.toList
   ·have ht2:(⟨t1.toArray⟩:ByteArray)=s:=by rw [ht]
    rw [ht2] at x1
    go_enter Tryz.func144,Tryz.ntmps144
    go_wp2
    go_ret
    simp [ht]
   ·go_enter Tryz.func144,Tryz.ntmps144
    go_wp2
    go_ret
    simp [ht,Lib.toList_data]
  ·go_enter Tryz.func144,Tryz.ntmps144
   go_wp2
   go_ret
   simp [hk]
 ·have e:isR L a k s.data.toList=false:=by
    unfold isR;rw [List.getElem?_eq_none (by rw [HN.out];omega)]
  rw [e]
  go_enter Tryz.func144,Tryz.ntmps144
  go_wp2
  go_ret
  exact⟨rfl,rfl⟩
theorem rname_out (k:Int) (hk:k < 0∨11 < k) (h0: -9223372036854775808≤k) (h1:k≤9223372036854775807) (w:World):
  Calls Tryz.prog 109 #[.int .i64 k] w fun e w'=>e= .returned (.string ⟨(nameR k).toArray⟩)∧Below w.heap.size w w':=by
 have e:nameR k=[]:=by unfold nameR;rw [if_neg (by omega)]
 rw [e]
 clear e
 rcases hk with hk|hk
 ·go_enter Tryz.func109,Tryz.ntmps109
  go_wp2
  go_ret
  exact⟨rfl,(Below.refl _ w).alloc (Nat.le_refl _) _⟩
 ·go_enter Tryz.func109,Tryz.ntmps109
  go_wp2
  go_ret
  exact⟨rfl,(Below.refl _ w).alloc (Nat.le_refl _) _⟩
theorem rname_in (k:Int) (h0:0≤k) (h1:k≤11) (w:World):
  Calls Tryz.prog 109 #[.int .i64 k] w fun e w'=>e= .returned (.string ⟨(nameR k).toArray⟩)∧Below w.heap.size w w':=by
 have:k=0∨k=1∨k=2∨k=3∨k=4∨k=5∨k=6∨k=7∨k=8∨k=9∨k=10∨k=11:=by omega
 rcases this with h|h|h|h|h|h|h|h|h|h|h|h<;>subst h<;>
 ·go_enter Tryz.func109,Tryz.ntmps109
  go_wp2
  go_ret
  exact⟨rfl,(Below.refl _ w).alloc (Nat.le_refl _) _⟩
theorem rname_any (k:Int) (h0: -9223372036854775808≤k) (h1:k≤9223372036854775807) (w:World):
  Calls Tryz.prog 109 #[.int .i64 k] w fun e w'=>e= .returned (.string ⟨(nameR k).toArray⟩)∧Below w.heap.size w w':=by
 by_cases h:0≤k∧k≤11
 ·exact rname_in k h.1 h.2 w
 ·exact rname_out k (by omega) h0 h1 w
theorem rlim_any (k:Int) (w:World):
  Calls Tryz.prog 110 #[.int .i64 k] w fun e w'=>e= .returned (.tuple #[.int .i64 (limR k).1, .int .i64 (limR k).2])∧w'=w:=by
 by_cases h1:k=1
 ·subst h1
  go_enter Tryz.func110,Tryz.ntmps110
  go_wp2
  go_ret2
  exact⟨rfl,rfl⟩
 ·by_cases h2:2≤k∧k≤6
  ·have e:limR k=(0,7):=by unfold limR;rw [if_neg h1,if_pos (Or.inl h2)]
   obtain⟨h2,h3⟩:=h2
   rw [e]
   go_enter Tryz.func110,Tryz.ntmps110
   go_wp2
   go_ret2
   exact⟨rfl,rfl⟩
  ·by_cases h9:k=9
   ·subst h9
    go_enter Tryz.func110,Tryz.ntmps110
    go_wp2
    go_ret2
    exact⟨rfl,rfl⟩
   ·by_cases h7:k=7
    ·subst h7
     go_enter Tryz.func110,Tryz.ntmps110
     go_wp2
     go_ret2
     exact⟨rfl,rfl⟩
    ·by_cases h10:k=10
     ·subst h10
      go_enter Tryz.func110,Tryz.ntmps110
      go_wp2
      go_ret2
      exact⟨rfl,rfl⟩
     ·have e:limR k=(-1, -1):=by unfold limR;rw [if_neg h1,if_neg (by omega),if_neg h7,if_neg h10]
      rw [e]
      by_cases hlt:k < 2
      ·go_enter Tryz.func110,Tryz.ntmps110
       go_wp2
       go_ret2
       exact⟨rfl,rfl⟩
      ·have hgt:¬k≤6:=by omega
       have hgt2:decide (k≤6)=false:=by simpa using hgt
       have hk9:(k == 9)=false:=by simpa using h9
       go_enter Tryz.func110,Tryz.ntmps110
       go_wp2
       go_ret2
       exact⟨rfl,rfl⟩
theorem op_cells {w:World} {B:Nat} {a b c:Value} {t:TypeId} (h:w.heap[B]?=some (.cells #[a,b,c] t (0,0))):
  w.cell? ⟨B,0,none⟩=some a∧w.cell? ⟨B,1,none⟩=some b∧w.cell? ⟨B,2,none⟩=some c:=by
 refine⟨?_,?_,?_⟩<;>simp [World.cell?,h]
theorem two_cells {w:World} {B:Nat} {a b:Value} {t:TypeId} (h:w.heap[B]?=some (.cells #[a,b] t (0,0))):
  w.cell? ⟨B,0,none⟩=some a∧w.cell? ⟨B,1,none⟩=some b:=by
 refine⟨?_,?_⟩<;>simp [World.cell?,h]
theorem box_kept {w w2:World} {X:Obj} (hb:Below (w.alloc X).heap.size (w.alloc X) w2):w2.heap[w.heap.size]?=some X∧Below w.heap.size w w2:=by
 refine⟨(hb.block _ (by simp)).trans (heap_alloc_new w _),((Below.refl _ w).alloc (Nat.le_refl _) _).trans (hb.mono (by simp))⟩
theorem bool_iff {x y:Bool} (h:x=true↔y=true):Ending.returned (.bool x)= .returned (.bool y):=by rw [Bool.eq_iff_iff.2 h]
theorem rone_any (k a b:Int) (h0: -9223372036854775808≤k) (h1:k≤9223372036854775807) (w:World):
  Calls Tryz.prog 151 #[.agg #[.int .i64 k, .int .i64 a, .int .i64 b]] w fun e w'=>e= .returned (.bool (opMay (k,a,b)))∧Below w.heap.size w w':=by
 obtain⟨lo,hi,hl⟩:∃lo hi,limR k=(lo,hi):=⟨_,_,rfl⟩
 have hl2:=fun W=>rlim_any k W
 simp only [hl] at hl2
 have HL:=xhd hl2
 have hn:=fun W=>rname_any k h0 h1 W
 obtain⟨tx,htx⟩:∃tx:ByteArray,⟨(nameR k).toArray⟩=tx:=⟨_,rfl⟩
 have ht:tx.toList=nameR k:=by rw [Lib.toList_data, ←htx]
 simp only [htx] at hn
 have HN:=xhd hn
 clear hn hl2
 by_cases he:nameR k=[]
 ·have ho:opMay (k,a,b)=false:=by unfold opMay;simp [he]
  rw [ho]
  have q1:(tx.toList == [])=true:=by rw [ht,he];rfl
  have q2:tx.toList.isEmpty=true:=by rw [ht,he];rfl
  have q0:tx.toList=[]:=by rw [ht,he]
  clear ho he htx ht hl
  go_enter Tryz.func151,Tryz.ntmps151
  go_wp2_with fail
  with_reducible refine (HN.out _).mono ?_
  rintro e w1 ⟨rfl,hb⟩
  have HB:=xhd (box_kept hb).2
  clear hb
  go_wp2
  go_ret
  exact⟨rfl,HB.out⟩
 ·have ho:opMay (k,a,b)=(aMay (k,a,b)&&bMay (k,a,b)):=by unfold opMay;simp [he]
  rw [ho]
  have q1:(tx.toList == [])=false:=by rw [ht];simpa using he
  have q2:tx.toList.isEmpty=false:=by rw [ht];simpa using he
  have q0:¬tx.toList=[]:=by rw [ht];exact he
  unfold aMay bMay
  simp only [hl]
  have hlk:k=5→lo=0:=by
   rintro rfl
   have:limR 5=(0,7):=by decide
   rw [this] at hl
   simp only [Prod.mk.injEq] at hl
   exact hl.1.symm
  clear ho he htx ht hl
  by_cases hlo:0≤lo
  ·rw [if_pos hlo]
   by_cases h5:k=5
   ·rw [if_pos h5]
    have h00:=hlk h5
    subst h00
    subst h5
    clear hlk hlo
    go_enter Tryz.func151,Tryz.ntmps151
    go_wp2_with fail
    with_reducible refine (HN.out _).mono ?_
    rintro e w1 ⟨rfl,hb⟩
    obtain⟨hx,hb2⟩:=box_kept hb
    have HB:=xhd hb2
    obtain⟨c0,c1,c2⟩:=op_cells hx
    clear hb hx hb2
    go_wp2_with fail
    with_reducible refine (HL.out _).mono ?_
    rintro e w2 ⟨rfl,rfl⟩
    go_wp2
    all_goals
     go_ret
     refine⟨bool_iff ?_,HB.out⟩
     first
      |(simp;done)
      |(simp;omega)
   ·rw [if_neg h5]
    have h5b:(k == 5)=false:=by simpa using h5
    clear hlk
    go_enter Tryz.func151,Tryz.ntmps151
    go_wp2_with fail
    with_reducible refine (HN.out _).mono ?_
    rintro e w1 ⟨rfl,hb⟩
    obtain⟨hx,hb2⟩:=box_kept hb
    have HB:=xhd hb2
    obtain⟨c0,c1,c2⟩:=op_cells hx
    clear hb hx hb2
    go_wp2_with fail
    with_reducible refine (HL.out _).mono ?_
    rintro e w2 ⟨rfl,rfl⟩
    go_wp2
    all_goals
     go_ret
     refine⟨bool_iff ?_,HB.out⟩
     first
      |(simp;done)
      |(simp;omega)
  ·rw [if_neg hlo]
   by_cases h5:k=5
   ·have:=hlk h5
    omega
   ·rw [if_neg h5]
    have h5b:(k == 5)=false:=by simpa using h5
    clear hlk
    go_enter Tryz.func151,Tryz.ntmps151
    go_wp2_with fail
    with_reducible refine (HN.out _).mono ?_
    rintro e w1 ⟨rfl,hb⟩
    obtain⟨hx,hb2⟩:=box_kept hb
    have HB:=xhd hb2
    obtain⟨c0,c1,c2⟩:=op_cells hx
    clear hb hx hb2
    go_wp2_with fail
    with_reducible refine (HL.out _).mono ?_
    rintro e w2 ⟨rfl,rfl⟩
    go_wp2
    all_goals
     go_ret
     refine⟨bool_iff ?_,HB.out⟩
     first
      |(simp;done)
      |(simp;omega)
theorem may_from {f:Bool} {L:List Opn} {i:Nat} (hi:i < L.length) (h:opMay L[i]=false):mayR (f,L)=false:=by
 unfold mayR
 have:L.all opMay=false:=by
  rw [List.all_eq_false]
  exact⟨L[i],List.getElem_mem hi,by simp [h]⟩
 simp only [this]
 simp
theorem may_long {f:Bool} {L:List Opn} (h:12 < L.length):mayR (f,L)=false:=by
 unfold mayR
 have:decide (L.length≤12)=false:=by simp;omega
 simp [this]
theorem may_all {f:Bool} {L:List Opn} {n:Nat} (hn:L.length=n) (h12:n≤12) (h:∀i (hi:i < L.length),opMay L[i]=true):mayR (f,L)=decide (0 < n):=by
 unfold mayR
 have:L.all opMay=true:=by
  rw [List.all_eq_true]
  intro x hx
  obtain⟨i,hi,rfl⟩:=List.getElem_of_mem hx
  exact h i hi
 simp [this,hn,h12]
def small (x:Int):Prop:= -9223372036854775808≤x∧x≤9223372036854775807
theorem rmay_any (f:Bool) (ao:Option Addr) (b off cap:Nat) (L:List Opn) (w:World) (h:OArg w ao b off L) (hm:L.length≤100000) (hs:∀x ∈ L,small x.1):
  Calls Tryz.prog 105 #[prgV f ao L.length cap] w fun e w'=>e= .returned (.bool (mayR (f,L)))∧Below w.heap.size w w':=by
 have HA:=xhd h
 have HS:=xhd hs
 obtain⟨n,hn⟩:∃n,L.length=n:=⟨_,rfl⟩
 have HN:=xhd hn
 rw [hn] at hm ⊢
 obtain⟨r,hr⟩:∃r,mayR (f,L)=r:=⟨_,rfl⟩
 have HR:=xhd hr
 rw [hr]
 clear h hs hn hr
 go_enter Tryz.func105,Tryz.ntmps105
 go_wp2
 go_loopw [3] (fun i' wr=>∃i:Nat,i≤n∧i≤12∧i'= .int .i64 i∧Hid (Below w.heap.size w wr)∧wr.cell? ⟨w.heap.size,1,none⟩=some (.slice ao n cap)∧w.heap.size < wr.heap.size∧Hid (∀j (hj:j < L.length),j < i→opMay L[j]=true)) (fun i' _=>n - (intOf i').toNat)
 case atStart=>exact⟨0,Nat.zero_le _,by omega,rfl,(Below.refl _ w).alloc (Nat.le_refl _) _,by simp,by simp,fun j _ hj=>absurd hj (Nat.not_lt_zero _)⟩
 case round=>
  obtain⟨i,hi,h12,rfl,HB,c1,hsz,HO⟩:=hrel
  by_cases hlt:i < n
  ·by_cases hg:11 < i
   ·have HE:Hid (r=false):=xhd (HR.out.symm.trans (may_long (by rw [HN.out];omega)))
    have hg2:(11:Int) < i:=by omega
    go_wp2
    go_ret
    exact⟨congrArg (fun x=>Ending.returned (.bool x)) HE.out.symm,HB.out⟩
   ·have hlt':i < L.length:=by rw [HN.out];exact hlt
    have ha:=HA.out.below HB.out
    obtain⟨rfl,hb⟩:=ha.at_ (by omega)
    obtain⟨x0,x1,x2⟩:=ha.cells i hlt'
    have hk:=HS.out L[i] (List.getElem_mem hlt')
    have HF:=xhd (fun h=>may_from (f:=f) hlt' h)
    have HO2:Hid (opMay L[i]=true→∀j (hj:j < L.length),j < i+1→opMay L[j]=true):=xhd (fun hm j hj hji=>by
     rcases Nat.lt_or_ge j i with h|h
     ·exact HO.out j hj h
     ·have:j=i:=by omega
      subst this
      exact hm)
    obtain⟨⟨k,a,c⟩,hx⟩:∃x,L[i]=x:=⟨_,rfl⟩
    rw [hx] at x0 x1 x2 hk HF HO2
    simp only at x0 x1 x2 hk
    have hng:¬(11:Int) < i:=by omega
    have HC:=xhd (fun W=>rone_any k a c hk.1 hk.2 W)
    obtain⟨q,hq⟩:∃q,opMay (k,a,c)=q:=⟨_,rfl⟩
    rw [hq] at HF HO2
    simp only [hq] at HC
    clear hq hk hx ha
    cases q with
    |false=>
     have HE:Hid (r=false):=xhd (HR.out.symm.trans (HF.out rfl))
     go_wp2_with fail
     with_reducible refine (HC.out _).mono ?_
     rintro e w1 ⟨rfl,hb2⟩
     have hle:=HB.out.size
     have HB2:=xhd (HB.out.trans (hb2.mono hle))
     clear hb2
     go_wp2
     go_ret
     exact⟨congrArg (fun x=>Ending.returned (.bool x)) HE.out.symm,HB2.out⟩
    |true=>
     have HO3:=xhd (HO2.out rfl)
     go_wp2_with fail
     with_reducible refine (HC.out _).mono ?_
     rintro e w1 ⟨rfl,hb2⟩
     have hle:=HB.out.size
     have HB2:=xhd (HB.out.trans (hb2.mono hle))
     have c1':=(hb2.cell (p:=⟨w.heap.size,1,none⟩) hsz).trans c1
     have hsz2:w.heap.size < w1.heap.size:=Nat.lt_of_lt_of_le hsz hb2.size
     clear hb2
     go_wp2
     go_roundw
     case rel=>exact⟨i+1,by omega,by omega,by go_num,HB2,c1',hsz2,HO3⟩
     case measure=>simp [intOf];omega
  ·have HE:Hid (r=decide (0 < n)):=xhd (HR.out.symm.trans (may_all HN.out (by omega) (fun j hj=>HO.out j hj (by have:=HN.out;omega))))
   go_wp2
   go_ret
   refine⟨?_,HB.out⟩
   rw [HE.out]
   refine bool_iff ?_
   simp
end Go.Proofs.YtbnhnnccioljhaaGreatDoor
