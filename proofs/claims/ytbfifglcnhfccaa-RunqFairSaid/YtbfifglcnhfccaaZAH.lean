/-
  Layer 16's awake, given what is said of the program's queues.
  Red-black trees, over plain trees: what is put in, taken out, found; the order; red and black. No program.
  Red and black: what is put in and taken out leaves trees red and black, each way down with as many black ones. No program.
  Red and black, behind what is taken out; what may be there at all. No program.
  cmp.Compare, cmp.Or, the order of keys.
  Nodes in memory; red, black, isRed, isBlack, asRoot, reddened.
  balance, where both sides are red.
  The ways of balance (made by gen_rb.py).
  balance.
  leftShort, rightShort: their ways (made by gen_rb.py).
  leftShort, rightShort.
  joinReds, joinBlacks: their ways (made by gen_rb2.py).
  join's long ways (made by gen_rb2.py).
  with (made by gen_rb3.py).
-/
import Derived.Test.YtbfifglcnhfccaaZAG
import Derived.WalkKit
import Derived.Test.YtbfifglcnhfccaaChecked
import Derived.Test.YtbfifglcnhfccaaZAB
import Derived.Lib.Hide
import Derived.Deep.QuietTactic
import Derived.BigQuiet
import Derived.StillTailTactics
import Derived.Deep.RegionHeld3
import Derived.Test.YtbfifglcnhfccaaZAl
set_option maxRecDepth 100000
set_option maxHeartbeats 25600000
namespace Go.Proofs.Ytbfifglcnhfccaa
open Go.RowKit
def qA:Rq:=((Rq.new 1).add 1 0 2).add 2 0 1
def cntA:Nat→Nat
 |0=>0
 |k+1=>cntA k+if (goesQ qA k).who=1 then 1 else 0
theorem goes_ok {q:Rq} {c:Int} (h:QOk q c):∀n:Nat,QOk (goesQ q n) (c+n)
 |0=>h.later (by omega)
 |n+1=>by
  have:=(goes_ok h n).go
  have e:c+((n+1:Nat):Int)=c+n+1:=by omega
  rw [e]
  exact this
theorem word0:Word 0:=⟨by omega,by omega⟩
theorem qA_ok:QOk qA 8:=((QOk.new 1).add 1 word0 2).add 2 word0 1
theorem cntA_le:∀k,cntA k≤k
 |0=>Nat.le_refl _
 |k+1=>by
  have:=cntA_le k
  unfold cntA
  split<;>omega
theorem awake16 (S:RqSaid) (w:World):Calls Try.prog 8 #[] w fun e w'=>e= .returned (.bool true)∧Turned [] w w':=by
 have e1:cntA 6=4:=by decide+kernel
 have e2:remV (goesQ qA 6) 1=2199023255552:=by decide+kernel
 have e3:(findQ (goesQ qA 6).l 1).isSome=true:=by decide+kernel
 have e4:(goesQ qA 6).f=2199023255552:=by decide+kernel
 have e5:sumR ((goesQ qA 6).l.map (·.2.2))=3:=by decide+kernel
 have e6:(goesQ qA 6).l.length=2:=by decide+kernel
 have HN:=xhd (S.new 1 w (by unfold isI;omega))
 have HA1:=xhd (fun V b X (h:S.At V b X (Rq.new 1))=>S.add 1 0 2 h (QOk.new 1) (by omega) (by unfold isI;omega) (by unfold isI;omega) word0)
 have HA2:=xhd (fun V b X (h:S.At V b X ((Rq.new 1).add 1 0 2))=>S.add 2 0 1 h ((QOk.new 1).add 1 word0 2) (by omega) (by unfold isI;omega) (by unfold isI;omega) word0)
 have HGO:=xhd (fun V b X k (hk:k≤6) (h:S.At V b X (goesQ qA k))=>goon_any S h (goes_ok qA_ok k) (by omega))
 have HQ:=goes_ok qA_ok 6
 have HV:=xhd (fun V b X (h:S.At V b X (goesQ qA 6))=>S.vv 1 h HQ (by omega) (by unfold isI;omega))
 have HF:=xhd (fun V b X (h:S.At V b X (goesQ qA 6))=>S.floor h HQ (by omega))
 have HL:=xhd (fun V b X (h:S.At V b X (goesQ qA 6))=>S.load h HQ (by omega))
 have HE:=xhd (fun V b X (h:S.At V b X (goesQ qA 6))=>S.len h HQ (by omega))
 rw [e2,e3] at HV
 rw [e4] at HF
 rw [e5] at HL
 rw [e6] at HE
 have E1:=xhd e1
 clear e1 e2 e3 e4 e5 e6 HQ
 go_enter Try.func8,Try.ntmps8
 go_wp2_with fail
 with_reducible refine HN.out.mono ?_
 rintro e w1 ⟨b,X1,rfl,a1,t1,n1⟩
 have HAT1:=xhd a1
 have HT1:=xhd t1
 have HN1:=xhd n1
 clear a1 t1 n1
 go_wp2_with fail
 with_reducible refine (HA1.out _ _ _ HAT1.out).mono ?_
 rintro e w2 ⟨rfl,X2,a2,t2,n2⟩
 have HAT2:=xhd a2
 have HT2:Hid (Turned [] w w2):=xhd (HT1.out.trans t2 (fun k hk=> .inr (HN1.out k hk)))
 have HN2:Hid (∀k ∈ X2,w.heap.size≤k):=xhd fun k hk=>by
  rcases n2 k hk with h|h
  ·exact HN1.out k h
  ·have:=HT1.out.size;omega
 clear a2 t2 n2
 go_wp2_with fail
 with_reducible refine (HA2.out _ _ _ HAT2.out).mono ?_
 rintro e w3 ⟨rfl,X3,a3,t3,n3⟩
 have HAT3:Hid (S.At w3 b X3 (goesQ qA 0)):=xhd a3
 have HT3:Hid (Turned [] w w3):=xhd (HT2.out.trans t3 (fun k hk=> .inr (HN2.out k hk)))
 have HN3:Hid (∀k ∈ X3,w.heap.size≤k):=xhd fun k hk=>by
  rcases n3 k hk with h|h
  ·exact HN2.out k h
  ·have:=HT2.out.size;omega
 clear a3 t3 n3 HAT1 HAT2 HT1 HT2 HN1 HN2 HA1 HA2 HN
 go_wp2_with fail
 go_loopw [2,10] (fun n i wr=>∃(k:Nat) (X:List Nat),k≤6∧i= .int .i64 k∧n= .int .i64 (cntA k)∧Hid (S.At wr b X (goesQ qA k))∧Hid (Turned [] w wr)∧Hid (∀j ∈ X,w.heap.size≤j)) (fun _ i _=>6 - (intOf i).toNat)
 case atStart=>exact⟨0,X3,by omega,rfl,rfl,HAT3,HT3,HN3⟩
 case round=>
  clear HAT3 HT3 HN3
  obtain⟨k,X,hk,rfl,rfl,HAT,HT,HNW⟩:=hrel
  by_cases hlt:k < 6
  ·have hltz:(k:Int) < 6:=by omega
   have hcl:=cntA_le k
   have hst:cntA (k+1)=cntA k+if (goesQ qA k).who=1 then 1 else 0:=rfl
   have HST:=xhd hst
   clear hst
   have HGK:=xhd (HGO.out wr b X k hk HAT.out)
   obtain⟨z,hz⟩:∃z,(goesQ qA k).who=z:=⟨_,rfl⟩
   rw [hz] at HST HGK
   have HG1:Hid ((goesQ qA k).go=goesQ qA (k+1)):=xhd rfl
   clear hz
   generalize cntA k=m at HST hcl ⊢
   by_cases h1:z=1
   ·subst h1
    go_wp2_with fail
    with_reducible refine HGK.out.mono ?_
    rintro e w4 ⟨rfl,X4,a4,t4,n4⟩
    have HAT4:Hid (S.At w4 b X4 (goesQ qA (k+1))):=xhd (HG1.out ▸ a4)
    have HT4:Hid (Turned [] w w4):=xhd (HT.out.trans t4 (fun k hk=> .inr (HNW.out k hk)))
    have HN4:Hid (∀k ∈ X4,w.heap.size≤k):=xhd fun k hk=>by
     rcases n4 k hk with h|h
     ·exact HNW.out k h
     ·have:=HT.out.size;omega
    clear a4 t4 n4
    go_wp2
    go_roundw
    case rel=>exact⟨k+1,X4,by omega,by go_num,by rw [HST.out];simp,HAT4,HT4,HN4⟩
    case measure=>simp [intOf];omega
   ·have hb:(z == 1)=false:=by simpa using h1
    go_wp2_with fail
    with_reducible refine HGK.out.mono ?_
    rintro e w4 ⟨rfl,X4,a4,t4,n4⟩
    have HAT4:Hid (S.At w4 b X4 (goesQ qA (k+1))):=xhd (HG1.out ▸ a4)
    have HT4:Hid (Turned [] w w4):=xhd (HT.out.trans t4 (fun k hk=> .inr (HNW.out k hk)))
    have HN4:Hid (∀k ∈ X4,w.heap.size≤k):=xhd fun k hk=>by
     rcases n4 k hk with h|h
     ·exact HNW.out k h
     ·have:=HT.out.size;omega
    have H1:=xhd h1
    clear a4 t4 n4 h1
    go_wp2
    go_roundw
    case rel=>exact⟨k+1,X4,by omega,by go_num,by rw [HST.out,if_neg H1.out];rfl,HAT4,HT4,HN4⟩
    case measure=>simp [intOf];omega
  ·obtain rfl:k=6:=by omega
   rw [E1.out]
   go_wp2_with fail
   with_reducible refine (HV.out _ _ _ HAT.out).mono ?_
   rintro e w5 ⟨rfl,t5⟩
   have HAT5:=xhd (S.keep0 HAT.out t5)
   have HT5:=xhd (HT.out.also t5)
   clear t5
   go_wp2_with fail
   with_reducible refine (HF.out _ _ _ HAT5.out).mono ?_
   rintro e w6 ⟨rfl,t6⟩
   have HAT6:=xhd (S.keep0 HAT5.out t6)
   have HT6:=xhd (HT5.out.also t6)
   clear t6
   go_wp2_with fail
   with_reducible refine (HL.out _ _ _ HAT6.out).mono ?_
   rintro e w7 ⟨rfl,t7⟩
   have HAT7:=xhd (S.keep0 HAT6.out t7)
   have HT7:=xhd (HT6.out.also t7)
   clear t7
   go_wp2_with fail
   with_reducible refine (HE.out _ _ _ HAT7.out).mono ?_
   rintro e w8 ⟨rfl,t8⟩
   have HT8:=xhd (HT7.out.also t8)
   clear t8
   go_wp2
   go_ret
   exact⟨rfl,HT8.out⟩
end Go.Proofs.Ytbfifglcnhfccaa
namespace Go.Proofs.Ytbfifglcnhfccaa
def ordI (a b:Int×Int):Int:=if a.1 < b.1 then -1 else if b.1 < a.1 then 1 else if a.2 < b.2 then -1 else if b.2 < a.2 then 1 else 0
theorem ord_cases (a b:Int×Int):(ordI a b= -1∧(a.1 < b.1∨a.1=b.1∧a.2 < b.2))∨(ordI a b=1∧(b.1 < a.1∨a.1=b.1∧b.2 < a.2))∨(ordI a b=0∧a=b):=by
 obtain⟨a1,a2⟩:=a
 obtain⟨b1,b2⟩:=b
 simp only [ordI,Prod.mk.injEq]
 split
 ·omega
 ·split
  ·omega
  ·split
   ·omega
   ·split<;>omega
theorem ord_zero {a b:Int×Int} :ordI a b=0↔a=b:=by
 have h:=ord_cases a b
 constructor
 ·intro e
  rcases h with h|h|h
  ·omega
  ·omega
  ·exact h.2
 ·rintro rfl
  rcases h with h|h|h
  ·omega
  ·omega
  ·exact h.1
theorem ord_neg {a b:Int×Int} :ordI a b < 0↔(a.1 < b.1∨a.1=b.1∧a.2 < b.2):=by
 have h:=ord_cases a b
 constructor
 ·intro e
  rcases h with h|h|h
  ·exact h.2
  ·omega
  ·omega
 ·intro e
  rcases h with h|h|h
  ·omega
  ·omega
  ·obtain⟨_,rfl⟩:=h;omega
theorem ord_flip (a b:Int×Int):ordI b a= - ordI a b:=by
 have h:=ord_cases a b
 have g:=ord_cases b a
 rcases h with h|h|h<;>rcases g with g|g|g<;>first|omega|(obtain⟨_,rfl⟩:=h;omega) |(obtain⟨_,rfl⟩:=g;omega)
theorem ord_trans {a b c:Int×Int} (h:ordI a b < 0) (g:ordI b c < 0):ordI a c < 0:=by
 rw [ord_neg] at*
 omega
abbrev Itm (β:Type):=Int×Int×β
abbrev ky {β:Type} (x:Itm β):Int×Int:=(x.1,x.2.1)
inductive Tr (β:Type) where
 |nil:Tr β
 |node (red:Bool) (l:Tr β) (x:Itm β) (r:Tr β):Tr β
section
variable {β:Type}
namespace Tr
def list:Tr β→List (Itm β)
 |nil=>[]
 |node _ l x r=>l.list++x::r.list
def size:Tr β→Nat
 |nil=>0
 |node _ l _ r=>l.size+r.size+1
def isR:Tr β→Bool
 |node true _ _ _=>true
 |_=>false
def isB:Tr β→Bool
 |node false _ _ _=>true
 |_=>false
def root:Tr β→Tr β
 |node true l x r=>node false l x r
 |t=>t
def redd:Tr β→Tr β
 |node _ l x r=>node true l x r
 |nil=>nil
def bal:Tr β→Itm β→Tr β→Tr β
 |node true a x b,y,node true c z d=>node true (node false a x b) y (node false c z d)
 |node true (node true a x b) y c,z,d=>node true (node false a x b) y (node false c z d)
 |node true a x (node true b y c),z,d=>node true (node false a x b) y (node false c z d)
 |a,x,node true b y (node true c z d)=>node true (node false a x b) y (node false c z d)
 |a,x,node true (node true b y c) z d=>node true (node false a x b) y (node false c z d)
 |a,x,b=>node false a x b
def ins (it:Itm β):Tr β→Tr β
 |nil=>node true nil it nil
 |node c l x r=>
  if ordI (ky it) (ky x) < 0 then (if c then node true (ins it l) x r else bal (ins it l) x r)
  else (if c then node true l x (ins it r) else bal l x (ins it r))
def lsh:Tr β→Itm β→Tr β→Tr β
 |node true a x b,y,c=>node true (node false a x b) y c
 |a,x,node false b y c=>bal a x (node true b y c)
 |a,x,node true (node _ b y c) z d=>node true (node false a x b) y (bal c z (redd d))
 |a,x,b=>node false a x b
def rsh:Tr β→Itm β→Tr β→Tr β
 |a,x,node true b y c=>node true a x (node false b y c)
 |node false a x b,y,c=>bal (node true a x b) y c
 |node true a x (node _ b y c),z,d=>node true (bal (redd a) x b) y (node false c z d)
 |a,x,b=>node false a x b
def jred (ll:Tr β) (lx:Itm β):Tr β→Itm β→Tr β→Tr β
 |node true a m b,rx,rr=>node true (node true ll lx a) m (node true b rx rr)
 |t,rx,rr=>node true ll lx (node true t rx rr)
def jblk (ll:Tr β) (lx:Itm β):Tr β→Itm β→Tr β→Tr β
 |node true a m b,rx,rr=>node true (node false ll lx a) m (node false b rx rr)
 |t,rx,rr=>lsh ll lx (node false t rx rr)
def join:Tr β→Tr β→Tr β
 |nil,r=>r
 |l,nil=>l
 |node true ll lx lr,node true rl rx rr=>jred ll lx (join lr rl) rx rr
 |node false ll lx lr,node false rl rx rr=>jblk ll lx (join lr rl) rx rr
 |node false ll lx lr,node true rl rx rr=>node true (join (node false ll lx lr) rl) rx rr
 |node true ll lx lr,node false rl rx rr=>node true ll lx (join lr (node false rl rx rr))
termination_by l r=>l.size+r.size
decreasing_by all_goals simp only [size];omega
def del (k:Int×Int):Tr β→Tr β
 |nil=>nil
 |node _ l x r=>
  if ordI k (ky x) < 0 then (if l.isR then node true (del k l) x r else lsh (del k l) x r)
  else if 0 < ordI k (ky x) then (if r.isR then node true l x (del k r) else rsh l x (del k r))
  else join l r
theorem list_root (t:Tr β):t.root.list=t.list:=by
 unfold root
 split<;>rfl
theorem list_redd (t:Tr β):t.redd.list=t.list:=by
 unfold redd
 split<;>rfl
theorem list_bal (l:Tr β) (x:Itm β) (r:Tr β):(bal l x r).list=l.list++x::r.list:=by
 unfold bal
 split<;>simp [list]
theorem list_lsh (l:Tr β) (x:Itm β) (r:Tr β):(lsh l x r).list=l.list++x::r.list:=by
 unfold lsh
 split<;>simp [list,list_bal,list_redd]
theorem list_rsh (l:Tr β) (x:Itm β) (r:Tr β):(rsh l x r).list=l.list++x::r.list:=by
 unfold rsh
 split<;>simp [list,list_bal,list_redd]
theorem list_jred (ll:Tr β) (lx:Itm β) (m:Tr β) (rx:Itm β) (rr:Tr β):(jred ll lx m rx rr).list=ll.list++lx::(m.list++rx::rr.list):=by
 unfold jred
 split<;>simp [list]
theorem list_jblk (ll:Tr β) (lx:Itm β) (m:Tr β) (rx:Itm β) (rr:Tr β):(jblk ll lx m rx rr).list=ll.list++lx::(m.list++rx::rr.list):=by
 unfold jblk
 split<;>simp [list,list_lsh]
theorem list_join (l r:Tr β):(join l r).list=l.list++r.list:=by
 induction l,r using join.induct with
 |case1 r=>simp [join,list]
 |case2 l h=>cases l<;>simp [join,list]
 |case3 ll lx lr rl rx rr ih=>simp [join,list,list_jred,ih]
 |case4 ll lx lr rl rx rr ih=>simp [join,list,list_jblk,ih]
 |case5 ll lx lr rl rx rr ih=>simp [join,list,ih]
 |case6 ll lx lr rl rx rr ih=>simp [join,list,ih]
def Srt (L:List (Itm β)):Prop:=L.Pairwise fun a b=>ordI (ky a) (ky b) < 0
def insL (it:Itm β):List (Itm β)→List (Itm β)
 |[]=>[it]
 |x::L=>if ordI (ky it) (ky x) < 0 then it::x::L else x::insL it L
def delL (k:Int×Int) (L:List (Itm β)):List (Itm β):=L.filter fun x=>decide (ordI k (ky x)≠0)
theorem insL_left (it x:Itm β) (B:List (Itm β)) (h:ordI (ky it) (ky x) < 0):∀A,insL it (A++x::B)=insL it A++x::B
 |[]=>by simp [insL,h]
 |a::A=>by
  simp only [List.cons_append,insL]
  split
  ·rfl
  ·rw [insL_left it x B h A];rfl
theorem insL_right (it x:Itm β) (B:List (Itm β)) (h:¬ordI (ky it) (ky x) < 0):∀A,(∀a ∈ A,ordI (ky a) (ky x) < 0)→insL it (A++x::B)=A++x::insL it B
 |[],_=>by simp [insL,h]
 |a::A,hA=>by
  have ha:¬ordI (ky it) (ky a) < 0:=fun e=>h (ord_trans e (hA a (by simp)))
  simp only [List.cons_append,insL,if_neg ha]
  rw [insL_right it x B h A (fun y hy=>hA y (by simp [hy]))]
theorem list_ins (it:Itm β):∀t:Tr β,Srt t.list→(ins it t).list=insL it t.list
 |nil,_=>by simp [ins,list,insL]
 |node c l x r,hs=>by
  have hs':Srt (l.list++x::r.list):=hs
  obtain⟨h1,h2,h3⟩:=List.pairwise_append.1 hs'
  obtain⟨h4,h5⟩:=List.pairwise_cons.1 h2
  simp only [ins]
  split
  ·rename_i h
   have ih:=list_ins it l h1
   simp only [list]
   rw [insL_left it x r.list h, ←ih]
   split
   ·rfl
   ·rw [list_bal]
  ·rename_i h
   have ih:=list_ins it r h5
   simp only [list]
   rw [insL_right it x r.list h l.list (fun a ha=>h3 a ha x (by simp)), ←ih]
   split
   ·rfl
   ·rw [list_bal]
theorem delL_none {k:Int×Int} {L:List (Itm β)} (h:∀x ∈ L,ordI k (ky x)≠0):delL k L=L:=by
 unfold delL
 rw [List.filter_eq_self]
 intro x hx
 simpa using h x hx
theorem list_del (k:Int×Int):∀t:Tr β,Srt t.list→(del k t).list=delL k t.list
 |nil,_=>by simp [del,list,delL]
 |node c l x r,hs=>by
  have hs':Srt (l.list++x::r.list):=hs
  obtain⟨h1,h2,h3⟩:=List.pairwise_append.1 hs'
  obtain⟨h4,h5⟩:=List.pairwise_cons.1 h2
  have ihl:=list_del k l h1
  have ihr:=list_del k r h5
  have hd:delL k (l.list++x::r.list)=delL k l.list++((if ordI k (ky x)≠0 then [x] else [])++delL k r.list):=by
   unfold delL
   rw [List.filter_append,List.filter_cons]
   split<;>simp_all
  simp only [list,del]
  rw [hd]
  split
  ·rename_i h
   have hr:delL k r.list=r.list:=delL_none fun y hy=>by have:=ord_trans h (h4 y hy);omega
   rw [if_pos (show ordI k (ky x)≠0 by omega),hr, ←ihl]
   split<;>simp [list,list_lsh]
  ·rename_i h
   split
   ·rename_i h'
    have hl:delL k l.list=l.list:=delL_none fun y hy=>by
     have e1:=h3 y hy x (by simp)
     have e2:=ord_flip k (ky x)
     have e3:=ord_trans e1 (show ordI (ky x) k < 0 by omega)
     have e4:=ord_flip k (ky y)
     omega
    rw [if_pos (show ordI k (ky x)≠0 by omega),hl, ←ihr]
    split<;>simp [list,list_rsh]
   ·rename_i h'
    have h0:ordI k (ky x)=0:=by omega
    have e:=ord_zero.1 h0
    have hl:delL k l.list=l.list:=delL_none fun y hy=>by
     have e1:=h3 y hy x (by simp)
     have e4:=ord_flip k (ky y)
     rw [←e] at e1
     omega
    have hr:delL k r.list=r.list:=delL_none fun y hy=>by
     have e1:=h4 y hy
     rw [←e] at e1
     omega
    rw [if_neg (show ¬ordI k (ky x)≠0 by omega),hl,hr,list_join]
    rfl
end Tr
end
end Go.Proofs.Ytbfifglcnhfccaa
namespace Go.Proofs.Ytbfifglcnhfccaa
namespace Tr
section
variable {β:Type}
def bh:Tr β→Nat
 |nil=>0
 |node c l _ _=>l.bh+(if c then 0 else 1)
def HH:Tr β→Prop
 |nil=>True
 |node _ l _ r=>l.HH∧r.HH∧l.bh=r.bh
def CC:Tr β→Prop
 |nil=>True
 |node c l _ r=>l.CC∧r.CC∧(c=true→l.isR=false∧r.isR=false)
def C2:Tr β→Prop
 |nil=>True
 |node _ l _ r=>l.CC∧r.CC
theorem CC.weak {t:Tr β} (h:t.CC):t.C2:=by
 cases t with
 |nil=>trivial
 |node c l x r=>exact⟨h.1,h.2.1⟩
theorem C2.whole {t:Tr β} (h:t.C2) (hr:t.isR=false):t.CC:=by
 cases t with
 |nil=>trivial
 |node c l x r=>
  refine⟨h.1,h.2,fun e=>?_⟩
  subst e
  simp [isR] at hr
theorem C2.root {t:Tr β} (h:t.C2):t.root.CC:=by
 cases t with
 |nil=>trivial
 |node c l x r=>
  cases c
  ·exact⟨h.1,h.2,fun e=>by cases e⟩
  ·exact⟨h.1,h.2,fun e=>by cases e⟩
theorem HH.root {t:Tr β} (h:t.HH):t.root.HH:=by
 cases t with
 |nil=>trivial
 |node c l x r=>cases c<;>exact h
theorem bal_high (l:Tr β) (x:Itm β) (r:Tr β) (hl:l.HH) (hr:r.HH) (h:l.bh=r.bh):(bal l x r).HH∧(bal l x r).bh=l.bh+1:=by
 unfold bal
 split
 all_goals
  simp only [HH,bh] at*
  simp_all
 all_goals omega
theorem bal_left (l:Tr β) (x:Itm β) (r:Tr β) (hl:l.C2) (hr:r.CC):(bal l x r).CC:=by
 unfold bal
 split
 ·simp [CC,C2,isR] at*
  simp [hl,hr]
 ·simp [CC,C2,isR] at*
  simp [hl,hr]
 ·simp [CC,C2,isR] at*
  simp [hl,hr]
 ·simp [CC,C2,isR] at*
 ·simp [CC,C2,isR] at*
 ·rename_i h1 h2 h3 h4 h5
  refine⟨?_,hr,fun e=>by cases e⟩
  cases l with
  |nil=>trivial
  |node c a y b=>
   refine⟨hl.1,hl.2,fun e=>?_⟩
   subst e
   constructor
   ·cases a with
    |nil=>rfl
    |node c a1 z a2=>
     cases c
     ·rfl
     ·exact (h1 _ _ _ _ _ rfl).elim
   ·cases b with
    |nil=>rfl
    |node c b1 z b2=>
     cases c
     ·rfl
     ·exact (h2 _ _ _ _ _ rfl).elim
theorem bal_right (l:Tr β) (x:Itm β) (r:Tr β) (hl:l.CC) (hr:r.C2):(bal l x r).CC:=by
 unfold bal
 split
 ·simp [CC,C2,isR] at*
  simp [hl,hr]
 ·simp [CC,C2,isR] at*
 ·simp [CC,C2,isR] at*
 ·simp [CC,C2,isR] at*
  simp [hl,hr]
 ·simp [CC,C2,isR] at*
  simp [hl,hr]
 ·rename_i h1 h2 h3 h4 h5
  refine⟨hl,?_,fun e=>by cases e⟩
  cases r with
  |nil=>trivial
  |node c a y b=>
   refine⟨hr.1,hr.2,fun e=>?_⟩
   subst e
   constructor
   ·cases a with
    |nil=>rfl
    |node c a1 z a2=>
     cases c
     ·rfl
     ·exact (h4 _ _ _ _ _ rfl).elim
   ·cases b with
    |nil=>rfl
    |node c b1 z b2=>
     cases c
     ·rfl
     ·exact (h3 _ _ _ _ _ rfl).elim
theorem ins_high (it:Itm β):∀t:Tr β,t.HH→(ins it t).HH∧(ins it t).bh=t.bh
 |nil,_=>⟨⟨trivial,trivial,rfl⟩,rfl⟩
 |node c l x r,h=>by
  obtain⟨h1,h2,h3⟩:=h
  have il:=ins_high it l h1
  have ir:=ins_high it r h2
  simp only [ins]
  split
  ·cases c
   ·have:=bal_high (ins it l) x r il.1 h2 (by omega)
    simp only [bh]
    exact⟨this.1,by simp;omega⟩
   ·simp only [if_true,bh]
    exact⟨⟨il.1,h2,by omega⟩,by omega⟩
  ·cases c
   ·have:=bal_high l x (ins it r) h1 ir.1 (by omega)
    simp only [bh]
    exact⟨this.1,by simp;omega⟩
   ·simp only [if_true,bh]
    exact⟨⟨h1,ir.1,by omega⟩,trivial⟩
theorem ins_red (it:Itm β):∀t:Tr β,t.CC→(ins it t).C2∧(t.isR=false→(ins it t).CC)
 |nil,_=>⟨⟨trivial,trivial⟩,fun _=>⟨trivial,trivial,fun _=>⟨rfl,rfl⟩⟩⟩
 |node c l x r,h=>by
  obtain⟨h1,h2,h3⟩:=h
  have il:=ins_red it l h1
  have ir:=ins_red it r h2
  simp only [ins]
  split
  ·cases c
   ·have:=bal_left (ins it l) x r il.1 h2
    exact⟨this.weak,fun _=>this⟩
   ·exact⟨⟨il.2 (h3 rfl).1,h2⟩,fun e=>by simp [isR] at e⟩
  ·cases c
   ·have:=bal_right l x (ins it r) h1 ir.1
    exact⟨this.weak,fun _=>this⟩
   ·exact⟨⟨h1,ir.2 (h3 rfl).2⟩,fun e=>by simp [isR] at e⟩
theorem lsh_high (l:Tr β) (x:Itm β) (r:Tr β) (hl:l.HH) (hr:r.HH) (h:l.bh+1=r.bh) (kl:l.C2) (kr:r.CC):
  (lsh l x r).HH∧(lsh l x r).bh=r.bh∧(lsh l x r).C2∧(r.isR=false→(lsh l x r).CC):=by
 unfold lsh
 split
 ·rename_i a y b
  simp only [HH,bh,C2,CC,isR] at*
  simp at h
  refine⟨⟨⟨hl.1,hl.2.1,hl.2.2⟩,hr,by simp;omega⟩,by simp;omega,⟨⟨kl.1,kl.2,fun e=>by cases e⟩,kr⟩,fun e=>⟨⟨kl.1,kl.2,fun e=>by cases e⟩,kr,by simpa using e⟩⟩
 ·rename_i b y c hn
  have hlr:l.isR=false:=by
   cases l with
   |nil=>rfl
   |node c a y b=>cases c;rfl;exact absurd rfl (hn _ _ _)
  obtain⟨r1,r2,r3⟩:=hr
  obtain⟨k1,k2,_⟩:=kr
  simp [bh] at h
  have g1:=bal_high l x (node true b y c) hl ⟨r1,r2,r3⟩ (by simp [bh];omega)
  have g2:=bal_right l x (node true b y c) (kl.whole hlr) ⟨k1,k2⟩
  exact⟨g1.1,by rw [g1.2];simp [bh];omega,g2.weak,fun _=>g2⟩
 ·rename_i cb b y c z d hn
  have hlr:l.isR=false:=by
   cases l with
   |nil=>rfl
   |node c a y b=>cases c;rfl;exact absurd rfl (hn _ _ _)
  obtain⟨⟨b1,b2,b3⟩,r2,r3⟩:=hr
  obtain⟨⟨p1,p2,p3⟩,k2,k3⟩:=kr
  obtain⟨q1,q2⟩:=k3 rfl
  have hcb:cb=false:=by cases cb;rfl;simp [isR] at q1
  subst hcb
  simp [bh] at h r3
  cases d with
  |nil=>simp [bh] at r3
  |node cd d1 w d2=>
   have hcd:cd=false:=by cases cd;rfl;simp [isR] at q2
   subst hcd
   obtain⟨d3,d4,d5⟩:=r2
   obtain⟨e1,e2,_⟩:=k2
   simp [bh] at r3
   have g1:=bal_high c z (node true d1 w d2) b2 ⟨d3,d4,d5⟩ (by simp [bh];omega)
   have g2:=bal_right c z (node true d1 w d2) p2 ⟨e1,e2⟩
   simp only [redd]
   refine⟨⟨⟨hl,b1,by omega⟩,g1.1,by rw [g1.2];simp [bh];omega⟩,by simp [bh];omega,⟨⟨kl.whole hlr,p1,fun e=>by cases e⟩,g2⟩,fun e=>by simp [isR] at e⟩
 ·rename_i h1 h2 h3
  exfalso
  cases r with
  |nil=>simp [bh] at h
  |node c b y d=>
   cases c
   ·first|exact (h1 _ _ _ rfl).elim|exact (h2 _ _ _ rfl).elim|exact (h3 _ _ _ rfl).elim|exact (h1 _ _ _ _ _ _ rfl).elim|exact (h2 _ _ _ _ _ _ rfl).elim|exact (h3 _ _ _ _ _ _ rfl).elim
   ·cases b with
    |nil=>simp [bh] at h
    |node cb b1 z b2=>first|exact (h1 _ _ _ rfl).elim|exact (h2 _ _ _ rfl).elim|exact (h3 _ _ _ rfl).elim|exact (h1 _ _ _ _ _ _ rfl).elim|exact (h2 _ _ _ _ _ _ rfl).elim|exact (h3 _ _ _ _ _ _ rfl).elim
theorem rsh_high (l:Tr β) (x:Itm β) (r:Tr β) (hl:l.HH) (hr:r.HH) (h:r.bh+1=l.bh) (kl:l.CC) (kr:r.C2):
  (rsh l x r).HH∧(rsh l x r).bh=l.bh∧(rsh l x r).C2∧(l.isR=false→(rsh l x r).CC):=by
 unfold rsh
 split
 ·rename_i a y b
  simp only [HH,bh,C2,CC,isR] at*
  simp at h
  refine⟨⟨hl,⟨hr.1,hr.2.1,hr.2.2⟩,by simp;omega⟩,by simp,⟨kl,⟨kr.1,kr.2,fun e=>by cases e⟩⟩,fun e=>⟨kl,⟨kr.1,kr.2,fun e=>by cases e⟩,by simpa using e⟩⟩
 ·rename_i a y b hn
  have hrr:r.isR=false:=by
   cases r with
   |nil=>rfl
   |node c a y b=>cases c;rfl;exact absurd rfl (hn _ _ _)
  obtain⟨r1,r2,r3⟩:=hl
  obtain⟨k1,k2,_⟩:=kl
  simp [bh] at h
  have g1:=bal_high (node true a y b) x r ⟨r1,r2,r3⟩ hr (by simp [bh];omega)
  have g2:=bal_left (node true a y b) x r ⟨k1,k2⟩ (kr.whole hrr)
  exact⟨g1.1,by rw [g1.2];simp [bh],g2.weak,fun _=>g2⟩
 ·rename_i a y cb b z c hn
  have hrr:r.isR=false:=by
   cases r with
   |nil=>rfl
   |node c a y b=>cases c;rfl;exact absurd rfl (hn _ _ _)
  obtain⟨r2,⟨b1,b2,b3⟩,r3⟩:=hl
  obtain⟨k2,⟨p1,p2,p3⟩,k3⟩:=kl
  obtain⟨q2,q1⟩:=k3 rfl
  have hcb:cb=false:=by cases cb;rfl;simp [isR] at q1
  subst hcb
  simp [bh] at h r3
  cases a with
  |nil=>simp [bh] at r3
  |node cd d1 w d2=>
   have hcd:cd=false:=by cases cd;rfl;simp [isR] at q2
   subst hcd
   obtain⟨d3,d4,d5⟩:=r2
   obtain⟨e1,e2,_⟩:=k2
   simp [bh] at r3 h
   have g1:=bal_high (node true d1 w d2) y b ⟨d3,d4,d5⟩ b1 (by simp [bh];omega)
   have g2:=bal_left (node true d1 w d2) y b ⟨e1,e2⟩ p1
   simp only [redd]
   refine⟨⟨g1.1,⟨b2,hr,by omega⟩,by rw [g1.2];simp [bh];omega⟩,by simp only [bh];rw [g1.2];simp [bh],⟨g2,⟨p2,kr.whole hrr,fun e=>by cases e⟩⟩,fun e=>by simp [isR] at e⟩
 ·rename_i h1 h2 h3
  exfalso
  cases l with
  |nil=>simp [bh] at h
  |node c d y b=>
   cases c
   ·first|exact (h1 _ _ _ rfl).elim|exact (h2 _ _ _ rfl).elim|exact (h3 _ _ _ rfl).elim|exact (h1 _ _ _ _ _ _ rfl).elim|exact (h2 _ _ _ _ _ _ rfl).elim|exact (h3 _ _ _ _ _ _ rfl).elim
   ·cases b with
    |nil=>obtain⟨_,_,r3⟩:=hl;simp [bh] at h r3;omega
    |node cb b1 z b2=>first|exact (h1 _ _ _ rfl).elim|exact (h2 _ _ _ rfl).elim|exact (h3 _ _ _ rfl).elim|exact (h1 _ _ _ _ _ _ rfl).elim|exact (h2 _ _ _ _ _ _ rfl).elim|exact (h3 _ _ _ _ _ _ rfl).elim
end
end Tr
end Go.Proofs.Ytbfifglcnhfccaa
namespace Go.Proofs.Ytbfifglcnhfccaa
namespace Tr
section
variable {β:Type}
theorem jred_high (ll:Tr β) (lx:Itm β) (m:Tr β) (rx:Itm β) (rr:Tr β) (hl:ll.HH) (hm:m.HH) (hr:rr.HH) (h1:ll.bh=m.bh) (h2:rr.bh=m.bh) (kl:ll.CC) (km:m.CC) (kr:rr.CC) (rl:ll.isR=false) (rr':rr.isR=false):
  (jred ll lx m rx rr).HH∧(jred ll lx m rx rr).bh=ll.bh∧(jred ll lx m rx rr).C2:=by
 unfold jred
 split
 ·rename_i a y b
  obtain⟨m1,m2,m3⟩:=hm
  obtain⟨n1,n2,n3⟩:=km
  obtain⟨q1,q2⟩:=n3 rfl
  simp [bh] at h1 h2
  exact⟨⟨⟨hl,m1,by omega⟩,⟨m2,hr,by omega⟩,by simp [bh];omega⟩,by simp [bh],⟨⟨kl,n1,fun _=>⟨rl,q1⟩⟩,⟨n2,kr,fun _=>⟨q2,rr'⟩⟩⟩⟩
 ·rename_i hn
  have hmr:m.isR=false:=by
   cases m with
   |nil=>rfl
   |node c a y b=>cases c;rfl;exact (hn _ _ _ rfl).elim
  exact⟨⟨hl,⟨hm,hr,by omega⟩,by simp [bh];omega⟩,by simp [bh],⟨kl,⟨km,kr,fun _=>⟨hmr,rr'⟩⟩⟩⟩
theorem jblk_high (ll:Tr β) (lx:Itm β) (m:Tr β) (rx:Itm β) (rr:Tr β) (hl:ll.HH) (hm:m.HH) (hr:rr.HH) (h1:ll.bh=m.bh) (h2:rr.bh=m.bh) (kl:ll.CC) (km:m.C2) (kr:rr.CC):
  (jblk ll lx m rx rr).HH∧(jblk ll lx m rx rr).bh=ll.bh+1∧(jblk ll lx m rx rr).CC:=by
 unfold jblk
 split
 ·rename_i a y b
  obtain⟨m1,m2,m3⟩:=hm
  obtain⟨n1,n2⟩:=km
  simp [bh] at h1 h2
  exact⟨⟨⟨hl,m1,by omega⟩,⟨m2,hr,by omega⟩,by simp [bh];omega⟩,by simp [bh],⟨⟨kl,n1,fun e=>by cases e⟩,⟨n2,kr,fun e=>by cases e⟩,fun _=>⟨rfl,rfl⟩⟩⟩
 ·rename_i hn
  have hmr:m.isR=false:=by
   cases m with
   |nil=>rfl
   |node c a y b=>cases c;rfl;exact (hn _ _ _ rfl).elim
  have g:=lsh_high ll lx (node false m rx rr) hl ⟨hm,hr,by omega⟩ (by simp [bh];omega) kl.weak ⟨km.whole hmr,kr,fun e=>by cases e⟩
  exact⟨g.1,by rw [g.2.1];simp [bh];omega,g.2.2.2 rfl⟩
theorem join_high (l r:Tr β):l.HH→r.HH→l.bh=r.bh→l.CC→r.CC→(join l r).HH∧(join l r).bh=l.bh∧(join l r).C2∧(l.isR=false→r.isR=false→(join l r).CC):=by
 induction l,r using join.induct with
 |case1 r=>
  intro h1 h2 h3 h4 h5
  simp only [join]
  exact⟨h2,h3.symm,h5.weak,fun _ _=>h5⟩
 |case2 l h=>
  intro h1 h2 h3 h4 h5
  have e:join l nil=l:=by cases l<;>simp [join]
  rw [e]
  exact⟨h1,rfl,h4.weak,fun _ _=>h4⟩
 |case3 ll lx lr rl rx rr ih=>
  intro h1 h2 h3 h4 h5
  obtain⟨a1,a2,a3⟩:=h1
  obtain⟨b1,b2,b3⟩:=h2
  obtain⟨c1,c2,c3⟩:=h4
  obtain⟨d1,d2,d3⟩:=h5
  simp [bh] at h3
  obtain⟨i1,i2,i3,i4⟩:=ih a2 b1 (by omega) c2 d1
  have g:=jred_high ll lx (join lr rl) rx rr a1 i1 b2 (by omega) (by omega) c1 (i4 (c3 rfl).2 (d3 rfl).1) d2 (c3 rfl).1 (d3 rfl).2
  simp only [join]
  exact⟨g.1,by rw [g.2.1];simp [bh],g.2.2,fun e=>by simp [isR] at e⟩
 |case4 ll lx lr rl rx rr ih=>
  intro h1 h2 h3 h4 h5
  obtain⟨a1,a2,a3⟩:=h1
  obtain⟨b1,b2,b3⟩:=h2
  obtain⟨c1,c2,c3⟩:=h4
  obtain⟨d1,d2,d3⟩:=h5
  simp [bh] at h3
  obtain⟨i1,i2,i3,i4⟩:=ih a2 b1 (by omega) c2 d1
  have g:=jblk_high ll lx (join lr rl) rx rr a1 i1 b2 (by omega) (by omega) c1 i3 d2
  simp only [join]
  exact⟨g.1,by rw [g.2.1];simp [bh],g.2.2.weak,fun _ _=>g.2.2⟩
 |case5 ll lx lr rl rx rr ih=>
  intro h1 h2 h3 h4 h5
  obtain⟨b1,b2,b3⟩:=h2
  obtain⟨d1,d2,d3⟩:=h5
  simp [bh] at h3
  obtain⟨i1,i2,i3,i4⟩:=ih h1 b1 (by simp [bh];omega) h4 d1
  simp [bh] at i2
  simp only [join]
  exact⟨⟨i1,b2,by omega⟩,by simp [bh];omega,⟨i4 rfl (d3 rfl).1,d2⟩,fun _ e=>by simp [isR] at e⟩
 |case6 ll lx lr rl rx rr ih=>
  intro h1 h2 h3 h4 h5
  obtain⟨a1,a2,a3⟩:=h1
  obtain⟨c1,c2,c3⟩:=h4
  simp [bh] at h3
  obtain⟨i1,i2,i3,i4⟩:=ih a2 h2 (by simp [bh];omega) c2 h5
  simp only [join]
  exact⟨⟨a1,i1,by omega⟩,by simp [bh],⟨c1,i4 (c3 rfl).2 rfl⟩,fun e=>by simp [isR] at e⟩
def has (k:Int×Int) (t:Tr β):Prop:=∃x ∈ t.list,ky x=k
theorem has_left {k:Int×Int} {c:Bool} {l r:Tr β} {x:Itm β} (hs:Srt (node c l x r).list) (h:has k (node c l x r)) (hk:ordI k (ky x) < 0):has k l:=by
 obtain⟨y,hy,rfl⟩:=h
 have hs':Srt (l.list++x::r.list):=hs
 obtain⟨h1,h2,h3⟩:=List.pairwise_append.1 hs'
 obtain⟨h4,h5⟩:=List.pairwise_cons.1 h2
 simp only [list,List.mem_append,List.mem_cons] at hy
 rcases hy with hy|rfl|hy
 ·exact⟨y,hy,rfl⟩
 ·have:=(ord_zero (a:=ky y) (b:=ky y)).2 rfl
  omega
 ·have e1:=h4 y hy
  have e2:=ord_flip (ky x) (ky y)
  omega
theorem has_right {k:Int×Int} {c:Bool} {l r:Tr β} {x:Itm β} (hs:Srt (node c l x r).list) (h:has k (node c l x r)) (hk:0 < ordI k (ky x)):has k r:=by
 obtain⟨y,hy,rfl⟩:=h
 have hs':Srt (l.list++x::r.list):=hs
 obtain⟨h1,h2,h3⟩:=List.pairwise_append.1 hs'
 simp only [list,List.mem_append,List.mem_cons] at hy
 rcases hy with hy|rfl|hy
 ·have:=h3 y hy x (by simp)
  omega
 ·have:=(ord_zero (a:=ky y) (b:=ky y)).2 rfl
  omega
 ·exact⟨y,hy,rfl⟩
theorem srt_left {c:Bool} {l r:Tr β} {x:Itm β} (hs:Srt (node c l x r).list):Srt l.list:=(List.pairwise_append.1 (show Srt (l.list++x::r.list) from hs)).1
theorem srt_right {c:Bool} {l r:Tr β} {x:Itm β} (hs:Srt (node c l x r).list):Srt r.list:=(List.pairwise_cons.1 (List.pairwise_append.1 (show Srt (l.list++x::r.list) from hs)).2.1).2
theorem has_nil {k:Int×Int} (h:has k (nil:Tr β)):False:=by
 obtain⟨y,hy,_⟩:=h
 simp [list] at hy
theorem del_high (k:Int×Int):∀t:Tr β,t.HH→t.CC→Srt t.list→has k t→
  (del k t).HH∧(t.isR=false→(del k t).bh+1=t.bh∧(del k t).C2)∧(t.isR=true→(del k t).bh=t.bh∧(del k t).CC)
 |nil,_,_,_,h=>(has_nil h).elim
 |node c l x r,hh,hc,hs,hk=>by
  obtain⟨a1,a2,a3⟩:=hh
  obtain⟨c1,c2,c3⟩:=hc
  simp only [del]
  split
  ·rename_i h
   obtain⟨i1,i2,i3⟩:=del_high k l a1 c1 (srt_left hs) (has_left hs hk h)
   by_cases hr:l.isR=true
   ·rw [if_pos hr]
    obtain⟨j1,j2⟩:=i3 hr
    have hcf:c=false:=by cases c;rfl;exact absurd hr (by simp [(c3 rfl).1])
    subst hcf
    exact⟨⟨i1,a2,by omega⟩,fun _=>⟨by simp [bh];omega,⟨j2,c2⟩⟩,fun e=>by simp [isR] at e⟩
   ·rw [if_neg hr]
    obtain⟨j1,j2⟩:=i2 (by simpa using hr)
    obtain⟨g1,g2,g3,g4⟩:=lsh_high (del k l) x r i1 a2 (by omega) j2 c2
    refine⟨g1,fun e=>?_,fun e=>?_⟩
    ·have hcf:c=false:=by cases c;rfl;simp [isR] at e
     subst hcf
     exact⟨by simp [bh];omega,g3⟩
    ·have hct:c=true:=by cases c;simp [isR] at e;rfl
     subst hct
     exact⟨by simp [bh];omega,g4 (c3 rfl).2⟩
  ·rename_i h
   split
   ·rename_i h'
    obtain⟨i1,i2,i3⟩:=del_high k r a2 c2 (srt_right hs) (has_right hs hk h')
    by_cases hr:r.isR=true
    ·rw [if_pos hr]
     obtain⟨j1,j2⟩:=i3 hr
     have hcf:c=false:=by cases c;rfl;exact absurd hr (by simp [(c3 rfl).2])
     subst hcf
     exact⟨⟨a1,i1,by omega⟩,fun _=>⟨by simp [bh],⟨c1,j2⟩⟩,fun e=>by simp [isR] at e⟩
    ·rw [if_neg hr]
     obtain⟨j1,j2⟩:=i2 (by simpa using hr)
     obtain⟨g1,g2,g3,g4⟩:=rsh_high l x (del k r) a1 i1 (by omega) c1 j2
     refine⟨g1,fun e=>?_,fun e=>?_⟩
     ·have hcf:c=false:=by cases c;rfl;simp [isR] at e
      subst hcf
      exact⟨by simp [bh];omega,g3⟩
     ·have hct:c=true:=by cases c;simp [isR] at e;rfl
      subst hct
      exact⟨by simp [bh];omega,g4 (c3 rfl).1⟩
   ·obtain⟨g1,g2,g3,g4⟩:=join_high l r a1 a2 a3 c1 c2
    refine⟨g1,fun e=>?_,fun e=>?_⟩
    ·have hcf:c=false:=by cases c;rfl;simp [isR] at e
     subst hcf
     exact⟨by simp [bh];omega,g3⟩
    ·have hct:c=true:=by cases c;simp [isR] at e;rfl
     subst hct
     exact⟨by simp [bh];omega,g4 (c3 rfl).1 (c3 rfl).2⟩
structure Good (t:Tr β):Prop where
 hh:t.HH
 cc:t.CC
 so:Srt t.list
theorem Good.nil:Good (nil:Tr β):=⟨trivial,trivial,List.Pairwise.nil⟩
theorem srt_insL {it:Itm β} :∀ {L:List (Itm β)},Srt L→(∀x ∈ L,ordI (ky it) (ky x)≠0)→Srt (insL it L)
 |[],_,_=>List.pairwise_singleton _ _
 |x::L,hs,hn=>by
  obtain⟨h1,h2⟩:=List.pairwise_cons.1 hs
  simp only [insL]
  split
  ·rename_i h
   exact List.pairwise_cons.2 ⟨fun y hy=>by
    rcases List.mem_cons.1 hy with rfl|hy
    ·exact h
    ·exact ord_trans h (h1 y hy),hs⟩
  ·rename_i h
   refine List.pairwise_cons.2 ⟨fun y hy=>?_,srt_insL h2 (fun z hz=>hn z (by simp [hz]))⟩
   have mem:∀M:List (Itm β),y ∈ insL it M→y=it∨y ∈ M:=by
    intro M
    induction M with
    |nil=>intro h;simpa [insL] using h
    |cons z M ih=>
     intro h
     simp only [insL] at h
     split at h
     ·simpa using h
     ·rcases List.mem_cons.1 h with rfl|h
      ·exact .inr (by simp)
      ·rcases ih h with h|h
       ·exact .inl h
       ·exact .inr (by simp [h])
   rcases mem L hy with rfl|hy
   ·have h0:=hn x (by simp)
    have e:=ord_flip (ky y) (ky x)
    show ordI (ky x) (ky y) < 0
    omega
   ·exact h1 y hy
theorem Good.ins {t:Tr β} (h:Good t) (it:Itm β) (hn:∀x ∈ t.list,ordI (ky it) (ky x)≠0):Good (ins it t).root∧(ins it t).root.list=insL it t.list:=by
 have hl:=list_ins it t h.so
 refine⟨⟨(ins_high it t h.hh).1.root,(ins_red it t h.cc).1.root,?_⟩,by rw [list_root,hl]⟩
 rw [list_root,hl]
 exact srt_insL h.so hn
theorem Good.del {t:Tr β} (h:Good t) (k:Int×Int) (hk:has k t):Good (del k t).root∧(del k t).root.list=delL k t.list:=by
 have hl:=list_del k t h.so
 obtain⟨g1,g2,g3⟩:=del_high k t h.hh h.cc h.so hk
 have hc:(Tr.del k t).C2:=by
  by_cases e:t.isR=true
  ·exact (g3 e).2.weak
  ·exact (g2 (by simpa using e)).2
 refine⟨⟨g1.root,hc.root,?_⟩,by rw [list_root,hl]⟩
 rw [list_root,hl]
 exact h.so.filter _
end
end Tr
end Go.Proofs.Ytbfifglcnhfccaa
namespace Go.Proofs.Ytbfifglcnhfccaa
open Go.RowKit
theorem wp_still_tail_at {P:Program} {id:Nat} {Q:Exit→Act→World→Prop} {a:Act} {w D:World} {l:List Oper} (n:Nat) (hD:w.drew=D) (hm:P.follows .mixedOrders=true) (hB:Region.lexTailB .any l.toArray n=true)
  (h:wpStill P l.toArray D (fun a'=>wpList P l.toArray Q (l.drop n) a' D) (l.take n) a):(Code.region id l.toArray true).wp P Q a w:=by
 subst hD
 exact wp_region_still_tail n hm hB h
theorem isNaNU (x:Int) (w:World):Calls Try.prog 101 #[.int .u64 x] w fun e w'=>e= .returned (.bool false)∧w=w':=by
 have h:(x != x)=false:=by simp
 go_enter Try.func101,Try.ntmps101
 go_wp2
 go_ret
 exact⟨rfl,rfl⟩
theorem isNaNI (x:Int) (w:World):Calls Try.prog 102 #[.int .i64 x] w fun e w'=>e= .returned (.bool false)∧w=w':=by
 have h:(x != x)=false:=by simp
 go_enter Try.func102,Try.ntmps102
 go_wp2
 go_ret
 exact⟨rfl,rfl⟩
def cmpI (x y:Int):Int:=if x < y then -1 else if y < x then 1 else 0
theorem compareU (x y:Int) (w:World):Calls Try.prog 86 #[.int .u64 x, .int .u64 y] w fun e w'=>e= .returned (.int .i64 (cmpI x y))∧w=w':=by
 have HX:=xhd (fun W=>isNaNU x W)
 have HY:=xhd (fun W=>isNaNU y W)
 by_cases h:x < y
 ·rw [show cmpI x y= -1 by simp [cmpI,h]]
  go_enter Try.func86,Try.ntmps86
  go_wp2_with fail
  refine (HX.out _).mono ?_
  rintro e w1 ⟨rfl,rfl⟩
  go_wp2_with fail
  refine (HY.out _).mono ?_
  rintro e w1 ⟨rfl,rfl⟩
  go_wp2
  go_ret
  exact⟨rfl,rfl⟩
 ·by_cases g:y < x
  ·rw [show cmpI x y=1 by simp [cmpI,h,g]]
   go_enter Try.func86,Try.ntmps86
   go_wp2_with fail
   refine (HX.out _).mono ?_
   rintro e w1 ⟨rfl,rfl⟩
   go_wp2_with fail
   refine (HY.out _).mono ?_
   rintro e w1 ⟨rfl,rfl⟩
   go_wp2
   go_ret
   exact⟨rfl,rfl⟩
  ·rw [show cmpI x y=0 by simp [cmpI,h,g]]
   go_enter Try.func86,Try.ntmps86
   go_wp2_with fail
   refine (HX.out _).mono ?_
   rintro e w1 ⟨rfl,rfl⟩
   go_wp2_with fail
   refine (HY.out _).mono ?_
   rintro e w1 ⟨rfl,rfl⟩
   go_wp2
   go_ret
   exact⟨rfl,rfl⟩
theorem compareI (x y:Int) (w:World):Calls Try.prog 93 #[.int .i64 x, .int .i64 y] w fun e w'=>e= .returned (.int .i64 (cmpI x y))∧w=w':=by
 have HX:=xhd (fun W=>isNaNI x W)
 have HY:=xhd (fun W=>isNaNI y W)
 by_cases h:x < y
 ·rw [show cmpI x y= -1 by simp [cmpI,h]]
  go_enter Try.func93,Try.ntmps93
  go_wp2_with fail
  refine (HX.out _).mono ?_
  rintro e w1 ⟨rfl,rfl⟩
  go_wp2_with fail
  refine (HY.out _).mono ?_
  rintro e w1 ⟨rfl,rfl⟩
  go_wp2
  go_ret
  exact⟨rfl,rfl⟩
 ·by_cases g:y < x
  ·rw [show cmpI x y=1 by simp [cmpI,h,g]]
   go_enter Try.func93,Try.ntmps93
   go_wp2_with fail
   refine (HX.out _).mono ?_
   rintro e w1 ⟨rfl,rfl⟩
   go_wp2_with fail
   refine (HY.out _).mono ?_
   rintro e w1 ⟨rfl,rfl⟩
   go_wp2
   go_ret
   exact⟨rfl,rfl⟩
  ·rw [show cmpI x y=0 by simp [cmpI,h,g]]
   go_enter Try.func93,Try.ntmps93
   go_wp2_with fail
   refine (HX.out _).mono ?_
   rintro e w1 ⟨rfl,rfl⟩
   go_wp2_with fail
   refine (HY.out _).mono ?_
   rintro e w1 ⟨rfl,rfl⟩
   go_wp2
   go_ret
   exact⟨rfl,rfl⟩
def orI (x y:Int):Int:=if x=0 then y else x
theorem ord_or (a b:Int×Int):orI (cmpI a.1 b.1) (cmpI a.2 b.2)=ordI a b:=by
 unfold orI cmpI ordI
 repeat' split
 all_goals omega
theorem or_any (x y:Int) (g:Nat) (w:World) (h0:w.cell? ⟨g,0,none⟩=some (.int .i64 x)) (h1:w.cell? ⟨g,1,none⟩=some (.int .i64 y)):
  Calls Try.prog 92 #[.slice (some ⟨g,0,none⟩) 2 2] w fun e w'=>e= .returned (.int .i64 (orI x y))∧w=w':=by
 by_cases hx:x=0
 ·subst hx
  by_cases hy:y=0
  ·subst hy
   go_enter Try.func92,Try.ntmps92
   go_wp2
   refine wp_loop_rounds 3 ?_
   rw [rounds_succ]
   go_wp2
   rw [rounds_succ]
   go_wp2
   rw [rounds_succ]
   go_wp2
   go_ret
   exact⟨rfl,rfl⟩
  ·have e1:(y != 0)=true:=by simpa using hy
   rw [show orI 0 y=y by simp [orI]]
   go_enter Try.func92,Try.ntmps92
   go_wp2
   refine wp_loop_rounds 2 ?_
   rw [rounds_succ]
   go_wp2
   rw [rounds_succ]
   go_wp2
   go_ret
   exact⟨rfl,rfl⟩
 ·have e1:(x != 0)=true:=by simpa using hx
  rw [show orI x y=x by simp [orI,hx]]
  go_enter Try.func92,Try.ntmps92
  go_wp2
  refine wp_loop_rounds 1 ?_
  rw [rounds_succ]
  go_wp2
  go_ret
  exact⟨rfl,rfl⟩
theorem kord_any (a b:Int×Int) (w:World):Calls Try.prog 80 #[.agg #[.int .u64 a.1, .int .i64 a.2], .agg #[.int .u64 b.1, .int .i64 b.2]] w fun e w'=>e= .returned (.int .i64 (ordI a b))∧Turned [] w w':=by
 have HU:=xhd (fun W=>compareU a.1 b.1 W)
 have HI:=xhd (fun W=>compareI a.2 b.2 W)
 rw [←ord_or]
 obtain⟨p,hp⟩:∃p,cmpI a.1 b.1=p:=⟨_,rfl⟩
 obtain⟨q,hq⟩:∃q,cmpI a.2 b.2=q:=⟨_,rfl⟩
 rw [hp] at HU ⊢
 rw [hq] at HI ⊢
 obtain⟨a1,a2⟩:=a
 obtain⟨b1,b2⟩:=b
 clear hp hq
 simp only at HU HI ⊢
 go_enter Try.func80,Try.ntmps80
 go_wp2
 obtain⟨D,hD⟩:∃D,((w.alloc (.cells #[.int .u64 a1, .int .i64 a2] 75)).alloc (.cells #[.int .u64 b1, .int .i64 b2] 75)).drew=D:=⟨_,rfl⟩
 have T0:Turned [] w D:=hD ▸ (((Turned.refl [] w).alloc _).alloc _).drew
 have K0:D.heap[w.heap.size]?=some (.cells #[.int .u64 a1, .int .i64 a2] 75 (0,0)):=by rw [←hD];exact (Below.heap_alloc _ _ _ (by simp)).trans (heap_alloc_new w _)
 have K1:D.heap[w.heap.size+1]?=some (.cells #[.int .u64 b1, .int .i64 b2] 75 (0,0)):=by
  have e:=heap_alloc_new (w.alloc (.cells #[.int .u64 a1, .int .i64 a2] 75)) (.cells #[.int .u64 b1, .int .i64 b2] 75)
  rw [show (w.alloc (.cells #[.int .u64 a1, .int .i64 a2] 75)).heap.size=w.heap.size+1 by simp] at e
  rw [←hD]
  exact e
 have x0:D.cell? ⟨w.heap.size,0,none⟩=some (.int .u64 a1):=by simp [World.cell?,K0]
 have x1:D.cell? ⟨w.heap.size,1,none⟩=some (.int .i64 a2):=by simp [World.cell?,K0]
 have y0:D.cell? ⟨w.heap.size+1,0,none⟩=some (.int .u64 b1):=by simp [World.cell?,K1]
 have y1:D.cell? ⟨w.heap.size+1,1,none⟩=some (.int .i64 b2):=by simp [World.cell?,K1]
 have T1:=xhd T0
 clear T0 K0 K1
 refine wp_still_tail_at 10 hD (by kernel_rfl) (by kernel_rfl) ?_
 clear hD
 simp only [List.take_succ_cons,List.take_zero,List.drop_succ_cons,List.drop_zero]
 repeat still_step
 still_call ((HU.out _).mono (fun e w' ⟨he,hw⟩=>⟨he,hw.symm⟩))
 repeat still_step
 still_call ((HI.out _).mono (fun e w' ⟨he,hw⟩=>⟨he,hw.symm⟩))
 refine wpStill_nil ?_
 go_wp2_with fail
 refine (or_any p q _ _ (by simp) (by simp)).mono ?_
 rintro e w1 ⟨rfl,rfl⟩
 go_wp2
 go_ret
 exact⟨rfl,T1.out.alloc _⟩
abbrev tNd:TypeId:=118
abbrev tIt:TypeId:=110
abbrev ndCells (x:Itm Nat) (c:Bool) (pl pr:Value):Array Value:= #[.int .u64 x.1, .int .i64 x.2.1, .pointer (some ⟨x.2.2,0,none⟩), .bool c,pl,pr]
abbrev itV (x:Itm Nat):Value:= .agg #[.int .u64 x.1, .int .i64 x.2.1, .pointer (some ⟨x.2.2,0,none⟩)]
def TrAt (w:World):Tr Nat→Value→Prop
 | .nil,p=>p= .pointer none
 | .node c l x r,p=>∃b pl pr,p= .pointer (some ⟨b,0,none⟩)∧w.heap[b]?=some (.cells (ndCells x c pl pr) tNd (0,0))∧TrAt w l pl∧TrAt w r pr
def KeepsN (w w':World):Prop:=∀(k:Nat) (cs:Array Value),w.heap[k]?=some (Obj.cells cs tNd (0,0))→w'.heap[k]?=some (Obj.cells cs tNd (0,0))
theorem TrAt.keep {w w':World} (hk:KeepsN w w'):∀ {t:Tr Nat} {p:Value},TrAt w t p→TrAt w' t p
 | .nil,_,h=>h
 | .node _ _ _ _,_,⟨b,pl,pr,h1,h2,h3,h4⟩=>⟨b,pl,pr,h1,hk _ _ h2,h3.keep hk,h4.keep hk⟩
theorem KeepsN.of_turned {X:List Nat} {w w':World} (h:Turned X w w') (hx:∀k ∈ X,∀cs:Array Value,w.heap[k]?≠some (Obj.cells cs tNd (0,0))):KeepsN w w':=fun k cs hk=>h.same hk fun hm=>hx k hm cs hk
theorem Turned.keepsN {w w':World} (h:Turned [] w w'):KeepsN w w':=KeepsN.of_turned h (by simp)
theorem TrAt.later {w w':World} {t:Tr Nat} {p:Value} (h:TrAt w t p) (ht:Turned [] w w'):TrAt w' t p:=h.keep ht.keepsN
theorem Turned.join {a b c:World} (h:Turned [] a b) (g:Turned [] b c):Turned [] a c:=h.trans g (Newer.refl _ _)
theorem TrAt.shape {w:World} :∀ {t:Tr Nat} {p:Value},TrAt w t p→∃a,p= .pointer a
 | .nil,_,h=>⟨none,h⟩
 | .node _ _ _ _,_,⟨b,_,_,h,_⟩=>⟨some ⟨b,0,none⟩,h⟩
theorem nd_cells {w:World} {b:Nat} {x:Itm Nat} {c:Bool} {pl pr:Value} (h:w.heap[b]?=some (.cells (ndCells x c pl pr) tNd (0,0))):
  w.cell? ⟨b,0,none⟩=some (.int .u64 x.1)∧w.cell? ⟨b,1,none⟩=some (.int .i64 x.2.1)∧w.cell? ⟨b,2,none⟩=some (.pointer (some ⟨x.2.2,0,none⟩))∧w.cell? ⟨b,3,none⟩=some (.bool c)∧w.cell? ⟨b,4,none⟩=some pl∧w.cell? ⟨b,5,none⟩=some pr:=by
 refine⟨by simp [World.cell?,h],by simp [World.cell?,h],by simp [World.cell?,h],by simp [World.cell?,h],by simp [World.cell?,h],by simp [World.cell?,h]⟩
theorem TrAt.mk {w w1:World} {l r:Tr Nat} {pl pr:Value} (hl:TrAt w l pl) (hr:TrAt w r pr) (ht:Turned [] w w1) (x:Itm Nat) (c:Bool):
  TrAt (w1.alloc (.cells (ndCells x c pl pr) tNd)) (.node c l x r) (.pointer (some ⟨w1.heap.size,0,none⟩))∧Turned [] w (w1.alloc (.cells (ndCells x c pl pr) tNd)):=by
 have h:=ht.alloc (.cells (ndCells x c pl pr) tNd)
 exact⟨⟨_,pl,pr,rfl,heap_alloc_new w1 _,hl.later h,hr.later h⟩,h⟩
abbrev Makes (w:World) (t:Tr Nat) (e:Ending) (w':World):Prop:=∃p,e= .returned p∧TrAt w' t p∧Turned [] w w'
theorem red_any {w:World} {l r:Tr Nat} {pl pr:Value} (hl:TrAt w l pl) (hr:TrAt w r pr) (x:Itm Nat):
  Calls Try.prog 94 #[pl,itV x,pr] w (Makes w (.node true l x r)):=by
 have HM:=xhd (fun o=>TrAt.mk hl hr ((Turned.refl [] w).alloc o) x true)
 obtain⟨al,rfl⟩:=hl.shape
 obtain⟨ar,rfl⟩:=hr.shape
 obtain⟨x1,x2,x3⟩:=x
 simp only [itV,ndCells] at HM ⊢
 clear hl hr
 go_enter Try.func94,Try.ntmps94
 go_wp2
 go_ret
 exact⟨_,rfl,by simpa using HM.out _⟩
theorem black_any {w:World} {l r:Tr Nat} {pl pr:Value} (hl:TrAt w l pl) (hr:TrAt w r pr) (x:Itm Nat):
  Calls Try.prog 97 #[pl,itV x,pr] w (Makes w (.node false l x r)):=by
 have HM:=xhd (fun o=>TrAt.mk hl hr ((Turned.refl [] w).alloc o) x false)
 obtain⟨al,rfl⟩:=hl.shape
 obtain⟨ar,rfl⟩:=hr.shape
 obtain⟨x1,x2,x3⟩:=x
 simp only [itV,ndCells] at HM ⊢
 clear hl hr
 go_enter Try.func97,Try.ntmps97
 go_wp2
 go_ret
 exact⟨_,rfl,by simpa using HM.out _⟩
theorem isRed_any {w:World} {t:Tr Nat} {p:Value} (h:TrAt w t p):
  Calls Try.prog 96 #[p] w fun e w'=>e= .returned (.bool t.isR)∧w=w':=by
 cases t with
 |nil=>
  obtain rfl:p= .pointer none:=h
  go_enter Try.func96,Try.ntmps96
  go_wp2
  go_ret
  exact⟨rfl,rfl⟩
 |node c l x r=>
  obtain⟨b,pl,pr,rfl,h2,_,_⟩:=h
  obtain⟨_,_,_,c3,_,_⟩:=nd_cells h2
  rw [show (Tr.node c l x r).isR=c by cases c<;>rfl]
  clear h2
  go_enter Try.func96,Try.ntmps96
  go_wp2
  go_ret
  exact⟨rfl,rfl⟩
theorem isRed_is {w:World} {t:Tr Nat} {p:Value} {b:Bool} (h:TrAt w t p) (hb:t.isR=b):
 Calls Try.prog 96 #[p] w fun e w'=>e= .returned (.bool b)∧w=w':=hb ▸ isRed_any h
theorem isBlack_any {w:World} {t:Tr Nat} {p:Value} (h:TrAt w t p):
  Calls Try.prog 103 #[p] w fun e w'=>e= .returned (.bool t.isB)∧w=w':=by
 cases t with
 |nil=>
  obtain rfl:p= .pointer none:=h
  go_enter Try.func103,Try.ntmps103
  go_wp2
  go_ret
  exact⟨rfl,rfl⟩
 |node c l x r=>
  obtain⟨b,pl,pr,rfl,h2,_,_⟩:=h
  obtain⟨_,_,_,c3,_,_⟩:=nd_cells h2
  rw [show (Tr.node c l x r).isB=!c by cases c<;>rfl]
  clear h2
  go_enter Try.func103,Try.ntmps103
  go_wp2
  go_ret
  exact⟨rfl,rfl⟩
theorem asRoot_any {w:World} {t:Tr Nat} {p:Value} (h:TrAt w t p):
  Calls Try.prog 82 #[p] w (Makes w t.root):=by
 have HR:=xhd (isRed_any h)
 by_cases hr:t.isR=true
 ·cases t with
  |nil=>simp [Tr.isR] at hr
  |node c l x r=>
   obtain rfl:c=true:=by cases c;simp [Tr.isR] at hr;rfl
   rw [hr] at HR
   obtain⟨b,pl,pr,rfl,h2,h3,h4⟩:=h
   obtain⟨al,rfl⟩:=h3.shape
   obtain⟨ar,rfl⟩:=h4.shape
   obtain⟨D,hD⟩:∃D,w.drew=D:=⟨_,rfl⟩
   have TD:Turned [] w D:=hD ▸ (Turned.refl [] w).drew
   have k2:=TD.same h2 (by simp)
   obtain⟨c0,c1,c2,c3,c4,c5⟩:=nd_cells k2
   have HB:=xhd (black_any (h3.later TD) (h4.later TD) x)
   have HT:=xhd TD
   obtain⟨x1,x2,x3⟩:=x
   simp only [itV] at HB
   clear h2 h3 h4 hr k2 TD
   go_enter Try.func82,Try.ntmps82
   go_wp2_with fail
   refine HR.out.mono ?_
   rintro e w1 ⟨rfl,rfl⟩
   go_wp2_with fail
   refine wp_still_tail_at 12 hD (by kernel_rfl) (by kernel_rfl) ?_
   clear hD
   simp only [List.take_succ_cons,List.take_zero,List.drop_succ_cons,List.drop_zero]
   repeat still_step
   refine wpStill_nil ?_
   go_wp2_with fail
   refine HB.out.mono ?_
   rintro e w1 ⟨q,rfl,hq,ht⟩
   have R:=xhd (And.intro hq (HT.out.join ht))
   obtain⟨aq,rfl⟩:=hq.shape
   clear hq ht
   go_wp2
   go_ret
   exact⟨_,rfl,R.out⟩
 ·have hf:t.isR=false:=by simpa using hr
  have e:t.root=t:=by
   cases t with
   |nil=>rfl
   |node c l x r=>cases c;rfl;simp [Tr.isR] at hf
  rw [hf] at HR
  rw [e]
  have H:=xhd h
  obtain⟨a,rfl⟩:=h.shape
  clear h hr hf e
  go_enter Try.func82,Try.ntmps82
  go_wp2_with fail
  refine HR.out.mono ?_
  rintro e w1 ⟨rfl,rfl⟩
  go_wp2
  go_ret
  exact⟨_,rfl,H.out,Turned.refl _ _⟩
theorem reddened_any {w:World} {c:Bool} {l r:Tr Nat} {x:Itm Nat} {p:Value} (h:TrAt w (.node c l x r) p):
  Calls Try.prog 104 #[p] w (Makes w (.node true l x r)):=by
 obtain⟨b,pl,pr,rfl,h2,h3,h4⟩:=h
 obtain⟨al,rfl⟩:=h3.shape
 obtain⟨ar,rfl⟩:=h4.shape
 obtain⟨D,hD⟩:∃D,w.drew=D:=⟨_,rfl⟩
 have TD:Turned [] w D:=hD ▸ (Turned.refl [] w).drew
 have k2:=TD.same h2 (by simp)
 obtain⟨c0,c1,c2,c3,c4,c5⟩:=nd_cells k2
 have HB:=xhd (red_any (h3.later TD) (h4.later TD) x)
 have HT:=xhd TD
 obtain⟨x1,x2,x3⟩:=x
 simp only [itV] at HB
 clear h2 h3 h4 k2 TD
 go_enter Try.func104,Try.ntmps104
 go_wp2_with fail
 refine wp_still_tail_at 12 hD (by kernel_rfl) (by kernel_rfl) ?_
 clear hD
 simp only [List.take_succ_cons,List.take_zero,List.drop_succ_cons,List.drop_zero]
 repeat still_step
 refine wpStill_nil ?_
 go_wp2_with fail
 refine HB.out.mono ?_
 rintro e w1 ⟨q,rfl,hq,ht⟩
 have R:=xhd (And.intro hq (HT.out.join ht))
 obtain⟨aq,rfl⟩:=hq.shape
 clear hq ht
 go_wp2
 go_ret
 exact⟨_,rfl,R.out⟩
theorem isBlack_is {w:World} {t:Tr Nat} {p:Value} {b:Bool} (h:TrAt w t p) (hb:t.isB=b):
 Calls Try.prog 103 #[p] w fun e w'=>e= .returned (.bool b)∧w=w':=hb ▸ isBlack_any h
abbrev Bx (w:World) (g:Nat) (x:Itm Nat):Prop:=w.heap[g]?=some (.cells #[.int .u64 x.1, .int .i64 x.2.1, .pointer (some ⟨x.2.2,0,none⟩)] tIt (0,0))
theorem bx_cells {w:World} {g:Nat} {x:Itm Nat} (h:Bx w g x):w.cell? ⟨g,0,none⟩=some (.int .u64 x.1)∧w.cell? ⟨g,1,none⟩=some (.int .i64 x.2.1)∧w.cell? ⟨g,2,none⟩=some (.pointer (some ⟨x.2.2,0,none⟩)):=by
 refine⟨by simp [World.cell?,h],by simp [World.cell?,h],by simp [World.cell?,h]⟩
theorem bx_new (w:World) (x:Itm Nat):Bx (w.alloc (.cells #[.int .u64 x.1, .int .i64 x.2.1, .pointer (some ⟨x.2.2,0,none⟩)] tIt)) w.heap.size x:=heap_alloc_new w _
abbrev S1 (W:World) (g:Nat) (x1 x2:Int) (x3:Nat) (w':World):Prop:=w'.cell? ⟨g,0,none⟩=some (.int .u64 x1)∧w'.cell? ⟨g,1,none⟩=some (.int .i64 x2)∧w'.cell? ⟨g,2,none⟩=some (.pointer (some ⟨x3,0,none⟩))∧Turned [] W w'
theorem S1.mk {W w':World} {g:Nat} {x:Itm Nat} (h:Bx W g x) (ht:Turned [] W w'):S1 W g x.1 x.2.1 x.2.2 w':=by
 obtain⟨h0,h1,h2⟩:=bx_cells (ht.same h (by simp))
 exact⟨h0,h1,h2,ht⟩
theorem balA_any {w:World} {l r:Tr Nat} {pl pr:Value} (hl:TrAt w l pl) (hr:TrAt w r pr) (x:Itm Nat) (rl:l.isR=true) (rr:r.isR=true):
  Calls Try.prog 95 #[pl,itV x,pr] w (Makes w (.node true l.root x r.root)):=by
 obtain⟨W,hW⟩:∃W,w.alloc (.cells #[.int .u64 x.1, .int .i64 x.2.1, .pointer (some ⟨x.2.2,0,none⟩)] tIt)=W:=⟨_,rfl⟩
 have TW:Turned [] w W:=hW ▸ (Turned.refl [] w).alloc _
 have BW:Bx W w.heap.size x:=hW ▸ bx_new w x
 have HL:=xhd (isRed_any (hl.later TW))
 have HR:=xhd (isRed_any (hr.later TW))
 rw [rl] at HL
 rw [rr] at HR
 have KL:=xhd (hl.later TW)
 have KR:=xhd (hr.later TW)
 have HT:=xhd TW
 have HS:=xhd (fun w' (ht:Turned [] W w')=>S1.mk BW ht)
 obtain⟨al,rfl⟩:=hl.shape
 obtain⟨ar,rfl⟩:=hr.shape
 obtain⟨x1,x2,x3⟩:=x
 simp only [itV] at hW HS ⊢
 clear hl hr rl rr TW BW
 go_enter Try.func95,Try.ntmps95
 go_wp2_with fail
 refine HL.out.mono ?_
 rintro e w1 ⟨rfl,rfl⟩
 go_wp2_with fail
 refine HR.out.mono ?_
 rintro e w1 ⟨rfl,rfl⟩
 go_wp2_with fail
 obtain⟨e0,e1,e2,et⟩:=HS.out _ (Turned.refl [] W).drew
 have ET:=xhd et
 go_region_held3 (fun w'=>w'.cell? ⟨w.heap.size,0,none⟩=some (.int .u64 x1)∧w'.cell? ⟨w.heap.size,1,none⟩=some (.int .i64 x2)∧w'.cell? ⟨w.heap.size,2,none⟩=some (.pointer (some ⟨x3,0,none⟩))∧Turned [] W w')
  (first|exact⟨f0,f1,f2,ft⟩ |exact⟨e0,e1,e2,et⟩)
  (first
    |(go_at_call 82
      first
       |(with_reducible refine (asRoot_any (KL.out.later (by first|exact ft|exact et))).mono ?_
         rintro e wa ⟨ql,rfl,hl,tl⟩
         have gl:=xhd hl
         try have gr:=xhd (gr.out.later tl)
         obtain⟨f0,f1,f2,ft⟩:=HS.out _ (Turned.join (by first|exact ft|exact et) tl)
         obtain⟨aql,rfl⟩:=hl.shape
         clear hl tl)
       |(with_reducible refine (asRoot_any (KR.out.later (by first|exact ft|exact et))).mono ?_
         rintro e wa ⟨qr,rfl,hr,tr⟩
         have gr:=xhd hr
         try have gl:=xhd (gl.out.later tr)
         obtain⟨f0,f1,f2,ft⟩:=HS.out _ (Turned.join (by first|exact ft|exact et) tr)
         obtain⟨aqr,rfl⟩:=hr.shape
         clear hr tr))
    |(go_at_call 94
      with_reducible refine (red_any gl.out gr.out (x1,x2,x3)).mono ?_
      rintro e wa ⟨q,rfl,hq,tq⟩
      obtain⟨f0,f1,f2,ft⟩:=HS.out _ (Turned.join (by first|exact ft|exact et) tq)
      have G:=xhd (And.intro hq (HT.out.join ft))
      obtain⟨aq,rfl⟩:=hq.shape
      clear hq tq))
 all_goals
  go_wp2
  go_ret
  exact⟨_,rfl,G.out⟩
theorem balB_any {w:World} {ll:Tr Nat} {lr:Tr Nat} {r:Tr Nat} {y:Itm Nat} {pl pr:Value} (hl:TrAt w (.node true ll y lr) pl) (hr:TrAt w r pr) (x:Itm Nat) (cll:ll.isR=true) (cr:r.isR=false):
  Calls Try.prog 95 #[pl,itV x,pr] w (Makes w (.node true ll.root y (.node false lr x r))):=by
 obtain⟨W,hW⟩:∃W,w.alloc (.cells #[.int .u64 x.1, .int .i64 x.2.1, .pointer (some ⟨x.2.2,0,none⟩)] tIt)=W:=⟨_,rfl⟩
 have TW:Turned [] w W:=hW ▸ (Turned.refl [] w).alloc _
 have BW:Bx W w.heap.size x:=hW ▸ bx_new w x
 have Rl:=xhd (isRed_is (b:=true) (hl.later TW) rfl)
 have Kl:=xhd (hl.later TW)
 obtain⟨bl,pll,plr,rfl,ml,hll,hlr⟩:=hl
 have Nl:=TW.same ml (by simp)
 have Rll:=xhd (isRed_is (hll.later TW) cll)
 have Kll:=xhd (hll.later TW)
 have Klr:=xhd (hlr.later TW)
 have Rr:=xhd (isRed_is (hr.later TW) cr)
 have Kr:=xhd (hr.later TW)
 obtain⟨all,rfl⟩:=hll.shape
 obtain⟨alr,rfl⟩:=hlr.shape
 obtain⟨ar,rfl⟩:=hr.shape
 have HS:Hid (∀w',Turned [] W w'→w'.cell? ⟨w.heap.size,0,none⟩=some (.int .u64 x.1)∧w'.cell? ⟨w.heap.size,1,none⟩=some (.int .i64 x.2.1)∧w'.cell? ⟨w.heap.size,2,none⟩=some (.pointer (some ⟨x.2.2,0,none⟩))∧w'.cell? ⟨bl,0,none⟩=some (.int .u64 y.1)∧w'.cell? ⟨bl,1,none⟩=some (.int .i64 y.2.1)∧w'.cell? ⟨bl,2,none⟩=some (.pointer (some ⟨y.2.2,0,none⟩))∧w'.cell? ⟨bl,3,none⟩=some (.bool true)∧w'.cell? ⟨bl,4,none⟩=some (.pointer all)∧w'.cell? ⟨bl,5,none⟩=some (.pointer alr)∧Turned [] W w'):=by
  intro w' ht
  obtain⟨x0,x1,x2⟩:=bx_cells (ht.same BW (by simp))
  obtain⟨lq0,lq1,lq2,lq3,lq4,lq5⟩:=nd_cells (ht.same Nl (by simp))
  exact⟨x0,x1,x2,lq0,lq1,lq2,lq3,lq4,lq5,ht⟩
 have HT:=xhd TW
 obtain⟨x1,x2,x3⟩:=x
 obtain⟨y1,y2,y3⟩:=y
 simp only [itV] at hW HS ⊢
 clear TW BW ml Nl hll hlr hr cll cr
 obtain⟨d0,d1,d2,d3,d4,d5,d6,d7,d8,dt⟩:=HS.out _ (Turned.refl [] W)
 go_enter Try.func95,Try.ntmps95
 repeat (go_wp2_with fail;first|(with_reducible refine Rl.out.mono ?_;rintro e w1 ⟨rfl,rfl⟩) |(with_reducible refine Rll.out.mono ?_;rintro e w1 ⟨rfl,rfl⟩) |(with_reducible refine Rr.out.mono ?_;rintro e w1 ⟨rfl,rfl⟩))
 go_wp2_with fail
 obtain⟨e0,e1,e2,e3,e4,e5,e6,e7,e8,et⟩:=HS.out _ (Turned.refl [] W).drew
 go_region_held3 (fun w'=>w'.cell? ⟨w.heap.size,0,none⟩=some (.int .u64 x1)∧w'.cell? ⟨w.heap.size,1,none⟩=some (.int .i64 x2)∧w'.cell? ⟨w.heap.size,2,none⟩=some (.pointer (some ⟨x3,0,none⟩))∧w'.cell? ⟨bl,0,none⟩=some (.int .u64 y1)∧w'.cell? ⟨bl,1,none⟩=some (.int .i64 y2)∧w'.cell? ⟨bl,2,none⟩=some (.pointer (some ⟨y3,0,none⟩))∧w'.cell? ⟨bl,3,none⟩=some (.bool true)∧w'.cell? ⟨bl,4,none⟩=some (.pointer all)∧w'.cell? ⟨bl,5,none⟩=some (.pointer alr)∧Turned [] W w')
  (first|exact⟨f0,f1,f2,f3,f4,f5,f6,f7,f8,ft⟩ |exact⟨e0,e1,e2,e3,e4,e5,e6,e7,e8,et⟩)
  (first
    |(go_at_call 82
      first
       |(with_reducible refine (asRoot_any (Kll.out.later (by first|exact ft|exact et))).mono ?_
         rintro e wa ⟨zg1,rfl,yg1,tg1⟩
         have g1:=xhd yg1
         try have g2:=xhd (g2.out.later tg1)
         try have g3:=xhd (g3.out.later tg1)
         obtain⟨f0,f1,f2,f3,f4,f5,f6,f7,f8,ft⟩:=HS.out _ (Turned.join (by first|exact ft|exact et) tg1)
         obtain⟨vg1,rfl⟩:=yg1.shape
         clear yg1 tg1))
    |(go_at_call 97
      first
       |(with_reducible refine (black_any (Klr.out.later (by first|exact ft|exact et)) (Kr.out.later (by first|exact ft|exact et)) (x1,x2,x3)).mono ?_
         rintro e wa ⟨zg2,rfl,yg2,tg2⟩
         have g2:=xhd yg2
         try have g1:=xhd (g1.out.later tg2)
         try have g3:=xhd (g3.out.later tg2)
         obtain⟨f0,f1,f2,f3,f4,f5,f6,f7,f8,ft⟩:=HS.out _ (Turned.join (by first|exact ft|exact et) tg2)
         obtain⟨vg2,rfl⟩:=yg2.shape
         clear yg2 tg2))
    |(go_at_call 94
      first
       |(with_reducible refine (red_any (g1.out) (g2.out) (y1,y2,y3)).mono ?_
         rintro e wa ⟨zg3,rfl,yg3,tg3⟩
         have g3:=xhd yg3
         obtain⟨f0,f1,f2,f3,f4,f5,f6,f7,f8,ft⟩:=HS.out _ (Turned.join (by first|exact ft|exact et) tg3)
         have G:=xhd (And.intro yg3 (HT.out.join ft))
         obtain⟨vg3,rfl⟩:=yg3.shape
         clear yg3 tg3)))
 all_goals
  go_wp2
  go_ret
  exact⟨_,rfl,G.out⟩
theorem balC_any {w:World} {ll:Tr Nat} {ma:Tr Nat} {mb:Tr Nat} {r:Tr Nat} {y:Itm Nat} {z:Itm Nat} {pl pr:Value} (hl:TrAt w (.node true ll y (.node true ma z mb)) pl) (hr:TrAt w r pr) (x:Itm Nat) (cll:ll.isR=false) (cr:r.isR=false):
  Calls Try.prog 95 #[pl,itV x,pr] w (Makes w (.node true (.node false ll y ma) z (.node false mb x r))):=by
 obtain⟨W,hW⟩:∃W,w.alloc (.cells #[.int .u64 x.1, .int .i64 x.2.1, .pointer (some ⟨x.2.2,0,none⟩)] tIt)=W:=⟨_,rfl⟩
 have TW:Turned [] w W:=hW ▸ (Turned.refl [] w).alloc _
 have BW:Bx W w.heap.size x:=hW ▸ bx_new w x
 have Rl:=xhd (isRed_is (b:=true) (hl.later TW) rfl)
 have Kl:=xhd (hl.later TW)
 obtain⟨bl,pll,pm,rfl,ml,hll,hm⟩:=hl
 have Nl:=TW.same ml (by simp)
 have Rll:=xhd (isRed_is (hll.later TW) cll)
 have Kll:=xhd (hll.later TW)
 have Rm:=xhd (isRed_is (b:=true) (hm.later TW) rfl)
 have Km:=xhd (hm.later TW)
 obtain⟨bm,pma,pmb,rfl,mm,hma,hmb⟩:=hm
 have Nm:=TW.same mm (by simp)
 have Kma:=xhd (hma.later TW)
 have Kmb:=xhd (hmb.later TW)
 have Rr:=xhd (isRed_is (hr.later TW) cr)
 have Kr:=xhd (hr.later TW)
 obtain⟨all,rfl⟩:=hll.shape
 obtain⟨ama,rfl⟩:=hma.shape
 obtain⟨amb,rfl⟩:=hmb.shape
 obtain⟨ar,rfl⟩:=hr.shape
 have HS:Hid (∀w',Turned [] W w'→w'.cell? ⟨w.heap.size,0,none⟩=some (.int .u64 x.1)∧w'.cell? ⟨w.heap.size,1,none⟩=some (.int .i64 x.2.1)∧w'.cell? ⟨w.heap.size,2,none⟩=some (.pointer (some ⟨x.2.2,0,none⟩))∧w'.cell? ⟨bl,0,none⟩=some (.int .u64 y.1)∧w'.cell? ⟨bl,1,none⟩=some (.int .i64 y.2.1)∧w'.cell? ⟨bl,2,none⟩=some (.pointer (some ⟨y.2.2,0,none⟩))∧w'.cell? ⟨bl,3,none⟩=some (.bool true)∧w'.cell? ⟨bl,4,none⟩=some (.pointer all)∧w'.cell? ⟨bl,5,none⟩=some (.pointer (some ⟨bm,0,none⟩))∧w'.cell? ⟨bm,0,none⟩=some (.int .u64 z.1)∧w'.cell? ⟨bm,1,none⟩=some (.int .i64 z.2.1)∧w'.cell? ⟨bm,2,none⟩=some (.pointer (some ⟨z.2.2,0,none⟩))∧w'.cell? ⟨bm,3,none⟩=some (.bool true)∧w'.cell? ⟨bm,4,none⟩=some (.pointer ama)∧w'.cell? ⟨bm,5,none⟩=some (.pointer amb)∧Turned [] W w'):=by
  intro w' ht
  obtain⟨x0,x1,x2⟩:=bx_cells (ht.same BW (by simp))
  obtain⟨lq0,lq1,lq2,lq3,lq4,lq5⟩:=nd_cells (ht.same Nl (by simp))
  obtain⟨mq0,mq1,mq2,mq3,mq4,mq5⟩:=nd_cells (ht.same Nm (by simp))
  exact⟨x0,x1,x2,lq0,lq1,lq2,lq3,lq4,lq5,mq0,mq1,mq2,mq3,mq4,mq5,ht⟩
 have HT:=xhd TW
 obtain⟨x1,x2,x3⟩:=x
 obtain⟨y1,y2,y3⟩:=y
 obtain⟨z1,z2,z3⟩:=z
 simp only [itV] at hW HS ⊢
 clear TW BW ml mm Nl Nm hll hma hmb hr cll cr
 obtain⟨d0,d1,d2,d3,d4,d5,d6,d7,d8,d9,d10,d11,d12,d13,d14,dt⟩:=HS.out _ (Turned.refl [] W)
 go_enter Try.func95,Try.ntmps95
 repeat (go_wp2_with fail;first|(with_reducible refine Rl.out.mono ?_;rintro e w1 ⟨rfl,rfl⟩) |(with_reducible refine Rll.out.mono ?_;rintro e w1 ⟨rfl,rfl⟩) |(with_reducible refine Rm.out.mono ?_;rintro e w1 ⟨rfl,rfl⟩) |(with_reducible refine Rr.out.mono ?_;rintro e w1 ⟨rfl,rfl⟩))
 go_wp2_with fail
 obtain⟨e0,e1,e2,e3,e4,e5,e6,e7,e8,e9,e10,e11,e12,e13,e14,et⟩:=HS.out _ (Turned.refl [] W).drew
 go_region_held3 (fun w'=>w'.cell? ⟨w.heap.size,0,none⟩=some (.int .u64 x1)∧w'.cell? ⟨w.heap.size,1,none⟩=some (.int .i64 x2)∧w'.cell? ⟨w.heap.size,2,none⟩=some (.pointer (some ⟨x3,0,none⟩))∧w'.cell? ⟨bl,0,none⟩=some (.int .u64 y1)∧w'.cell? ⟨bl,1,none⟩=some (.int .i64 y2)∧w'.cell? ⟨bl,2,none⟩=some (.pointer (some ⟨y3,0,none⟩))∧w'.cell? ⟨bl,3,none⟩=some (.bool true)∧w'.cell? ⟨bl,4,none⟩=some (.pointer all)∧w'.cell? ⟨bl,5,none⟩=some (.pointer (some ⟨bm,0,none⟩))∧w'.cell? ⟨bm,0,none⟩=some (.int .u64 z1)∧w'.cell? ⟨bm,1,none⟩=some (.int .i64 z2)∧w'.cell? ⟨bm,2,none⟩=some (.pointer (some ⟨z3,0,none⟩))∧w'.cell? ⟨bm,3,none⟩=some (.bool true)∧w'.cell? ⟨bm,4,none⟩=some (.pointer ama)∧w'.cell? ⟨bm,5,none⟩=some (.pointer amb)∧Turned [] W w')
  (first|exact⟨f0,f1,f2,f3,f4,f5,f6,f7,f8,f9,f10,f11,f12,f13,f14,ft⟩ |exact⟨e0,e1,e2,e3,e4,e5,e6,e7,e8,e9,e10,e11,e12,e13,e14,et⟩)
  (first
    |(go_at_call 97
      first
       |(with_reducible refine (black_any (Kll.out.later (by first|exact ft|exact et)) (Kma.out.later (by first|exact ft|exact et)) (y1,y2,y3)).mono ?_
         rintro e wa ⟨zg1,rfl,yg1,tg1⟩
         have g1:=xhd yg1
         try have g2:=xhd (g2.out.later tg1)
         try have g3:=xhd (g3.out.later tg1)
         obtain⟨f0,f1,f2,f3,f4,f5,f6,f7,f8,f9,f10,f11,f12,f13,f14,ft⟩:=HS.out _ (Turned.join (by first|exact ft|exact et) tg1)
         obtain⟨vg1,rfl⟩:=yg1.shape
         clear yg1 tg1)
       |(with_reducible refine (black_any (Kmb.out.later (by first|exact ft|exact et)) (Kr.out.later (by first|exact ft|exact et)) (x1,x2,x3)).mono ?_
         rintro e wa ⟨zg2,rfl,yg2,tg2⟩
         have g2:=xhd yg2
         try have g1:=xhd (g1.out.later tg2)
         try have g3:=xhd (g3.out.later tg2)
         obtain⟨f0,f1,f2,f3,f4,f5,f6,f7,f8,f9,f10,f11,f12,f13,f14,ft⟩:=HS.out _ (Turned.join (by first|exact ft|exact et) tg2)
         obtain⟨vg2,rfl⟩:=yg2.shape
         clear yg2 tg2))
    |(go_at_call 94
      first
       |(with_reducible refine (red_any (g1.out) (g2.out) (z1,z2,z3)).mono ?_
         rintro e wa ⟨zg3,rfl,yg3,tg3⟩
         have g3:=xhd yg3
         obtain⟨f0,f1,f2,f3,f4,f5,f6,f7,f8,f9,f10,f11,f12,f13,f14,ft⟩:=HS.out _ (Turned.join (by first|exact ft|exact et) tg3)
         have G:=xhd (And.intro yg3 (HT.out.join ft))
         obtain⟨vg3,rfl⟩:=yg3.shape
         clear yg3 tg3)))
 all_goals
  go_wp2
  go_ret
  exact⟨_,rfl,G.out⟩
theorem balD_any {w:World} {l:Tr Nat} {rl:Tr Nat} {rr:Tr Nat} {y:Itm Nat} {pl pr:Value} (hl:TrAt w l pl) (hr:TrAt w (.node true rl y rr) pr) (x:Itm Nat) (cl:l.isR=false) (crr:rr.isR=true):
  Calls Try.prog 95 #[pl,itV x,pr] w (Makes w (.node true (.node false l x rl) y rr.root)):=by
 obtain⟨W,hW⟩:∃W,w.alloc (.cells #[.int .u64 x.1, .int .i64 x.2.1, .pointer (some ⟨x.2.2,0,none⟩)] tIt)=W:=⟨_,rfl⟩
 have TW:Turned [] w W:=hW ▸ (Turned.refl [] w).alloc _
 have BW:Bx W w.heap.size x:=hW ▸ bx_new w x
 have Rl:=xhd (isRed_is (hl.later TW) cl)
 have Kl:=xhd (hl.later TW)
 have Rr:=xhd (isRed_is (b:=true) (hr.later TW) rfl)
 have Kr:=xhd (hr.later TW)
 obtain⟨br,prl,prr,rfl,mr,hrl,hrr⟩:=hr
 have Nr:=TW.same mr (by simp)
 have Krl:=xhd (hrl.later TW)
 have Rrr:=xhd (isRed_is (hrr.later TW) crr)
 have Krr:=xhd (hrr.later TW)
 obtain⟨al,rfl⟩:=hl.shape
 obtain⟨arl,rfl⟩:=hrl.shape
 obtain⟨arr,rfl⟩:=hrr.shape
 have HS:Hid (∀w',Turned [] W w'→w'.cell? ⟨w.heap.size,0,none⟩=some (.int .u64 x.1)∧w'.cell? ⟨w.heap.size,1,none⟩=some (.int .i64 x.2.1)∧w'.cell? ⟨w.heap.size,2,none⟩=some (.pointer (some ⟨x.2.2,0,none⟩))∧w'.cell? ⟨br,0,none⟩=some (.int .u64 y.1)∧w'.cell? ⟨br,1,none⟩=some (.int .i64 y.2.1)∧w'.cell? ⟨br,2,none⟩=some (.pointer (some ⟨y.2.2,0,none⟩))∧w'.cell? ⟨br,3,none⟩=some (.bool true)∧w'.cell? ⟨br,4,none⟩=some (.pointer arl)∧w'.cell? ⟨br,5,none⟩=some (.pointer arr)∧Turned [] W w'):=by
  intro w' ht
  obtain⟨x0,x1,x2⟩:=bx_cells (ht.same BW (by simp))
  obtain⟨rq0,rq1,rq2,rq3,rq4,rq5⟩:=nd_cells (ht.same Nr (by simp))
  exact⟨x0,x1,x2,rq0,rq1,rq2,rq3,rq4,rq5,ht⟩
 have HT:=xhd TW
 obtain⟨x1,x2,x3⟩:=x
 obtain⟨y1,y2,y3⟩:=y
 simp only [itV] at hW HS ⊢
 clear TW BW mr Nr hl hrl hrr cl crr
 obtain⟨d0,d1,d2,d3,d4,d5,d6,d7,d8,dt⟩:=HS.out _ (Turned.refl [] W)
 go_enter Try.func95,Try.ntmps95
 repeat (go_wp2_with fail;first|(with_reducible refine Rl.out.mono ?_;rintro e w1 ⟨rfl,rfl⟩) |(with_reducible refine Rr.out.mono ?_;rintro e w1 ⟨rfl,rfl⟩) |(with_reducible refine Rrr.out.mono ?_;rintro e w1 ⟨rfl,rfl⟩))
 go_wp2_with fail
 obtain⟨e0,e1,e2,e3,e4,e5,e6,e7,e8,et⟩:=HS.out _ (Turned.refl [] W).drew
 go_region_held3 (fun w'=>w'.cell? ⟨w.heap.size,0,none⟩=some (.int .u64 x1)∧w'.cell? ⟨w.heap.size,1,none⟩=some (.int .i64 x2)∧w'.cell? ⟨w.heap.size,2,none⟩=some (.pointer (some ⟨x3,0,none⟩))∧w'.cell? ⟨br,0,none⟩=some (.int .u64 y1)∧w'.cell? ⟨br,1,none⟩=some (.int .i64 y2)∧w'.cell? ⟨br,2,none⟩=some (.pointer (some ⟨y3,0,none⟩))∧w'.cell? ⟨br,3,none⟩=some (.bool true)∧w'.cell? ⟨br,4,none⟩=some (.pointer arl)∧w'.cell? ⟨br,5,none⟩=some (.pointer arr)∧Turned [] W w')
  (first|exact⟨f0,f1,f2,f3,f4,f5,f6,f7,f8,ft⟩ |exact⟨e0,e1,e2,e3,e4,e5,e6,e7,e8,et⟩)
  (first
    |(go_at_call 97
      first
       |(with_reducible refine (black_any (Kl.out.later (by first|exact ft|exact et)) (Krl.out.later (by first|exact ft|exact et)) (x1,x2,x3)).mono ?_
         rintro e wa ⟨zg1,rfl,yg1,tg1⟩
         have g1:=xhd yg1
         try have g2:=xhd (g2.out.later tg1)
         try have g3:=xhd (g3.out.later tg1)
         obtain⟨f0,f1,f2,f3,f4,f5,f6,f7,f8,ft⟩:=HS.out _ (Turned.join (by first|exact ft|exact et) tg1)
         obtain⟨vg1,rfl⟩:=yg1.shape
         clear yg1 tg1))
    |(go_at_call 82
      first
       |(with_reducible refine (asRoot_any (Krr.out.later (by first|exact ft|exact et))).mono ?_
         rintro e wa ⟨zg2,rfl,yg2,tg2⟩
         have g2:=xhd yg2
         try have g1:=xhd (g1.out.later tg2)
         try have g3:=xhd (g3.out.later tg2)
         obtain⟨f0,f1,f2,f3,f4,f5,f6,f7,f8,ft⟩:=HS.out _ (Turned.join (by first|exact ft|exact et) tg2)
         obtain⟨vg2,rfl⟩:=yg2.shape
         clear yg2 tg2))
    |(go_at_call 94
      first
       |(with_reducible refine (red_any (g1.out) (g2.out) (y1,y2,y3)).mono ?_
         rintro e wa ⟨zg3,rfl,yg3,tg3⟩
         have g3:=xhd yg3
         obtain⟨f0,f1,f2,f3,f4,f5,f6,f7,f8,ft⟩:=HS.out _ (Turned.join (by first|exact ft|exact et) tg3)
         have G:=xhd (And.intro yg3 (HT.out.join ft))
         obtain⟨vg3,rfl⟩:=yg3.shape
         clear yg3 tg3)))
 all_goals
  go_wp2
  go_ret
  exact⟨_,rfl,G.out⟩
theorem balE_any {w:World} {l:Tr Nat} {ma:Tr Nat} {mb:Tr Nat} {rr:Tr Nat} {y:Itm Nat} {z:Itm Nat} {pl pr:Value} (hl:TrAt w l pl) (hr:TrAt w (.node true (.node true ma z mb) y rr) pr) (x:Itm Nat) (cl:l.isR=false) (crr:rr.isR=false):
  Calls Try.prog 95 #[pl,itV x,pr] w (Makes w (.node true (.node false l x ma) z (.node false mb y rr))):=by
 obtain⟨W,hW⟩:∃W,w.alloc (.cells #[.int .u64 x.1, .int .i64 x.2.1, .pointer (some ⟨x.2.2,0,none⟩)] tIt)=W:=⟨_,rfl⟩
 have TW:Turned [] w W:=hW ▸ (Turned.refl [] w).alloc _
 have BW:Bx W w.heap.size x:=hW ▸ bx_new w x
 have Rl:=xhd (isRed_is (hl.later TW) cl)
 have Kl:=xhd (hl.later TW)
 have Rr:=xhd (isRed_is (b:=true) (hr.later TW) rfl)
 have Kr:=xhd (hr.later TW)
 obtain⟨br,pm,prr,rfl,mr,hm,hrr⟩:=hr
 have Nr:=TW.same mr (by simp)
 have Rm:=xhd (isRed_is (b:=true) (hm.later TW) rfl)
 have Km:=xhd (hm.later TW)
 obtain⟨bm,pma,pmb,rfl,mm,hma,hmb⟩:=hm
 have Nm:=TW.same mm (by simp)
 have Kma:=xhd (hma.later TW)
 have Kmb:=xhd (hmb.later TW)
 have Rrr:=xhd (isRed_is (hrr.later TW) crr)
 have Krr:=xhd (hrr.later TW)
 obtain⟨al,rfl⟩:=hl.shape
 obtain⟨ama,rfl⟩:=hma.shape
 obtain⟨amb,rfl⟩:=hmb.shape
 obtain⟨arr,rfl⟩:=hrr.shape
 have HS:Hid (∀w',Turned [] W w'→w'.cell? ⟨w.heap.size,0,none⟩=some (.int .u64 x.1)∧w'.cell? ⟨w.heap.size,1,none⟩=some (.int .i64 x.2.1)∧w'.cell? ⟨w.heap.size,2,none⟩=some (.pointer (some ⟨x.2.2,0,none⟩))∧w'.cell? ⟨br,0,none⟩=some (.int .u64 y.1)∧w'.cell? ⟨br,1,none⟩=some (.int .i64 y.2.1)∧w'.cell? ⟨br,2,none⟩=some (.pointer (some ⟨y.2.2,0,none⟩))∧w'.cell? ⟨br,3,none⟩=some (.bool true)∧w'.cell? ⟨br,4,none⟩=some (.pointer (some ⟨bm,0,none⟩))∧w'.cell? ⟨br,5,none⟩=some (.pointer arr)∧w'.cell? ⟨bm,0,none⟩=some (.int .u64 z.1)∧w'.cell? ⟨bm,1,none⟩=some (.int .i64 z.2.1)∧w'.cell? ⟨bm,2,none⟩=some (.pointer (some ⟨z.2.2,0,none⟩))∧w'.cell? ⟨bm,3,none⟩=some (.bool true)∧w'.cell? ⟨bm,4,none⟩=some (.pointer ama)∧w'.cell? ⟨bm,5,none⟩=some (.pointer amb)∧Turned [] W w'):=by
  intro w' ht
  obtain⟨x0,x1,x2⟩:=bx_cells (ht.same BW (by simp))
  obtain⟨rq0,rq1,rq2,rq3,rq4,rq5⟩:=nd_cells (ht.same Nr (by simp))
  obtain⟨mq0,mq1,mq2,mq3,mq4,mq5⟩:=nd_cells (ht.same Nm (by simp))
  exact⟨x0,x1,x2,rq0,rq1,rq2,rq3,rq4,rq5,mq0,mq1,mq2,mq3,mq4,mq5,ht⟩
 have HT:=xhd TW
 obtain⟨x1,x2,x3⟩:=x
 obtain⟨y1,y2,y3⟩:=y
 obtain⟨z1,z2,z3⟩:=z
 simp only [itV] at hW HS ⊢
 clear TW BW mr mm Nr Nm hl hma hmb hrr cl crr
 obtain⟨d0,d1,d2,d3,d4,d5,d6,d7,d8,d9,d10,d11,d12,d13,d14,dt⟩:=HS.out _ (Turned.refl [] W)
 go_enter Try.func95,Try.ntmps95
 repeat (go_wp2_with fail;first|(with_reducible refine Rl.out.mono ?_;rintro e w1 ⟨rfl,rfl⟩) |(with_reducible refine Rr.out.mono ?_;rintro e w1 ⟨rfl,rfl⟩) |(with_reducible refine Rm.out.mono ?_;rintro e w1 ⟨rfl,rfl⟩) |(with_reducible refine Rrr.out.mono ?_;rintro e w1 ⟨rfl,rfl⟩))
 go_wp2_with fail
 obtain⟨e0,e1,e2,e3,e4,e5,e6,e7,e8,e9,e10,e11,e12,e13,e14,et⟩:=HS.out _ (Turned.refl [] W).drew
 go_region_held3 (fun w'=>w'.cell? ⟨w.heap.size,0,none⟩=some (.int .u64 x1)∧w'.cell? ⟨w.heap.size,1,none⟩=some (.int .i64 x2)∧w'.cell? ⟨w.heap.size,2,none⟩=some (.pointer (some ⟨x3,0,none⟩))∧w'.cell? ⟨br,0,none⟩=some (.int .u64 y1)∧w'.cell? ⟨br,1,none⟩=some (.int .i64 y2)∧w'.cell? ⟨br,2,none⟩=some (.pointer (some ⟨y3,0,none⟩))∧w'.cell? ⟨br,3,none⟩=some (.bool true)∧w'.cell? ⟨br,4,none⟩=some (.pointer (some ⟨bm,0,none⟩))∧w'.cell? ⟨br,5,none⟩=some (.pointer arr)∧w'.cell? ⟨bm,0,none⟩=some (.int .u64 z1)∧w'.cell? ⟨bm,1,none⟩=some (.int .i64 z2)∧w'.cell? ⟨bm,2,none⟩=some (.pointer (some ⟨z3,0,none⟩))∧w'.cell? ⟨bm,3,none⟩=some (.bool true)∧w'.cell? ⟨bm,4,none⟩=some (.pointer ama)∧w'.cell? ⟨bm,5,none⟩=some (.pointer amb)∧Turned [] W w')
  (first|exact⟨f0,f1,f2,f3,f4,f5,f6,f7,f8,f9,f10,f11,f12,f13,f14,ft⟩ |exact⟨e0,e1,e2,e3,e4,e5,e6,e7,e8,e9,e10,e11,e12,e13,e14,et⟩)
  (first
    |(go_at_call 97
      first
       |(with_reducible refine (black_any (Kl.out.later (by first|exact ft|exact et)) (Kma.out.later (by first|exact ft|exact et)) (x1,x2,x3)).mono ?_
         rintro e wa ⟨zg1,rfl,yg1,tg1⟩
         have g1:=xhd yg1
         try have g2:=xhd (g2.out.later tg1)
         try have g3:=xhd (g3.out.later tg1)
         obtain⟨f0,f1,f2,f3,f4,f5,f6,f7,f8,f9,f10,f11,f12,f13,f14,ft⟩:=HS.out _ (Turned.join (by first|exact ft|exact et) tg1)
         obtain⟨vg1,rfl⟩:=yg1.shape
         clear yg1 tg1)
       |(with_reducible refine (black_any (Kmb.out.later (by first|exact ft|exact et)) (Krr.out.later (by first|exact ft|exact et)) (y1,y2,y3)).mono ?_
         rintro e wa ⟨zg2,rfl,yg2,tg2⟩
         have g2:=xhd yg2
         try have g1:=xhd (g1.out.later tg2)
         try have g3:=xhd (g3.out.later tg2)
         obtain⟨f0,f1,f2,f3,f4,f5,f6,f7,f8,f9,f10,f11,f12,f13,f14,ft⟩:=HS.out _ (Turned.join (by first|exact ft|exact et) tg2)
         obtain⟨vg2,rfl⟩:=yg2.shape
         clear yg2 tg2))
    |(go_at_call 94
      first
       |(with_reducible refine (red_any (g1.out) (g2.out) (z1,z2,z3)).mono ?_
         rintro e wa ⟨zg3,rfl,yg3,tg3⟩
         have g3:=xhd yg3
         obtain⟨f0,f1,f2,f3,f4,f5,f6,f7,f8,f9,f10,f11,f12,f13,f14,ft⟩:=HS.out _ (Turned.join (by first|exact ft|exact et) tg3)
         have G:=xhd (And.intro yg3 (HT.out.join ft))
         obtain⟨vg3,rfl⟩:=yg3.shape
         clear yg3 tg3)))
 all_goals
  go_wp2
  go_ret
  exact⟨_,rfl,G.out⟩
theorem balF_any {w:World} {ll:Tr Nat} {lr:Tr Nat} {r:Tr Nat} {y:Itm Nat} {pl pr:Value} (hl:TrAt w (.node true ll y lr) pl) (hr:TrAt w r pr) (x:Itm Nat) (cll:ll.isR=false) (clr:lr.isR=false) (cr:r.isR=false):
  Calls Try.prog 95 #[pl,itV x,pr] w (Makes w (.node false (.node true ll y lr) x r)):=by
 obtain⟨W,hW⟩:∃W,w.alloc (.cells #[.int .u64 x.1, .int .i64 x.2.1, .pointer (some ⟨x.2.2,0,none⟩)] tIt)=W:=⟨_,rfl⟩
 have TW:Turned [] w W:=hW ▸ (Turned.refl [] w).alloc _
 have BW:Bx W w.heap.size x:=hW ▸ bx_new w x
 have Rl:=xhd (isRed_is (b:=true) (hl.later TW) rfl)
 have Kl:=xhd (hl.later TW)
 obtain⟨bl,pll,plr,rfl,ml,hll,hlr⟩:=hl
 have Nl:=TW.same ml (by simp)
 have Rll:=xhd (isRed_is (hll.later TW) cll)
 have Kll:=xhd (hll.later TW)
 have Rlr:=xhd (isRed_is (hlr.later TW) clr)
 have Klr:=xhd (hlr.later TW)
 have Rr:=xhd (isRed_is (hr.later TW) cr)
 have Kr:=xhd (hr.later TW)
 obtain⟨all,rfl⟩:=hll.shape
 obtain⟨alr,rfl⟩:=hlr.shape
 obtain⟨ar,rfl⟩:=hr.shape
 have HS:Hid (∀w',Turned [] W w'→w'.cell? ⟨w.heap.size,0,none⟩=some (.int .u64 x.1)∧w'.cell? ⟨w.heap.size,1,none⟩=some (.int .i64 x.2.1)∧w'.cell? ⟨w.heap.size,2,none⟩=some (.pointer (some ⟨x.2.2,0,none⟩))∧w'.cell? ⟨bl,0,none⟩=some (.int .u64 y.1)∧w'.cell? ⟨bl,1,none⟩=some (.int .i64 y.2.1)∧w'.cell? ⟨bl,2,none⟩=some (.pointer (some ⟨y.2.2,0,none⟩))∧w'.cell? ⟨bl,3,none⟩=some (.bool true)∧w'.cell? ⟨bl,4,none⟩=some (.pointer all)∧w'.cell? ⟨bl,5,none⟩=some (.pointer alr)∧Turned [] W w'):=by
  intro w' ht
  obtain⟨x0,x1,x2⟩:=bx_cells (ht.same BW (by simp))
  obtain⟨lq0,lq1,lq2,lq3,lq4,lq5⟩:=nd_cells (ht.same Nl (by simp))
  exact⟨x0,x1,x2,lq0,lq1,lq2,lq3,lq4,lq5,ht⟩
 have HT:=xhd TW
 obtain⟨x1,x2,x3⟩:=x
 obtain⟨y1,y2,y3⟩:=y
 simp only [itV] at hW HS ⊢
 clear TW BW ml Nl hll hlr hr cll clr cr
 obtain⟨d0,d1,d2,d3,d4,d5,d6,d7,d8,dt⟩:=HS.out _ (Turned.refl [] W)
 go_enter Try.func95,Try.ntmps95
 repeat (go_wp2_with fail;first|(with_reducible refine Rl.out.mono ?_;rintro e w1 ⟨rfl,rfl⟩) |(with_reducible refine Rll.out.mono ?_;rintro e w1 ⟨rfl,rfl⟩) |(with_reducible refine Rlr.out.mono ?_;rintro e w1 ⟨rfl,rfl⟩) |(with_reducible refine Rr.out.mono ?_;rintro e w1 ⟨rfl,rfl⟩))
 go_wp2_with fail
 with_reducible refine (black_any (Kl.out.later dt) (Kr.out.later dt) (x1,x2,x3)).mono ?_
 rintro e wa ⟨q,rfl,hq,tq⟩
 have G:=xhd (And.intro hq (HT.out.join tq))
 obtain⟨aq,rfl⟩:=hq.shape
 clear hq tq
 go_wp2
 go_ret
 exact⟨_,rfl,G.out⟩
theorem balG_any {w:World} {l:Tr Nat} {r:Tr Nat} {pl pr:Value} (hl:TrAt w l pl) (hr:TrAt w r pr) (x:Itm Nat) (cl:l.isR=false) (cr:r.isR=false):
  Calls Try.prog 95 #[pl,itV x,pr] w (Makes w (.node false l x r)):=by
 obtain⟨W,hW⟩:∃W,w.alloc (.cells #[.int .u64 x.1, .int .i64 x.2.1, .pointer (some ⟨x.2.2,0,none⟩)] tIt)=W:=⟨_,rfl⟩
 have TW:Turned [] w W:=hW ▸ (Turned.refl [] w).alloc _
 have BW:Bx W w.heap.size x:=hW ▸ bx_new w x
 have Rl:=xhd (isRed_is (hl.later TW) cl)
 have Kl:=xhd (hl.later TW)
 have Rr:=xhd (isRed_is (hr.later TW) cr)
 have Kr:=xhd (hr.later TW)
 obtain⟨al,rfl⟩:=hl.shape
 obtain⟨ar,rfl⟩:=hr.shape
 have HS:Hid (∀w',Turned [] W w'→w'.cell? ⟨w.heap.size,0,none⟩=some (.int .u64 x.1)∧w'.cell? ⟨w.heap.size,1,none⟩=some (.int .i64 x.2.1)∧w'.cell? ⟨w.heap.size,2,none⟩=some (.pointer (some ⟨x.2.2,0,none⟩))∧Turned [] W w'):=by
  intro w' ht
  obtain⟨x0,x1,x2⟩:=bx_cells (ht.same BW (by simp))
  exact⟨x0,x1,x2,ht⟩
 have HT:=xhd TW
 obtain⟨x1,x2,x3⟩:=x
 simp only [itV] at hW HS ⊢
 clear TW BW hl hr cl cr
 obtain⟨d0,d1,d2,dt⟩:=HS.out _ (Turned.refl [] W)
 go_enter Try.func95,Try.ntmps95
 repeat (go_wp2_with fail;first|(with_reducible refine Rl.out.mono ?_;rintro e w1 ⟨rfl,rfl⟩) |(with_reducible refine Rr.out.mono ?_;rintro e w1 ⟨rfl,rfl⟩))
 go_wp2_with fail
 with_reducible refine (black_any (Kl.out.later dt) (Kr.out.later dt) (x1,x2,x3)).mono ?_
 rintro e wa ⟨q,rfl,hq,tq⟩
 have G:=xhd (And.intro hq (HT.out.join tq))
 obtain⟨aq,rfl⟩:=hq.shape
 clear hq tq
 go_wp2
 go_ret
 exact⟨_,rfl,G.out⟩
theorem balH_any {w:World} {l:Tr Nat} {rl:Tr Nat} {rr:Tr Nat} {y:Itm Nat} {pl pr:Value} (hl:TrAt w l pl) (hr:TrAt w (.node true rl y rr) pr) (x:Itm Nat) (cl:l.isR=false) (crl:rl.isR=false) (crr:rr.isR=false):
  Calls Try.prog 95 #[pl,itV x,pr] w (Makes w (.node false l x (.node true rl y rr))):=by
 obtain⟨W,hW⟩:∃W,w.alloc (.cells #[.int .u64 x.1, .int .i64 x.2.1, .pointer (some ⟨x.2.2,0,none⟩)] tIt)=W:=⟨_,rfl⟩
 have TW:Turned [] w W:=hW ▸ (Turned.refl [] w).alloc _
 have BW:Bx W w.heap.size x:=hW ▸ bx_new w x
 have Rl:=xhd (isRed_is (hl.later TW) cl)
 have Kl:=xhd (hl.later TW)
 have Rr:=xhd (isRed_is (b:=true) (hr.later TW) rfl)
 have Kr:=xhd (hr.later TW)
 obtain⟨br,prl,prr,rfl,mr,hrl,hrr⟩:=hr
 have Nr:=TW.same mr (by simp)
 have Rrl:=xhd (isRed_is (hrl.later TW) crl)
 have Krl:=xhd (hrl.later TW)
 have Rrr:=xhd (isRed_is (hrr.later TW) crr)
 have Krr:=xhd (hrr.later TW)
 obtain⟨al,rfl⟩:=hl.shape
 obtain⟨arl,rfl⟩:=hrl.shape
 obtain⟨arr,rfl⟩:=hrr.shape
 have HS:Hid (∀w',Turned [] W w'→w'.cell? ⟨w.heap.size,0,none⟩=some (.int .u64 x.1)∧w'.cell? ⟨w.heap.size,1,none⟩=some (.int .i64 x.2.1)∧w'.cell? ⟨w.heap.size,2,none⟩=some (.pointer (some ⟨x.2.2,0,none⟩))∧w'.cell? ⟨br,0,none⟩=some (.int .u64 y.1)∧w'.cell? ⟨br,1,none⟩=some (.int .i64 y.2.1)∧w'.cell? ⟨br,2,none⟩=some (.pointer (some ⟨y.2.2,0,none⟩))∧w'.cell? ⟨br,3,none⟩=some (.bool true)∧w'.cell? ⟨br,4,none⟩=some (.pointer arl)∧w'.cell? ⟨br,5,none⟩=some (.pointer arr)∧Turned [] W w'):=by
  intro w' ht
  obtain⟨x0,x1,x2⟩:=bx_cells (ht.same BW (by simp))
  obtain⟨rq0,rq1,rq2,rq3,rq4,rq5⟩:=nd_cells (ht.same Nr (by simp))
  exact⟨x0,x1,x2,rq0,rq1,rq2,rq3,rq4,rq5,ht⟩
 have HT:=xhd TW
 obtain⟨x1,x2,x3⟩:=x
 obtain⟨y1,y2,y3⟩:=y
 simp only [itV] at hW HS ⊢
 clear TW BW mr Nr hl hrl hrr cl crl crr
 obtain⟨d0,d1,d2,d3,d4,d5,d6,d7,d8,dt⟩:=HS.out _ (Turned.refl [] W)
 go_enter Try.func95,Try.ntmps95
 repeat (go_wp2_with fail;first|(with_reducible refine Rl.out.mono ?_;rintro e w1 ⟨rfl,rfl⟩) |(with_reducible refine Rr.out.mono ?_;rintro e w1 ⟨rfl,rfl⟩) |(with_reducible refine Rrl.out.mono ?_;rintro e w1 ⟨rfl,rfl⟩) |(with_reducible refine Rrr.out.mono ?_;rintro e w1 ⟨rfl,rfl⟩))
 go_wp2_with fail
 with_reducible refine (black_any (Kl.out.later dt) (Kr.out.later dt) (x1,x2,x3)).mono ?_
 rintro e wa ⟨q,rfl,hq,tq⟩
 have G:=xhd (And.intro hq (HT.out.join tq))
 obtain⟨aq,rfl⟩:=hq.shape
 clear hq tq
 go_wp2
 go_ret
 exact⟨_,rfl,G.out⟩
theorem red_node {t:Tr Nat} (h:t.isR=true):∃a x b,t= .node true a x b:=by
 cases t with
 |nil=>simp [Tr.isR] at h
 |node c a x b=>cases c;simp [Tr.isR] at h;exact⟨a,x,b,rfl⟩
theorem not_red {t:Tr Nat} (h:t.isR=false):t= .nil∨∃a x b,t= .node false a x b:=by
 cases t with
 |nil=>exact .inl rfl
 |node c a x b=>cases c;exact .inr ⟨a,x,b,rfl⟩;simp [Tr.isR] at h
theorem bal_A {l r:Tr Nat} {x:Itm Nat} (h:l.isR=true) (g:r.isR=true):l.bal x r= .node true l.root x r.root:=by
 obtain⟨a,y,b,rfl⟩:=red_node h
 obtain⟨c,z,d,rfl⟩:=red_node g
 rfl
theorem bal_B {ll lr r:Tr Nat} {x y:Itm Nat} (h:ll.isR=true) (g:r.isR=false):(Tr.node true ll y lr).bal x r= .node true ll.root y (.node false lr x r):=by
 obtain⟨a,z,b,rfl⟩:=red_node h
 rcases not_red g with rfl|⟨c,u,d,rfl⟩<;>rfl
theorem bal_C {ll a b r:Tr Nat} {x y z:Itm Nat} (h:ll.isR=false) (g:r.isR=false):(Tr.node true ll y (.node true a z b)).bal x r= .node true (.node false ll y a) z (.node false b x r):=by
 rcases not_red h with rfl|⟨p,v,q,rfl⟩<;>rcases not_red g with rfl|⟨c,u,d,rfl⟩<;>rfl
theorem bal_D {l rl rr:Tr Nat} {x y:Itm Nat} (h:l.isR=false) (g:rr.isR=true):l.bal x (Tr.node true rl y rr)= .node true (.node false l x rl) y rr.root:=by
 obtain⟨a,z,b,rfl⟩:=red_node g
 rcases not_red h with rfl|⟨c,u,d,rfl⟩<;>rfl
theorem bal_E {l a b rr:Tr Nat} {x y z:Itm Nat} (h:l.isR=false) (g:rr.isR=false):l.bal x (Tr.node true (.node true a z b) y rr)= .node true (.node false l x a) z (.node false b y rr):=by
 rcases not_red h with rfl|⟨p,v,q,rfl⟩<;>rcases not_red g with rfl|⟨c,u,d,rfl⟩<;>rfl
theorem bal_F {ll lr r:Tr Nat} {x y:Itm Nat} (h:ll.isR=false) (k:lr.isR=false) (g:r.isR=false):(Tr.node true ll y lr).bal x r= .node false (.node true ll y lr) x r:=by
 rcases not_red h with rfl|⟨p,v,q,rfl⟩<;>rcases not_red k with rfl|⟨p',v',q',rfl⟩<;>rcases not_red g with rfl|⟨c,u,d,rfl⟩<;>rfl
theorem bal_G {l r:Tr Nat} {x:Itm Nat} (h:l.isR=false) (g:r.isR=false):l.bal x r= .node false l x r:=by
 rcases not_red h with rfl|⟨p,v,q,rfl⟩<;>rcases not_red g with rfl|⟨c,u,d,rfl⟩<;>rfl
theorem bal_H {l rl rr:Tr Nat} {x y:Itm Nat} (h:l.isR=false) (k:rl.isR=false) (g:rr.isR=false):l.bal x (Tr.node true rl y rr)= .node false l x (.node true rl y rr):=by
 rcases not_red h with rfl|⟨p,v,q,rfl⟩<;>rcases not_red k with rfl|⟨p',v',q',rfl⟩<;>rcases not_red g with rfl|⟨c,u,d,rfl⟩<;>rfl
theorem bal_any {w:World} {l r:Tr Nat} {pl pr:Value} (hl:TrAt w l pl) (hr:TrAt w r pr) (x:Itm Nat):
  Calls Try.prog 95 #[pl,itV x,pr] w (Makes w (l.bal x r)):=by
 by_cases h:l.isR=true
 ·by_cases g:r.isR=true
  ·rw [bal_A h g]
   exact balA_any hl hr x h g
  ·have g':r.isR=false:=by simpa using g
   obtain⟨ll,y,lr,rfl⟩:=red_node h
   by_cases hll:ll.isR=true
   ·rw [bal_B hll g']
    exact balB_any hl hr x hll g'
   ·have hll':ll.isR=false:=by simpa using hll
    by_cases hlr:lr.isR=true
    ·obtain⟨a,z,b,rfl⟩:=red_node hlr
     rw [bal_C hll' g']
     exact balC_any hl hr x hll' g'
    ·have hlr':lr.isR=false:=by simpa using hlr
     rw [bal_F hll' hlr' g']
     exact balF_any hl hr x hll' hlr' g'
 ·have h':l.isR=false:=by simpa using h
  by_cases g:r.isR=true
  ·obtain⟨rl,y,rr,rfl⟩:=red_node g
   by_cases hrr:rr.isR=true
   ·rw [bal_D h' hrr]
    exact balD_any hl hr x h' hrr
   ·have hrr':rr.isR=false:=by simpa using hrr
    by_cases hrl:rl.isR=true
    ·obtain⟨a,z,b,rfl⟩:=red_node hrl
     rw [bal_E h' hrr']
     exact balE_any hl hr x h' hrr'
    ·have hrl':rl.isR=false:=by simpa using hrl
     rw [bal_H h' hrl' hrr']
     exact balH_any hl hr x h' hrl' hrr'
  ·have g':r.isR=false:=by simpa using g
   rw [bal_G h' g']
   exact balG_any hl hr x h' g'
theorem lshA_any {w:World} {l:Tr Nat} {r:Tr Nat} {pl pr:Value} (hl:TrAt w l pl) (hr:TrAt w r pr) (x:Itm Nat) (cl:l.isR=true):
  Calls Try.prog 98 #[pl,itV x,pr] w (Makes w (.node true l.root x r)):=by
 obtain⟨W,hW⟩:∃W,w.alloc (.cells #[.int .u64 x.1, .int .i64 x.2.1, .pointer (some ⟨x.2.2,0,none⟩)] tIt)=W:=⟨_,rfl⟩
 have TW:Turned [] w W:=hW ▸ (Turned.refl [] w).alloc _
 have BW:Bx W w.heap.size x:=hW ▸ bx_new w x
 have Rl:=xhd (isRed_is (hl.later TW) cl)
 have Kl:=xhd (hl.later TW)
 have Kr:=xhd (hr.later TW)
 obtain⟨al,rfl⟩:=hl.shape
 obtain⟨ar,rfl⟩:=hr.shape
 have HS:Hid (∀w',Turned [] W w'→w'.cell? ⟨w.heap.size,0,none⟩=some (.int .u64 x.1)∧w'.cell? ⟨w.heap.size,1,none⟩=some (.int .i64 x.2.1)∧w'.cell? ⟨w.heap.size,2,none⟩=some (.pointer (some ⟨x.2.2,0,none⟩))∧Turned [] W w'):=by
  intro w' ht
  obtain⟨x0,x1,x2⟩:=bx_cells (ht.same BW (by simp))
  exact⟨x0,x1,x2,ht⟩
 have HT:=xhd TW
 obtain⟨x1,x2,x3⟩:=x
 simp only [itV] at hW HS ⊢
 clear TW BW hl hr cl
 obtain⟨d0,d1,d2,dt⟩:=HS.out _ (Turned.refl [] W)
 go_enter Try.func98,Try.ntmps98
 repeat (go_wp2_with fail;first|(with_reducible refine Rl.out.mono ?_;rintro e w1 ⟨rfl,rfl⟩))
 go_wp2_with fail
 obtain⟨e0,e1,e2,et⟩:=HS.out _ (Turned.refl [] W).drew
 go_region_held3 (fun w'=>w'.cell? ⟨w.heap.size,0,none⟩=some (.int .u64 x1)∧w'.cell? ⟨w.heap.size,1,none⟩=some (.int .i64 x2)∧w'.cell? ⟨w.heap.size,2,none⟩=some (.pointer (some ⟨x3,0,none⟩))∧Turned [] W w')
  (first|exact⟨f0,f1,f2,ft⟩ |exact⟨e0,e1,e2,et⟩)
  (first
    |(go_at_call 82
      first
       |(with_reducible refine (asRoot_any (Kl.out.later (by first|exact ft|exact et))).mono ?_
         rintro e wa ⟨zg1,rfl,yg1,tg1⟩
         have g1:=xhd yg1
         try have g2:=xhd (g2.out.later tg1)
         obtain⟨f0,f1,f2,ft⟩:=HS.out _ (Turned.join (by first|exact ft|exact et) tg1)
         obtain⟨vg1,rfl⟩:=yg1.shape
         clear yg1 tg1))
    |(go_at_call 94
      first
       |(with_reducible refine (red_any (g1.out) (Kr.out.later (by first|exact ft|exact et)) (x1,x2,x3)).mono ?_
         rintro e wa ⟨zg2,rfl,yg2,tg2⟩
         have g2:=xhd yg2
         obtain⟨f0,f1,f2,ft⟩:=HS.out _ (Turned.join (by first|exact ft|exact et) tg2)
         have G:=xhd (And.intro yg2 (HT.out.join ft))
         obtain⟨vg2,rfl⟩:=yg2.shape
         clear yg2 tg2)))
 all_goals
  go_wp2
  go_ret
  exact⟨_,rfl,G.out⟩
theorem lshB_any {w:World} {l:Tr Nat} {rl:Tr Nat} {rr:Tr Nat} {y:Itm Nat} {pl pr:Value} (hl:TrAt w l pl) (hr:TrAt w (.node false rl y rr) pr) (x:Itm Nat) (cl:l.isR=false):
  Calls Try.prog 98 #[pl,itV x,pr] w (Makes w (l.bal x (.node true rl y rr))):=by
 obtain⟨W,hW⟩:∃W,w.alloc (.cells #[.int .u64 x.1, .int .i64 x.2.1, .pointer (some ⟨x.2.2,0,none⟩)] tIt)=W:=⟨_,rfl⟩
 have TW:Turned [] w W:=hW ▸ (Turned.refl [] w).alloc _
 have BW:Bx W w.heap.size x:=hW ▸ bx_new w x
 have Rl:=xhd (isRed_is (hl.later TW) cl)
 have Kl:=xhd (hl.later TW)
 have Rr:=xhd (isRed_is (b:=false) (hr.later TW) rfl)
 have Br:=xhd (isBlack_is (b:=true) (hr.later TW) rfl)
 have Kr:=xhd (hr.later TW)
 obtain⟨br,prl,prr,rfl,mr,hrl,hrr⟩:=hr
 have Nr:=TW.same mr (by simp)
 have Krl:=xhd (hrl.later TW)
 have Krr:=xhd (hrr.later TW)
 obtain⟨al,rfl⟩:=hl.shape
 obtain⟨arl,rfl⟩:=hrl.shape
 obtain⟨arr,rfl⟩:=hrr.shape
 have HS:Hid (∀w',Turned [] W w'→w'.cell? ⟨w.heap.size,0,none⟩=some (.int .u64 x.1)∧w'.cell? ⟨w.heap.size,1,none⟩=some (.int .i64 x.2.1)∧w'.cell? ⟨w.heap.size,2,none⟩=some (.pointer (some ⟨x.2.2,0,none⟩))∧w'.cell? ⟨br,0,none⟩=some (.int .u64 y.1)∧w'.cell? ⟨br,1,none⟩=some (.int .i64 y.2.1)∧w'.cell? ⟨br,2,none⟩=some (.pointer (some ⟨y.2.2,0,none⟩))∧w'.cell? ⟨br,3,none⟩=some (.bool false)∧w'.cell? ⟨br,4,none⟩=some (.pointer arl)∧w'.cell? ⟨br,5,none⟩=some (.pointer arr)∧Turned [] W w'):=by
  intro w' ht
  obtain⟨x0,x1,x2⟩:=bx_cells (ht.same BW (by simp))
  obtain⟨rq0,rq1,rq2,rq3,rq4,rq5⟩:=nd_cells (ht.same Nr (by simp))
  exact⟨x0,x1,x2,rq0,rq1,rq2,rq3,rq4,rq5,ht⟩
 have HT:=xhd TW
 obtain⟨x1,x2,x3⟩:=x
 obtain⟨y1,y2,y3⟩:=y
 simp only [itV] at hW HS ⊢
 clear TW BW mr Nr hl hrl hrr cl
 obtain⟨d0,d1,d2,d3,d4,d5,d6,d7,d8,dt⟩:=HS.out _ (Turned.refl [] W)
 go_enter Try.func98,Try.ntmps98
 repeat (go_wp2_with fail;first|(with_reducible refine Rl.out.mono ?_;rintro e w1 ⟨rfl,rfl⟩) |(with_reducible refine Rr.out.mono ?_;rintro e w1 ⟨rfl,rfl⟩) |(with_reducible refine Br.out.mono ?_;rintro e w1 ⟨rfl,rfl⟩))
 go_wp2_with fail
 obtain⟨e0,e1,e2,e3,e4,e5,e6,e7,e8,et⟩:=HS.out _ (Turned.refl [] W).drew
 go_region_held3 (fun w'=>w'.cell? ⟨w.heap.size,0,none⟩=some (.int .u64 x1)∧w'.cell? ⟨w.heap.size,1,none⟩=some (.int .i64 x2)∧w'.cell? ⟨w.heap.size,2,none⟩=some (.pointer (some ⟨x3,0,none⟩))∧w'.cell? ⟨br,0,none⟩=some (.int .u64 y1)∧w'.cell? ⟨br,1,none⟩=some (.int .i64 y2)∧w'.cell? ⟨br,2,none⟩=some (.pointer (some ⟨y3,0,none⟩))∧w'.cell? ⟨br,3,none⟩=some (.bool false)∧w'.cell? ⟨br,4,none⟩=some (.pointer arl)∧w'.cell? ⟨br,5,none⟩=some (.pointer arr)∧Turned [] W w')
  (first|exact⟨f0,f1,f2,f3,f4,f5,f6,f7,f8,ft⟩ |exact⟨e0,e1,e2,e3,e4,e5,e6,e7,e8,et⟩)
  (first
    |(go_at_call 104
      first
       |(with_reducible refine (reddened_any (Kr.out.later (by first|exact ft|exact et))).mono ?_
         rintro e wa ⟨zg1,rfl,yg1,tg1⟩
         have g1:=xhd yg1
         try have g2:=xhd (g2.out.later tg1)
         obtain⟨f0,f1,f2,f3,f4,f5,f6,f7,f8,ft⟩:=HS.out _ (Turned.join (by first|exact ft|exact et) tg1)
         obtain⟨vg1,rfl⟩:=yg1.shape
         clear yg1 tg1))
    |(go_at_call 95
      first
       |(with_reducible refine (bal_any (Kl.out.later (by first|exact ft|exact et)) (g1.out) (x1,x2,x3)).mono ?_
         rintro e wa ⟨zg2,rfl,yg2,tg2⟩
         have g2:=xhd yg2
         obtain⟨f0,f1,f2,f3,f4,f5,f6,f7,f8,ft⟩:=HS.out _ (Turned.join (by first|exact ft|exact et) tg2)
         have G:=xhd (And.intro yg2 (HT.out.join ft))
         obtain⟨vg2,rfl⟩:=yg2.shape
         clear yg2 tg2)))
 all_goals
  go_wp2
  go_ret
  exact⟨_,rfl,G.out⟩
theorem lshC_any {w:World} {l:Tr Nat} {ma:Tr Nat} {mb:Tr Nat} {da:Tr Nat} {db:Tr Nat} {y:Itm Nat} {z:Itm Nat} {u:Itm Nat} {cm:Bool} {cd:Bool} {pl pr:Value} (hl:TrAt w l pl) (hr:TrAt w (.node true (.node cm ma z mb) y (.node cd da u db)) pr) (x:Itm Nat) (cl:l.isR=false):
  Calls Try.prog 98 #[pl,itV x,pr] w (Makes w (.node true (.node false l x ma) z (mb.bal y (.node true da u db)))):=by
 obtain⟨W,hW⟩:∃W,w.alloc (.cells #[.int .u64 x.1, .int .i64 x.2.1, .pointer (some ⟨x.2.2,0,none⟩)] tIt)=W:=⟨_,rfl⟩
 have TW:Turned [] w W:=hW ▸ (Turned.refl [] w).alloc _
 have BW:Bx W w.heap.size x:=hW ▸ bx_new w x
 have Rl:=xhd (isRed_is (hl.later TW) cl)
 have Kl:=xhd (hl.later TW)
 have Rr:=xhd (isRed_is (b:=true) (hr.later TW) rfl)
 have Br:=xhd (isBlack_is (b:=false) (hr.later TW) rfl)
 have Kr:=xhd (hr.later TW)
 obtain⟨br,pm,pd,rfl,mr,hm,hd⟩:=hr
 have Nr:=TW.same mr (by simp)
 have Km:=xhd (hm.later TW)
 obtain⟨bm,pma,pmb,rfl,mm,hma,hmb⟩:=hm
 have Nm:=TW.same mm (by simp)
 have Kma:=xhd (hma.later TW)
 have Kmb:=xhd (hmb.later TW)
 have Kd:=xhd (hd.later TW)
 obtain⟨bd,pda,pdb,rfl,md,hda,hdb⟩:=hd
 have Nd:=TW.same md (by simp)
 have Kda:=xhd (hda.later TW)
 have Kdb:=xhd (hdb.later TW)
 obtain⟨al,rfl⟩:=hl.shape
 obtain⟨ama,rfl⟩:=hma.shape
 obtain⟨amb,rfl⟩:=hmb.shape
 obtain⟨ada,rfl⟩:=hda.shape
 obtain⟨adb,rfl⟩:=hdb.shape
 have HS:Hid (∀w',Turned [] W w'→w'.cell? ⟨w.heap.size,0,none⟩=some (.int .u64 x.1)∧w'.cell? ⟨w.heap.size,1,none⟩=some (.int .i64 x.2.1)∧w'.cell? ⟨w.heap.size,2,none⟩=some (.pointer (some ⟨x.2.2,0,none⟩))∧w'.cell? ⟨br,0,none⟩=some (.int .u64 y.1)∧w'.cell? ⟨br,1,none⟩=some (.int .i64 y.2.1)∧w'.cell? ⟨br,2,none⟩=some (.pointer (some ⟨y.2.2,0,none⟩))∧w'.cell? ⟨br,3,none⟩=some (.bool true)∧w'.cell? ⟨br,4,none⟩=some (.pointer (some ⟨bm,0,none⟩))∧w'.cell? ⟨br,5,none⟩=some (.pointer (some ⟨bd,0,none⟩))∧w'.cell? ⟨bm,0,none⟩=some (.int .u64 z.1)∧w'.cell? ⟨bm,1,none⟩=some (.int .i64 z.2.1)∧w'.cell? ⟨bm,2,none⟩=some (.pointer (some ⟨z.2.2,0,none⟩))∧w'.cell? ⟨bm,3,none⟩=some (.bool cm)∧w'.cell? ⟨bm,4,none⟩=some (.pointer ama)∧w'.cell? ⟨bm,5,none⟩=some (.pointer amb)∧w'.cell? ⟨bd,0,none⟩=some (.int .u64 u.1)∧w'.cell? ⟨bd,1,none⟩=some (.int .i64 u.2.1)∧w'.cell? ⟨bd,2,none⟩=some (.pointer (some ⟨u.2.2,0,none⟩))∧w'.cell? ⟨bd,3,none⟩=some (.bool cd)∧w'.cell? ⟨bd,4,none⟩=some (.pointer ada)∧w'.cell? ⟨bd,5,none⟩=some (.pointer adb)∧Turned [] W w'):=by
  intro w' ht
  obtain⟨x0,x1,x2⟩:=bx_cells (ht.same BW (by simp))
  obtain⟨rq0,rq1,rq2,rq3,rq4,rq5⟩:=nd_cells (ht.same Nr (by simp))
  obtain⟨mq0,mq1,mq2,mq3,mq4,mq5⟩:=nd_cells (ht.same Nm (by simp))
  obtain⟨dq0,dq1,dq2,dq3,dq4,dq5⟩:=nd_cells (ht.same Nd (by simp))
  exact⟨x0,x1,x2,rq0,rq1,rq2,rq3,rq4,rq5,mq0,mq1,mq2,mq3,mq4,mq5,dq0,dq1,dq2,dq3,dq4,dq5,ht⟩
 have HT:=xhd TW
 obtain⟨x1,x2,x3⟩:=x
 obtain⟨y1,y2,y3⟩:=y
 obtain⟨z1,z2,z3⟩:=z
 obtain⟨u1,u2,u3⟩:=u
 simp only [itV] at hW HS ⊢
 clear TW BW mr mm md Nr Nm Nd hl hma hmb hda hdb cl
 obtain⟨d0,d1,d2,d3,d4,d5,d6,d7,d8,d9,d10,d11,d12,d13,d14,d15,d16,d17,d18,d19,d20,dt⟩:=HS.out _ (Turned.refl [] W)
 go_enter Try.func98,Try.ntmps98
 repeat (go_wp2_with fail;first|(with_reducible refine Rl.out.mono ?_;rintro e w1 ⟨rfl,rfl⟩) |(with_reducible refine Rr.out.mono ?_;rintro e w1 ⟨rfl,rfl⟩) |(with_reducible refine Br.out.mono ?_;rintro e w1 ⟨rfl,rfl⟩))
 go_wp2_with fail
 obtain⟨e0,e1,e2,e3,e4,e5,e6,e7,e8,e9,e10,e11,e12,e13,e14,e15,e16,e17,e18,e19,e20,et⟩:=HS.out _ (Turned.refl [] W).drew
 go_region_held3 (fun w'=>w'.cell? ⟨w.heap.size,0,none⟩=some (.int .u64 x1)∧w'.cell? ⟨w.heap.size,1,none⟩=some (.int .i64 x2)∧w'.cell? ⟨w.heap.size,2,none⟩=some (.pointer (some ⟨x3,0,none⟩))∧w'.cell? ⟨br,0,none⟩=some (.int .u64 y1)∧w'.cell? ⟨br,1,none⟩=some (.int .i64 y2)∧w'.cell? ⟨br,2,none⟩=some (.pointer (some ⟨y3,0,none⟩))∧w'.cell? ⟨br,3,none⟩=some (.bool true)∧w'.cell? ⟨br,4,none⟩=some (.pointer (some ⟨bm,0,none⟩))∧w'.cell? ⟨br,5,none⟩=some (.pointer (some ⟨bd,0,none⟩))∧w'.cell? ⟨bm,0,none⟩=some (.int .u64 z1)∧w'.cell? ⟨bm,1,none⟩=some (.int .i64 z2)∧w'.cell? ⟨bm,2,none⟩=some (.pointer (some ⟨z3,0,none⟩))∧w'.cell? ⟨bm,3,none⟩=some (.bool cm)∧w'.cell? ⟨bm,4,none⟩=some (.pointer ama)∧w'.cell? ⟨bm,5,none⟩=some (.pointer amb)∧w'.cell? ⟨bd,0,none⟩=some (.int .u64 u1)∧w'.cell? ⟨bd,1,none⟩=some (.int .i64 u2)∧w'.cell? ⟨bd,2,none⟩=some (.pointer (some ⟨u3,0,none⟩))∧w'.cell? ⟨bd,3,none⟩=some (.bool cd)∧w'.cell? ⟨bd,4,none⟩=some (.pointer ada)∧w'.cell? ⟨bd,5,none⟩=some (.pointer adb)∧Turned [] W w')
  (first|exact⟨f0,f1,f2,f3,f4,f5,f6,f7,f8,f9,f10,f11,f12,f13,f14,f15,f16,f17,f18,f19,f20,ft⟩ |exact⟨e0,e1,e2,e3,e4,e5,e6,e7,e8,e9,e10,e11,e12,e13,e14,e15,e16,e17,e18,e19,e20,et⟩)
  (first
    |(go_at_call 97
      first
       |(with_reducible refine (black_any (Kl.out.later (by first|exact ft|exact et)) (Kma.out.later (by first|exact ft|exact et)) (x1,x2,x3)).mono ?_
         rintro e wa ⟨zg1,rfl,yg1,tg1⟩
         have g1:=xhd yg1
         try have g2:=xhd (g2.out.later tg1)
         try have g3:=xhd (g3.out.later tg1)
         try have g4:=xhd (g4.out.later tg1)
         obtain⟨f0,f1,f2,f3,f4,f5,f6,f7,f8,f9,f10,f11,f12,f13,f14,f15,f16,f17,f18,f19,f20,ft⟩:=HS.out _ (Turned.join (by first|exact ft|exact et) tg1)
         obtain⟨vg1,rfl⟩:=yg1.shape
         clear yg1 tg1))
    |(go_at_call 104
      first
       |(with_reducible refine (reddened_any (Kd.out.later (by first|exact ft|exact et))).mono ?_
         rintro e wa ⟨zg2,rfl,yg2,tg2⟩
         have g2:=xhd yg2
         try have g1:=xhd (g1.out.later tg2)
         try have g3:=xhd (g3.out.later tg2)
         try have g4:=xhd (g4.out.later tg2)
         obtain⟨f0,f1,f2,f3,f4,f5,f6,f7,f8,f9,f10,f11,f12,f13,f14,f15,f16,f17,f18,f19,f20,ft⟩:=HS.out _ (Turned.join (by first|exact ft|exact et) tg2)
         obtain⟨vg2,rfl⟩:=yg2.shape
         clear yg2 tg2))
    |(go_at_call 95
      first
       |(with_reducible refine (bal_any (Kmb.out.later (by first|exact ft|exact et)) (g2.out) (y1,y2,y3)).mono ?_
         rintro e wa ⟨zg3,rfl,yg3,tg3⟩
         have g3:=xhd yg3
         try have g1:=xhd (g1.out.later tg3)
         try have g2:=xhd (g2.out.later tg3)
         try have g4:=xhd (g4.out.later tg3)
         obtain⟨f0,f1,f2,f3,f4,f5,f6,f7,f8,f9,f10,f11,f12,f13,f14,f15,f16,f17,f18,f19,f20,ft⟩:=HS.out _ (Turned.join (by first|exact ft|exact et) tg3)
         obtain⟨vg3,rfl⟩:=yg3.shape
         clear yg3 tg3))
    |(go_at_call 94
      first
       |(with_reducible refine (red_any (g1.out) (g3.out) (z1,z2,z3)).mono ?_
         rintro e wa ⟨zg4,rfl,yg4,tg4⟩
         have g4:=xhd yg4
         obtain⟨f0,f1,f2,f3,f4,f5,f6,f7,f8,f9,f10,f11,f12,f13,f14,f15,f16,f17,f18,f19,f20,ft⟩:=HS.out _ (Turned.join (by first|exact ft|exact et) tg4)
         have G:=xhd (And.intro yg4 (HT.out.join ft))
         obtain⟨vg4,rfl⟩:=yg4.shape
         clear yg4 tg4)))
 all_goals
  go_wp2
  go_ret
  exact⟨_,rfl,G.out⟩
theorem rshA_any {w:World} {l:Tr Nat} {r:Tr Nat} {pl pr:Value} (hl:TrAt w l pl) (hr:TrAt w r pr) (x:Itm Nat) (cr:r.isR=true):
  Calls Try.prog 99 #[pl,itV x,pr] w (Makes w (.node true l x r.root)):=by
 obtain⟨W,hW⟩:∃W,w.alloc (.cells #[.int .u64 x.1, .int .i64 x.2.1, .pointer (some ⟨x.2.2,0,none⟩)] tIt)=W:=⟨_,rfl⟩
 have TW:Turned [] w W:=hW ▸ (Turned.refl [] w).alloc _
 have BW:Bx W w.heap.size x:=hW ▸ bx_new w x
 have Kl:=xhd (hl.later TW)
 have Rr:=xhd (isRed_is (hr.later TW) cr)
 have Kr:=xhd (hr.later TW)
 obtain⟨al,rfl⟩:=hl.shape
 obtain⟨ar,rfl⟩:=hr.shape
 have HS:Hid (∀w',Turned [] W w'→w'.cell? ⟨w.heap.size,0,none⟩=some (.int .u64 x.1)∧w'.cell? ⟨w.heap.size,1,none⟩=some (.int .i64 x.2.1)∧w'.cell? ⟨w.heap.size,2,none⟩=some (.pointer (some ⟨x.2.2,0,none⟩))∧Turned [] W w'):=by
  intro w' ht
  obtain⟨x0,x1,x2⟩:=bx_cells (ht.same BW (by simp))
  exact⟨x0,x1,x2,ht⟩
 have HT:=xhd TW
 obtain⟨x1,x2,x3⟩:=x
 simp only [itV] at hW HS ⊢
 clear TW BW hl hr cr
 obtain⟨d0,d1,d2,dt⟩:=HS.out _ (Turned.refl [] W)
 go_enter Try.func99,Try.ntmps99
 repeat (go_wp2_with fail;first|(with_reducible refine Rr.out.mono ?_;rintro e w1 ⟨rfl,rfl⟩))
 go_wp2_with fail
 obtain⟨e0,e1,e2,et⟩:=HS.out _ (Turned.refl [] W).drew
 go_region_held3 (fun w'=>w'.cell? ⟨w.heap.size,0,none⟩=some (.int .u64 x1)∧w'.cell? ⟨w.heap.size,1,none⟩=some (.int .i64 x2)∧w'.cell? ⟨w.heap.size,2,none⟩=some (.pointer (some ⟨x3,0,none⟩))∧Turned [] W w')
  (first|exact⟨f0,f1,f2,ft⟩ |exact⟨e0,e1,e2,et⟩)
  (first
    |(go_at_call 82
      first
       |(with_reducible refine (asRoot_any (Kr.out.later (by first|exact ft|exact et))).mono ?_
         rintro e wa ⟨zg1,rfl,yg1,tg1⟩
         have g1:=xhd yg1
         try have g2:=xhd (g2.out.later tg1)
         obtain⟨f0,f1,f2,ft⟩:=HS.out _ (Turned.join (by first|exact ft|exact et) tg1)
         obtain⟨vg1,rfl⟩:=yg1.shape
         clear yg1 tg1))
    |(go_at_call 94
      first
       |(with_reducible refine (red_any (Kl.out.later (by first|exact ft|exact et)) (g1.out) (x1,x2,x3)).mono ?_
         rintro e wa ⟨zg2,rfl,yg2,tg2⟩
         have g2:=xhd yg2
         obtain⟨f0,f1,f2,ft⟩:=HS.out _ (Turned.join (by first|exact ft|exact et) tg2)
         have G:=xhd (And.intro yg2 (HT.out.join ft))
         obtain⟨vg2,rfl⟩:=yg2.shape
         clear yg2 tg2)))
 all_goals
  go_wp2
  go_ret
  exact⟨_,rfl,G.out⟩
theorem rshB_any {w:World} {ll:Tr Nat} {lr:Tr Nat} {r:Tr Nat} {y:Itm Nat} {pl pr:Value} (hl:TrAt w (.node false ll y lr) pl) (hr:TrAt w r pr) (x:Itm Nat) (cr:r.isR=false):
  Calls Try.prog 99 #[pl,itV x,pr] w (Makes w ((Tr.node true ll y lr).bal x r)):=by
 obtain⟨W,hW⟩:∃W,w.alloc (.cells #[.int .u64 x.1, .int .i64 x.2.1, .pointer (some ⟨x.2.2,0,none⟩)] tIt)=W:=⟨_,rfl⟩
 have TW:Turned [] w W:=hW ▸ (Turned.refl [] w).alloc _
 have BW:Bx W w.heap.size x:=hW ▸ bx_new w x
 have Rl:=xhd (isRed_is (b:=false) (hl.later TW) rfl)
 have Bl:=xhd (isBlack_is (b:=true) (hl.later TW) rfl)
 have Kl:=xhd (hl.later TW)
 obtain⟨bl,pll,plr,rfl,ml,hll,hlr⟩:=hl
 have Nl:=TW.same ml (by simp)
 have Kll:=xhd (hll.later TW)
 have Klr:=xhd (hlr.later TW)
 have Rr:=xhd (isRed_is (hr.later TW) cr)
 have Kr:=xhd (hr.later TW)
 obtain⟨all,rfl⟩:=hll.shape
 obtain⟨alr,rfl⟩:=hlr.shape
 obtain⟨ar,rfl⟩:=hr.shape
 have HS:Hid (∀w',Turned [] W w'→w'.cell? ⟨w.heap.size,0,none⟩=some (.int .u64 x.1)∧w'.cell? ⟨w.heap.size,1,none⟩=some (.int .i64 x.2.1)∧w'.cell? ⟨w.heap.size,2,none⟩=some (.pointer (some ⟨x.2.2,0,none⟩))∧w'.cell? ⟨bl,0,none⟩=some (.int .u64 y.1)∧w'.cell? ⟨bl,1,none⟩=some (.int .i64 y.2.1)∧w'.cell? ⟨bl,2,none⟩=some (.pointer (some ⟨y.2.2,0,none⟩))∧w'.cell? ⟨bl,3,none⟩=some (.bool false)∧w'.cell? ⟨bl,4,none⟩=some (.pointer all)∧w'.cell? ⟨bl,5,none⟩=some (.pointer alr)∧Turned [] W w'):=by
  intro w' ht
  obtain⟨x0,x1,x2⟩:=bx_cells (ht.same BW (by simp))
  obtain⟨lq0,lq1,lq2,lq3,lq4,lq5⟩:=nd_cells (ht.same Nl (by simp))
  exact⟨x0,x1,x2,lq0,lq1,lq2,lq3,lq4,lq5,ht⟩
 have HT:=xhd TW
 obtain⟨x1,x2,x3⟩:=x
 obtain⟨y1,y2,y3⟩:=y
 simp only [itV] at hW HS ⊢
 clear TW BW ml Nl hll hlr hr cr
 obtain⟨d0,d1,d2,d3,d4,d5,d6,d7,d8,dt⟩:=HS.out _ (Turned.refl [] W)
 go_enter Try.func99,Try.ntmps99
 repeat (go_wp2_with fail;first|(with_reducible refine Rl.out.mono ?_;rintro e w1 ⟨rfl,rfl⟩) |(with_reducible refine Bl.out.mono ?_;rintro e w1 ⟨rfl,rfl⟩) |(with_reducible refine Rr.out.mono ?_;rintro e w1 ⟨rfl,rfl⟩))
 go_wp2_with fail
 obtain⟨e0,e1,e2,e3,e4,e5,e6,e7,e8,et⟩:=HS.out _ (Turned.refl [] W).drew
 go_region_held3 (fun w'=>w'.cell? ⟨w.heap.size,0,none⟩=some (.int .u64 x1)∧w'.cell? ⟨w.heap.size,1,none⟩=some (.int .i64 x2)∧w'.cell? ⟨w.heap.size,2,none⟩=some (.pointer (some ⟨x3,0,none⟩))∧w'.cell? ⟨bl,0,none⟩=some (.int .u64 y1)∧w'.cell? ⟨bl,1,none⟩=some (.int .i64 y2)∧w'.cell? ⟨bl,2,none⟩=some (.pointer (some ⟨y3,0,none⟩))∧w'.cell? ⟨bl,3,none⟩=some (.bool false)∧w'.cell? ⟨bl,4,none⟩=some (.pointer all)∧w'.cell? ⟨bl,5,none⟩=some (.pointer alr)∧Turned [] W w')
  (first|exact⟨f0,f1,f2,f3,f4,f5,f6,f7,f8,ft⟩ |exact⟨e0,e1,e2,e3,e4,e5,e6,e7,e8,et⟩)
  (first
    |(go_at_call 104
      first
       |(with_reducible refine (reddened_any (Kl.out.later (by first|exact ft|exact et))).mono ?_
         rintro e wa ⟨zg1,rfl,yg1,tg1⟩
         have g1:=xhd yg1
         try have g2:=xhd (g2.out.later tg1)
         obtain⟨f0,f1,f2,f3,f4,f5,f6,f7,f8,ft⟩:=HS.out _ (Turned.join (by first|exact ft|exact et) tg1)
         obtain⟨vg1,rfl⟩:=yg1.shape
         clear yg1 tg1))
    |(go_at_call 95
      first
       |(with_reducible refine (bal_any (g1.out) (Kr.out.later (by first|exact ft|exact et)) (x1,x2,x3)).mono ?_
         rintro e wa ⟨zg2,rfl,yg2,tg2⟩
         have g2:=xhd yg2
         obtain⟨f0,f1,f2,f3,f4,f5,f6,f7,f8,ft⟩:=HS.out _ (Turned.join (by first|exact ft|exact et) tg2)
         have G:=xhd (And.intro yg2 (HT.out.join ft))
         obtain⟨vg2,rfl⟩:=yg2.shape
         clear yg2 tg2)))
 all_goals
  go_wp2
  go_ret
  exact⟨_,rfl,G.out⟩
theorem rshC_any {w:World} {da:Tr Nat} {db:Tr Nat} {ma:Tr Nat} {mb:Tr Nat} {r:Tr Nat} {y:Itm Nat} {u:Itm Nat} {z:Itm Nat} {cd:Bool} {cm:Bool} {pl pr:Value} (hl:TrAt w (.node true (.node cd da u db) y (.node cm ma z mb)) pl) (hr:TrAt w r pr) (x:Itm Nat) (cr:r.isR=false):
  Calls Try.prog 99 #[pl,itV x,pr] w (Makes w (.node true ((Tr.node true da u db).bal y ma) z (.node false mb x r))):=by
 obtain⟨W,hW⟩:∃W,w.alloc (.cells #[.int .u64 x.1, .int .i64 x.2.1, .pointer (some ⟨x.2.2,0,none⟩)] tIt)=W:=⟨_,rfl⟩
 have TW:Turned [] w W:=hW ▸ (Turned.refl [] w).alloc _
 have BW:Bx W w.heap.size x:=hW ▸ bx_new w x
 have Rl:=xhd (isRed_is (b:=true) (hl.later TW) rfl)
 have Bl:=xhd (isBlack_is (b:=false) (hl.later TW) rfl)
 have Kl:=xhd (hl.later TW)
 obtain⟨bl,pd,pm,rfl,ml,hd,hm⟩:=hl
 have Nl:=TW.same ml (by simp)
 have Kd:=xhd (hd.later TW)
 obtain⟨bd,pda,pdb,rfl,md,hda,hdb⟩:=hd
 have Nd:=TW.same md (by simp)
 have Kda:=xhd (hda.later TW)
 have Kdb:=xhd (hdb.later TW)
 have Km:=xhd (hm.later TW)
 obtain⟨bm,pma,pmb,rfl,mm,hma,hmb⟩:=hm
 have Nm:=TW.same mm (by simp)
 have Kma:=xhd (hma.later TW)
 have Kmb:=xhd (hmb.later TW)
 have Rr:=xhd (isRed_is (hr.later TW) cr)
 have Kr:=xhd (hr.later TW)
 obtain⟨ada,rfl⟩:=hda.shape
 obtain⟨adb,rfl⟩:=hdb.shape
 obtain⟨ama,rfl⟩:=hma.shape
 obtain⟨amb,rfl⟩:=hmb.shape
 obtain⟨ar,rfl⟩:=hr.shape
 have HS:Hid (∀w',Turned [] W w'→w'.cell? ⟨w.heap.size,0,none⟩=some (.int .u64 x.1)∧w'.cell? ⟨w.heap.size,1,none⟩=some (.int .i64 x.2.1)∧w'.cell? ⟨w.heap.size,2,none⟩=some (.pointer (some ⟨x.2.2,0,none⟩))∧w'.cell? ⟨bl,0,none⟩=some (.int .u64 y.1)∧w'.cell? ⟨bl,1,none⟩=some (.int .i64 y.2.1)∧w'.cell? ⟨bl,2,none⟩=some (.pointer (some ⟨y.2.2,0,none⟩))∧w'.cell? ⟨bl,3,none⟩=some (.bool true)∧w'.cell? ⟨bl,4,none⟩=some (.pointer (some ⟨bd,0,none⟩))∧w'.cell? ⟨bl,5,none⟩=some (.pointer (some ⟨bm,0,none⟩))∧w'.cell? ⟨bd,0,none⟩=some (.int .u64 u.1)∧w'.cell? ⟨bd,1,none⟩=some (.int .i64 u.2.1)∧w'.cell? ⟨bd,2,none⟩=some (.pointer (some ⟨u.2.2,0,none⟩))∧w'.cell? ⟨bd,3,none⟩=some (.bool cd)∧w'.cell? ⟨bd,4,none⟩=some (.pointer ada)∧w'.cell? ⟨bd,5,none⟩=some (.pointer adb)∧w'.cell? ⟨bm,0,none⟩=some (.int .u64 z.1)∧w'.cell? ⟨bm,1,none⟩=some (.int .i64 z.2.1)∧w'.cell? ⟨bm,2,none⟩=some (.pointer (some ⟨z.2.2,0,none⟩))∧w'.cell? ⟨bm,3,none⟩=some (.bool cm)∧w'.cell? ⟨bm,4,none⟩=some (.pointer ama)∧w'.cell? ⟨bm,5,none⟩=some (.pointer amb)∧Turned [] W w'):=by
  intro w' ht
  obtain⟨x0,x1,x2⟩:=bx_cells (ht.same BW (by simp))
  obtain⟨lq0,lq1,lq2,lq3,lq4,lq5⟩:=nd_cells (ht.same Nl (by simp))
  obtain⟨dq0,dq1,dq2,dq3,dq4,dq5⟩:=nd_cells (ht.same Nd (by simp))
  obtain⟨mq0,mq1,mq2,mq3,mq4,mq5⟩:=nd_cells (ht.same Nm (by simp))
  exact⟨x0,x1,x2,lq0,lq1,lq2,lq3,lq4,lq5,dq0,dq1,dq2,dq3,dq4,dq5,mq0,mq1,mq2,mq3,mq4,mq5,ht⟩
 have HT:=xhd TW
 obtain⟨x1,x2,x3⟩:=x
 obtain⟨y1,y2,y3⟩:=y
 obtain⟨u1,u2,u3⟩:=u
 obtain⟨z1,z2,z3⟩:=z
 simp only [itV] at hW HS ⊢
 clear TW BW ml md mm Nl Nd Nm hda hdb hma hmb hr cr
 obtain⟨d0,d1,d2,d3,d4,d5,d6,d7,d8,d9,d10,d11,d12,d13,d14,d15,d16,d17,d18,d19,d20,dt⟩:=HS.out _ (Turned.refl [] W)
 go_enter Try.func99,Try.ntmps99
 repeat (go_wp2_with fail;first|(with_reducible refine Rl.out.mono ?_;rintro e w1 ⟨rfl,rfl⟩) |(with_reducible refine Bl.out.mono ?_;rintro e w1 ⟨rfl,rfl⟩) |(with_reducible refine Rr.out.mono ?_;rintro e w1 ⟨rfl,rfl⟩))
 go_wp2_with fail
 obtain⟨e0,e1,e2,e3,e4,e5,e6,e7,e8,e9,e10,e11,e12,e13,e14,e15,e16,e17,e18,e19,e20,et⟩:=HS.out _ (Turned.refl [] W).drew
 go_region_held3 (fun w'=>w'.cell? ⟨w.heap.size,0,none⟩=some (.int .u64 x1)∧w'.cell? ⟨w.heap.size,1,none⟩=some (.int .i64 x2)∧w'.cell? ⟨w.heap.size,2,none⟩=some (.pointer (some ⟨x3,0,none⟩))∧w'.cell? ⟨bl,0,none⟩=some (.int .u64 y1)∧w'.cell? ⟨bl,1,none⟩=some (.int .i64 y2)∧w'.cell? ⟨bl,2,none⟩=some (.pointer (some ⟨y3,0,none⟩))∧w'.cell? ⟨bl,3,none⟩=some (.bool true)∧w'.cell? ⟨bl,4,none⟩=some (.pointer (some ⟨bd,0,none⟩))∧w'.cell? ⟨bl,5,none⟩=some (.pointer (some ⟨bm,0,none⟩))∧w'.cell? ⟨bd,0,none⟩=some (.int .u64 u1)∧w'.cell? ⟨bd,1,none⟩=some (.int .i64 u2)∧w'.cell? ⟨bd,2,none⟩=some (.pointer (some ⟨u3,0,none⟩))∧w'.cell? ⟨bd,3,none⟩=some (.bool cd)∧w'.cell? ⟨bd,4,none⟩=some (.pointer ada)∧w'.cell? ⟨bd,5,none⟩=some (.pointer adb)∧w'.cell? ⟨bm,0,none⟩=some (.int .u64 z1)∧w'.cell? ⟨bm,1,none⟩=some (.int .i64 z2)∧w'.cell? ⟨bm,2,none⟩=some (.pointer (some ⟨z3,0,none⟩))∧w'.cell? ⟨bm,3,none⟩=some (.bool cm)∧w'.cell? ⟨bm,4,none⟩=some (.pointer ama)∧w'.cell? ⟨bm,5,none⟩=some (.pointer amb)∧Turned [] W w')
  (first|exact⟨f0,f1,f2,f3,f4,f5,f6,f7,f8,f9,f10,f11,f12,f13,f14,f15,f16,f17,f18,f19,f20,ft⟩ |exact⟨e0,e1,e2,e3,e4,e5,e6,e7,e8,e9,e10,e11,e12,e13,e14,e15,e16,e17,e18,e19,e20,et⟩)
  (first
    |(go_at_call 104
      first
       |(with_reducible refine (reddened_any (Kd.out.later (by first|exact ft|exact et))).mono ?_
         rintro e wa ⟨zg1,rfl,yg1,tg1⟩
         have g1:=xhd yg1
         try have g2:=xhd (g2.out.later tg1)
         try have g3:=xhd (g3.out.later tg1)
         try have g4:=xhd (g4.out.later tg1)
         obtain⟨f0,f1,f2,f3,f4,f5,f6,f7,f8,f9,f10,f11,f12,f13,f14,f15,f16,f17,f18,f19,f20,ft⟩:=HS.out _ (Turned.join (by first|exact ft|exact et) tg1)
         obtain⟨vg1,rfl⟩:=yg1.shape
         clear yg1 tg1))
    |(go_at_call 95
      first
       |(with_reducible refine (bal_any (g1.out) (Kma.out.later (by first|exact ft|exact et)) (y1,y2,y3)).mono ?_
         rintro e wa ⟨zg2,rfl,yg2,tg2⟩
         have g2:=xhd yg2
         try have g1:=xhd (g1.out.later tg2)
         try have g3:=xhd (g3.out.later tg2)
         try have g4:=xhd (g4.out.later tg2)
         obtain⟨f0,f1,f2,f3,f4,f5,f6,f7,f8,f9,f10,f11,f12,f13,f14,f15,f16,f17,f18,f19,f20,ft⟩:=HS.out _ (Turned.join (by first|exact ft|exact et) tg2)
         obtain⟨vg2,rfl⟩:=yg2.shape
         clear yg2 tg2))
    |(go_at_call 97
      first
       |(with_reducible refine (black_any (Kmb.out.later (by first|exact ft|exact et)) (Kr.out.later (by first|exact ft|exact et)) (x1,x2,x3)).mono ?_
         rintro e wa ⟨zg3,rfl,yg3,tg3⟩
         have g3:=xhd yg3
         try have g1:=xhd (g1.out.later tg3)
         try have g2:=xhd (g2.out.later tg3)
         try have g4:=xhd (g4.out.later tg3)
         obtain⟨f0,f1,f2,f3,f4,f5,f6,f7,f8,f9,f10,f11,f12,f13,f14,f15,f16,f17,f18,f19,f20,ft⟩:=HS.out _ (Turned.join (by first|exact ft|exact et) tg3)
         obtain⟨vg3,rfl⟩:=yg3.shape
         clear yg3 tg3))
    |(go_at_call 94
      first
       |(with_reducible refine (red_any (g2.out) (g3.out) (z1,z2,z3)).mono ?_
         rintro e wa ⟨zg4,rfl,yg4,tg4⟩
         have g4:=xhd yg4
         obtain⟨f0,f1,f2,f3,f4,f5,f6,f7,f8,f9,f10,f11,f12,f13,f14,f15,f16,f17,f18,f19,f20,ft⟩:=HS.out _ (Turned.join (by first|exact ft|exact et) tg4)
         have G:=xhd (And.intro yg4 (HT.out.join ft))
         obtain⟨vg4,rfl⟩:=yg4.shape
         clear yg4 tg4)))
 all_goals
  go_wp2
  go_ret
  exact⟨_,rfl,G.out⟩
theorem lsh_A {l r:Tr Nat} {x:Itm Nat} (h:l.isR=true):l.lsh x r= .node true l.root x r:=by
 obtain⟨a,y,b,rfl⟩:=red_node h
 rfl
theorem lsh_B {l b c:Tr Nat} {x y:Itm Nat} (h:l.isR=false):l.lsh x (.node false b y c)=l.bal x (.node true b y c):=by
 rcases not_red h with rfl|⟨p,v,q,rfl⟩<;>rfl
theorem lsh_C {l b c d:Tr Nat} {cb:Bool} {x y z:Itm Nat} (h:l.isR=false):l.lsh x (.node true (.node cb b y c) z d)= .node true (.node false l x b) y (c.bal z d.redd):=by
 rcases not_red h with rfl|⟨p,v,q,rfl⟩<;>rfl
theorem rsh_A {l r:Tr Nat} {x:Itm Nat} (h:r.isR=true):l.rsh x r= .node true l x r.root:=by
 obtain⟨a,y,b,rfl⟩:=red_node h
 cases l with
 |nil=>rfl
 |node c p y q=>
  cases c
  ·rfl
  ·cases q<;>rfl
theorem rsh_B {r a b:Tr Nat} {x y:Itm Nat} (h:r.isR=false):(Tr.node false a y b).rsh x r=(Tr.node true a y b).bal x r:=by
 rcases not_red h with rfl|⟨p,v,q,rfl⟩<;>rfl
theorem rsh_C {r a b c:Tr Nat} {cb:Bool} {x y z:Itm Nat} (h:r.isR=false):(Tr.node true a y (.node cb b z c)).rsh x r= .node true (a.redd.bal y b) z (.node false c x r):=by
 rcases not_red h with rfl|⟨p,v,q,rfl⟩<;>rfl
theorem lshK_any {w:World} {l b c:Tr Nat} {y:Itm Nat} {pl pr:Value} (hl:TrAt w l pl) (hr:TrAt w (.node false b y c) pr) (x:Itm Nat):
  Calls Try.prog 98 #[pl,itV x,pr] w (Makes w (l.lsh x (.node false b y c))):=by
 by_cases h:l.isR=true
 ·rw [lsh_A h]
  exact lshA_any hl hr x h
 ·have h':l.isR=false:=by simpa using h
  rw [lsh_B h']
  exact lshB_any hl hr x h'
theorem lsh_any {w:World} {l r:Tr Nat} {pl pr:Value} (hl:TrAt w l pl) (hr:TrAt w r pr) (x:Itm Nat) (gr:r.HH) (h:l.bh+1=r.bh) (kr:r.CC):
  Calls Try.prog 98 #[pl,itV x,pr] w (Makes w (l.lsh x r)):=by
 by_cases hl':l.isR=true
 ·rw [lsh_A hl']
  exact lshA_any hl hr x hl'
 ·have hn:l.isR=false:=by simpa using hl'
  cases r with
  |nil=>simp [Tr.bh] at h
  |node c b y d=>
   cases c
   ·exact lshK_any hl hr x
   ·obtain⟨g1,g2,g3⟩:=gr
    simp [Tr.bh] at h
    cases b with
    |nil=>simp [Tr.bh] at h
    |node cb b1 z b2=>
     cases d with
     |nil=>rw [g3] at h;simp [Tr.bh] at h
     |node cd d1 u d2=>
      rw [lsh_C hn]
      exact lshC_any hl hr x hn
theorem rsh_any {w:World} {l r:Tr Nat} {pl pr:Value} (hl:TrAt w l pl) (hr:TrAt w r pr) (x:Itm Nat) (gl:l.HH) (h:r.bh+1=l.bh) (kl:l.CC):
  Calls Try.prog 99 #[pl,itV x,pr] w (Makes w (l.rsh x r)):=by
 by_cases hr':r.isR=true
 ·rw [rsh_A hr']
  exact rshA_any hl hr x hr'
 ·have hn:r.isR=false:=by simpa using hr'
  cases l with
  |nil=>simp [Tr.bh] at h
  |node c d y b=>
   cases c
   ·rw [rsh_B hn]
    exact rshB_any hl hr x hn
   ·obtain⟨g1,g2,g3⟩:=gl
    simp [Tr.bh] at h
    cases d with
    |nil=>simp [Tr.bh] at h
    |node cd d1 u d2=>
     cases b with
     |nil=>rw [g3] at h;simp [Tr.bh] at h
     |node cb b1 z b2=>
      rw [rsh_C hn]
      exact rshC_any hl hr x hn
theorem jredA_any {w:World} {ll lr rl rr m:Tr Nat} {lx rx:Itm Nat} {pl pr:Value} (hl:TrAt w (.node true ll lx lr) pl) (hr:TrAt w (.node true rl rx rr) pr)
  (IH:∀(W':World) (p q:Value),TrAt W' lr p→TrAt W' rl q→Calls Try.prog 100 #[p,q] W' (Makes W' m)) (cm:m.isR=false):
  Calls Try.prog 105 #[pl,pr] w (Makes w (.node true ll lx (.node true m rx rr))):=by
 obtain⟨bl,pll,plr,rfl,ml,hll,hlr⟩:=hl
 obtain⟨br,prl,prr,rfl,mr,hrl,hrr⟩:=hr
 obtain⟨D,hD⟩:∃D,w.drew=D:=⟨_,rfl⟩
 have TD:Turned [] w D:=hD ▸ (Turned.refl [] w).drew
 obtain⟨p0,p1,p2,p3,p4,p5⟩:=nd_cells (TD.same ml (by simp))
 obtain⟨q0,q1,q2,q3,q4,q5⟩:=nd_cells (TD.same mr (by simp))
 have HJ:=xhd (IH D _ _ (hlr.later TD) (hrl.later TD))
 have HT:=xhd TD
 have Hll:=xhd hll
 have Hrr:=xhd hrr
 have ML:=xhd ml
 have MR:=xhd mr
 obtain⟨all,rfl⟩:=hll.shape
 obtain⟨alr,rfl⟩:=hlr.shape
 obtain⟨arl,rfl⟩:=hrl.shape
 obtain⟨arr,rfl⟩:=hrr.shape
 clear IH ml mr hll hlr hrl hrr TD
 go_enter Try.func105,Try.ntmps105
 go_wp2_with fail
 refine wp_still_tail_at 8 hD (by kernel_rfl) (by kernel_rfl) ?_
 clear hD
 simp only [List.take_succ_cons,List.take_zero,List.drop_succ_cons,List.drop_zero]
 repeat still_step
 refine wpStill_nil ?_
 go_wp2_with fail
 refine HJ.out.mono ?_
 rintro e W ⟨pm,rfl,hm,tm⟩
 have TW:=HT.out.join tm
 have Kll:=xhd (Hll.out.later TW)
 have Krr:=xhd (Hrr.out.later TW)
 have Nl:=TW.same ML.out (by simp)
 have Nr:=TW.same MR.out (by simp)
 have Rm:=xhd (isRed_is (b:=false) hm cm)
 have Km:=xhd hm
 obtain⟨am,rfl⟩:=hm.shape
 obtain⟨lx1,lx2,lx3⟩:=lx
 obtain⟨rx1,rx2,rx3⟩:=rx
 have HS:Hid (∀w',Turned [] W w'→w'.cell? ⟨bl,0,none⟩=some (.int .u64 lx1)∧w'.cell? ⟨bl,1,none⟩=some (.int .i64 lx2)∧w'.cell? ⟨bl,2,none⟩=some (.pointer (some ⟨lx3,0,none⟩))∧w'.cell? ⟨bl,3,none⟩=some (.bool true)∧w'.cell? ⟨bl,4,none⟩=some (.pointer all)∧w'.cell? ⟨bl,5,none⟩=some (.pointer alr)∧w'.cell? ⟨br,0,none⟩=some (.int .u64 rx1)∧w'.cell? ⟨br,1,none⟩=some (.int .i64 rx2)∧w'.cell? ⟨br,2,none⟩=some (.pointer (some ⟨rx3,0,none⟩))∧w'.cell? ⟨br,3,none⟩=some (.bool true)∧w'.cell? ⟨br,4,none⟩=some (.pointer arl)∧w'.cell? ⟨br,5,none⟩=some (.pointer arr)∧Turned [] W w'):=by
  intro w' ht
  obtain⟨p0,p1,p2,p3,p4,p5⟩:=nd_cells (ht.same Nl (by simp))
  obtain⟨q0,q1,q2,q3,q4,q5⟩:=nd_cells (ht.same Nr (by simp))
  exact⟨p0,p1,p2,p3,p4,p5,q0,q1,q2,q3,q4,q5,ht⟩
 have HW:=xhd TW
 clear TW tm p0 p1 p2 p3 p4 p5 q0 q1 q2 q3 q4 q5 Nl Nr HJ HT ML MR Hll Hrr hm cm
 go_wp2_with fail
 refine Rm.out.mono ?_
 rintro e w1 ⟨rfl,rfl⟩
 go_wp2_with fail
 obtain⟨e0,e1,e2,e3,e4,e5,e6,e7,e8,e9,e10,e11,et⟩:=HS.out _ (Turned.refl [] W).drew
 go_region_held3 (fun w'=>w'.cell? ⟨bl,0,none⟩=some (.int .u64 lx1)∧w'.cell? ⟨bl,1,none⟩=some (.int .i64 lx2)∧w'.cell? ⟨bl,2,none⟩=some (.pointer (some ⟨lx3,0,none⟩))∧w'.cell? ⟨bl,3,none⟩=some (.bool true)∧w'.cell? ⟨bl,4,none⟩=some (.pointer all)∧w'.cell? ⟨bl,5,none⟩=some (.pointer alr)∧w'.cell? ⟨br,0,none⟩=some (.int .u64 rx1)∧w'.cell? ⟨br,1,none⟩=some (.int .i64 rx2)∧w'.cell? ⟨br,2,none⟩=some (.pointer (some ⟨rx3,0,none⟩))∧w'.cell? ⟨br,3,none⟩=some (.bool true)∧w'.cell? ⟨br,4,none⟩=some (.pointer arl)∧w'.cell? ⟨br,5,none⟩=some (.pointer arr)∧Turned [] W w')
  (first|exact⟨f0,f1,f2,f3,f4,f5,f6,f7,f8,f9,f10,f11,ft⟩ |exact⟨e0,e1,e2,e3,e4,e5,e6,e7,e8,e9,e10,e11,et⟩)
  (first
    |(go_at_call 94
      first
       |(with_reducible refine (red_any (Km.out.later (by first|exact ft|exact et)) (Krr.out.later (by first|exact ft|exact et)) (rx1,rx2,rx3)).mono ?_
         rintro e wa ⟨zg1,rfl,yg1,tg1⟩
         have g1:=xhd yg1
         try have g2:=xhd (g2.out.later tg1)
         obtain⟨f0,f1,f2,f3,f4,f5,f6,f7,f8,f9,f10,f11,ft⟩:=HS.out _ (Turned.join (by first|exact ft|exact et) tg1)
         obtain⟨vg1,rfl⟩:=yg1.shape
         clear yg1 tg1)
       |(with_reducible refine (red_any (Kll.out.later (by first|exact ft|exact et)) (g1.out) (lx1,lx2,lx3)).mono ?_
         rintro e wa ⟨zg2,rfl,yg2,tg2⟩
         have g2:=xhd yg2
         obtain⟨f0,f1,f2,f3,f4,f5,f6,f7,f8,f9,f10,f11,ft⟩:=HS.out _ (Turned.join (by first|exact ft|exact et) tg2)
         have G:=xhd (And.intro yg2 (HW.out.join ft))
         obtain⟨vg2,rfl⟩:=yg2.shape
         clear yg2 tg2)))
 all_goals
  go_wp2
  go_ret
  exact⟨_,rfl,G.out⟩
theorem jredB_any {w:World} {ll lr rl rr ma mb:Tr Nat} {lx rx z:Itm Nat} {pl pr:Value} (hl:TrAt w (.node true ll lx lr) pl) (hr:TrAt w (.node true rl rx rr) pr)
  (IH:∀(W':World) (p q:Value),TrAt W' lr p→TrAt W' rl q→Calls Try.prog 100 #[p,q] W' (Makes W' (.node true ma z mb))):
  Calls Try.prog 105 #[pl,pr] w (Makes w (.node true (.node true ll lx ma) z (.node true mb rx rr))):=by
 obtain⟨bl,pll,plr,rfl,ml,hll,hlr⟩:=hl
 obtain⟨br,prl,prr,rfl,mr,hrl,hrr⟩:=hr
 obtain⟨D,hD⟩:∃D,w.drew=D:=⟨_,rfl⟩
 have TD:Turned [] w D:=hD ▸ (Turned.refl [] w).drew
 obtain⟨p0,p1,p2,p3,p4,p5⟩:=nd_cells (TD.same ml (by simp))
 obtain⟨q0,q1,q2,q3,q4,q5⟩:=nd_cells (TD.same mr (by simp))
 have HJ:=xhd (IH D _ _ (hlr.later TD) (hrl.later TD))
 have HT:=xhd TD
 have Hll:=xhd hll
 have Hrr:=xhd hrr
 have ML:=xhd ml
 have MR:=xhd mr
 obtain⟨all,rfl⟩:=hll.shape
 obtain⟨alr,rfl⟩:=hlr.shape
 obtain⟨arl,rfl⟩:=hrl.shape
 obtain⟨arr,rfl⟩:=hrr.shape
 clear IH ml mr hll hlr hrl hrr TD
 go_enter Try.func105,Try.ntmps105
 go_wp2_with fail
 refine wp_still_tail_at 8 hD (by kernel_rfl) (by kernel_rfl) ?_
 clear hD
 simp only [List.take_succ_cons,List.take_zero,List.drop_succ_cons,List.drop_zero]
 repeat still_step
 refine wpStill_nil ?_
 go_wp2_with fail
 refine HJ.out.mono ?_
 rintro e W ⟨pm,rfl,hm,tm⟩
 have TW:=HT.out.join tm
 have Kll:=xhd (Hll.out.later TW)
 have Krr:=xhd (Hrr.out.later TW)
 have Nl:=TW.same ML.out (by simp)
 have Nr:=TW.same MR.out (by simp)
 have Rm:=xhd (isRed_is (b:=true) hm rfl)
 obtain⟨bm,pma,pmb,rfl,mm,hma,hmb⟩:=hm
 have Kma:=xhd hma
 have Kmb:=xhd hmb
 obtain⟨ama,rfl⟩:=hma.shape
 obtain⟨amb,rfl⟩:=hmb.shape
 obtain⟨lx1,lx2,lx3⟩:=lx
 obtain⟨rx1,rx2,rx3⟩:=rx
 obtain⟨z1,z2,z3⟩:=z
 have HS:Hid (∀w',Turned [] W w'→w'.cell? ⟨bl,0,none⟩=some (.int .u64 lx1)∧w'.cell? ⟨bl,1,none⟩=some (.int .i64 lx2)∧w'.cell? ⟨bl,2,none⟩=some (.pointer (some ⟨lx3,0,none⟩))∧w'.cell? ⟨bl,3,none⟩=some (.bool true)∧w'.cell? ⟨bl,4,none⟩=some (.pointer all)∧w'.cell? ⟨bl,5,none⟩=some (.pointer alr)∧w'.cell? ⟨br,0,none⟩=some (.int .u64 rx1)∧w'.cell? ⟨br,1,none⟩=some (.int .i64 rx2)∧w'.cell? ⟨br,2,none⟩=some (.pointer (some ⟨rx3,0,none⟩))∧w'.cell? ⟨br,3,none⟩=some (.bool true)∧w'.cell? ⟨br,4,none⟩=some (.pointer arl)∧w'.cell? ⟨br,5,none⟩=some (.pointer arr)∧w'.cell? ⟨bm,0,none⟩=some (.int .u64 z1)∧w'.cell? ⟨bm,1,none⟩=some (.int .i64 z2)∧w'.cell? ⟨bm,2,none⟩=some (.pointer (some ⟨z3,0,none⟩))∧w'.cell? ⟨bm,3,none⟩=some (.bool true)∧w'.cell? ⟨bm,4,none⟩=some (.pointer ama)∧w'.cell? ⟨bm,5,none⟩=some (.pointer amb)∧Turned [] W w'):=by
  intro w' ht
  obtain⟨p0,p1,p2,p3,p4,p5⟩:=nd_cells (ht.same Nl (by simp))
  obtain⟨q0,q1,q2,q3,q4,q5⟩:=nd_cells (ht.same Nr (by simp))
  obtain⟨r0,r1,r2,r3,r4,r5⟩:=nd_cells (ht.same mm (by simp))
  exact⟨p0,p1,p2,p3,p4,p5,q0,q1,q2,q3,q4,q5,r0,r1,r2,r3,r4,r5,ht⟩
 have HW:=xhd TW
 clear TW tm p0 p1 p2 p3 p4 p5 q0 q1 q2 q3 q4 q5 Nl Nr HJ HT ML MR Hll Hrr mm hma hmb
 go_wp2_with fail
 refine Rm.out.mono ?_
 rintro e w1 ⟨rfl,rfl⟩
 go_wp2_with fail
 obtain⟨e0,e1,e2,e3,e4,e5,e6,e7,e8,e9,e10,e11,e12,e13,e14,e15,e16,e17,et⟩:=HS.out _ (Turned.refl [] W).drew
 go_region_held3 (fun w'=>w'.cell? ⟨bl,0,none⟩=some (.int .u64 lx1)∧w'.cell? ⟨bl,1,none⟩=some (.int .i64 lx2)∧w'.cell? ⟨bl,2,none⟩=some (.pointer (some ⟨lx3,0,none⟩))∧w'.cell? ⟨bl,3,none⟩=some (.bool true)∧w'.cell? ⟨bl,4,none⟩=some (.pointer all)∧w'.cell? ⟨bl,5,none⟩=some (.pointer alr)∧w'.cell? ⟨br,0,none⟩=some (.int .u64 rx1)∧w'.cell? ⟨br,1,none⟩=some (.int .i64 rx2)∧w'.cell? ⟨br,2,none⟩=some (.pointer (some ⟨rx3,0,none⟩))∧w'.cell? ⟨br,3,none⟩=some (.bool true)∧w'.cell? ⟨br,4,none⟩=some (.pointer arl)∧w'.cell? ⟨br,5,none⟩=some (.pointer arr)∧w'.cell? ⟨bm,0,none⟩=some (.int .u64 z1)∧w'.cell? ⟨bm,1,none⟩=some (.int .i64 z2)∧w'.cell? ⟨bm,2,none⟩=some (.pointer (some ⟨z3,0,none⟩))∧w'.cell? ⟨bm,3,none⟩=some (.bool true)∧w'.cell? ⟨bm,4,none⟩=some (.pointer ama)∧w'.cell? ⟨bm,5,none⟩=some (.pointer amb)∧Turned [] W w')
  (first|exact⟨f0,f1,f2,f3,f4,f5,f6,f7,f8,f9,f10,f11,f12,f13,f14,f15,f16,f17,ft⟩ |exact⟨e0,e1,e2,e3,e4,e5,e6,e7,e8,e9,e10,e11,e12,e13,e14,e15,e16,e17,et⟩)
  (first
    |(go_at_call 94
      first
       |(with_reducible refine (red_any (Kll.out.later (by first|exact ft|exact et)) (Kma.out.later (by first|exact ft|exact et)) (lx1,lx2,lx3)).mono ?_
         rintro e wa ⟨zg1,rfl,yg1,tg1⟩
         have g1:=xhd yg1
         try have g2:=xhd (g2.out.later tg1)
         try have g3:=xhd (g3.out.later tg1)
         obtain⟨f0,f1,f2,f3,f4,f5,f6,f7,f8,f9,f10,f11,f12,f13,f14,f15,f16,f17,ft⟩:=HS.out _ (Turned.join (by first|exact ft|exact et) tg1)
         obtain⟨vg1,rfl⟩:=yg1.shape
         clear yg1 tg1)
       |(with_reducible refine (red_any (Kmb.out.later (by first|exact ft|exact et)) (Krr.out.later (by first|exact ft|exact et)) (rx1,rx2,rx3)).mono ?_
         rintro e wa ⟨zg2,rfl,yg2,tg2⟩
         have g2:=xhd yg2
         try have g1:=xhd (g1.out.later tg2)
         try have g3:=xhd (g3.out.later tg2)
         obtain⟨f0,f1,f2,f3,f4,f5,f6,f7,f8,f9,f10,f11,f12,f13,f14,f15,f16,f17,ft⟩:=HS.out _ (Turned.join (by first|exact ft|exact et) tg2)
         obtain⟨vg2,rfl⟩:=yg2.shape
         clear yg2 tg2)
       |(with_reducible refine (red_any (g1.out) (g2.out) (z1,z2,z3)).mono ?_
         rintro e wa ⟨zg3,rfl,yg3,tg3⟩
         have g3:=xhd yg3
         obtain⟨f0,f1,f2,f3,f4,f5,f6,f7,f8,f9,f10,f11,f12,f13,f14,f15,f16,f17,ft⟩:=HS.out _ (Turned.join (by first|exact ft|exact et) tg3)
         have G:=xhd (And.intro yg3 (HW.out.join ft))
         obtain⟨vg3,rfl⟩:=yg3.shape
         clear yg3 tg3)))
 all_goals
  go_wp2
  go_ret
  exact⟨_,rfl,G.out⟩
theorem jblkA_any {w:World} {ll lr rl rr m:Tr Nat} {lx rx:Itm Nat} {pl pr:Value} (hl:TrAt w (.node false ll lx lr) pl) (hr:TrAt w (.node false rl rx rr) pr)
  (IH:∀(W':World) (p q:Value),TrAt W' lr p→TrAt W' rl q→Calls Try.prog 100 #[p,q] W' (Makes W' m)) (cm:m.isR=false):
  Calls Try.prog 106 #[pl,pr] w (Makes w (ll.lsh lx (.node false m rx rr))):=by
 obtain⟨bl,pll,plr,rfl,ml,hll,hlr⟩:=hl
 obtain⟨br,prl,prr,rfl,mr,hrl,hrr⟩:=hr
 obtain⟨D,hD⟩:∃D,w.drew=D:=⟨_,rfl⟩
 have TD:Turned [] w D:=hD ▸ (Turned.refl [] w).drew
 obtain⟨p0,p1,p2,p3,p4,p5⟩:=nd_cells (TD.same ml (by simp))
 obtain⟨q0,q1,q2,q3,q4,q5⟩:=nd_cells (TD.same mr (by simp))
 have HJ:=xhd (IH D _ _ (hlr.later TD) (hrl.later TD))
 have HT:=xhd TD
 have Hll:=xhd hll
 have Hrr:=xhd hrr
 have ML:=xhd ml
 have MR:=xhd mr
 obtain⟨all,rfl⟩:=hll.shape
 obtain⟨alr,rfl⟩:=hlr.shape
 obtain⟨arl,rfl⟩:=hrl.shape
 obtain⟨arr,rfl⟩:=hrr.shape
 clear IH ml mr hll hlr hrl hrr TD
 go_enter Try.func106,Try.ntmps106
 go_wp2_with fail
 refine wp_still_tail_at 8 hD (by kernel_rfl) (by kernel_rfl) ?_
 clear hD
 simp only [List.take_succ_cons,List.take_zero,List.drop_succ_cons,List.drop_zero]
 repeat still_step
 refine wpStill_nil ?_
 go_wp2_with fail
 refine HJ.out.mono ?_
 rintro e W ⟨pm,rfl,hm,tm⟩
 have TW:=HT.out.join tm
 have Kll:=xhd (Hll.out.later TW)
 have Krr:=xhd (Hrr.out.later TW)
 have Nl:=TW.same ML.out (by simp)
 have Nr:=TW.same MR.out (by simp)
 have Rm:=xhd (isRed_is (b:=false) hm cm)
 have Km:=xhd hm
 obtain⟨am,rfl⟩:=hm.shape
 obtain⟨lx1,lx2,lx3⟩:=lx
 obtain⟨rx1,rx2,rx3⟩:=rx
 have HS:Hid (∀w',Turned [] W w'→w'.cell? ⟨bl,0,none⟩=some (.int .u64 lx1)∧w'.cell? ⟨bl,1,none⟩=some (.int .i64 lx2)∧w'.cell? ⟨bl,2,none⟩=some (.pointer (some ⟨lx3,0,none⟩))∧w'.cell? ⟨bl,3,none⟩=some (.bool false)∧w'.cell? ⟨bl,4,none⟩=some (.pointer all)∧w'.cell? ⟨bl,5,none⟩=some (.pointer alr)∧w'.cell? ⟨br,0,none⟩=some (.int .u64 rx1)∧w'.cell? ⟨br,1,none⟩=some (.int .i64 rx2)∧w'.cell? ⟨br,2,none⟩=some (.pointer (some ⟨rx3,0,none⟩))∧w'.cell? ⟨br,3,none⟩=some (.bool false)∧w'.cell? ⟨br,4,none⟩=some (.pointer arl)∧w'.cell? ⟨br,5,none⟩=some (.pointer arr)∧Turned [] W w'):=by
  intro w' ht
  obtain⟨p0,p1,p2,p3,p4,p5⟩:=nd_cells (ht.same Nl (by simp))
  obtain⟨q0,q1,q2,q3,q4,q5⟩:=nd_cells (ht.same Nr (by simp))
  exact⟨p0,p1,p2,p3,p4,p5,q0,q1,q2,q3,q4,q5,ht⟩
 have HW:=xhd TW
 clear TW tm p0 p1 p2 p3 p4 p5 q0 q1 q2 q3 q4 q5 Nl Nr HJ HT ML MR Hll Hrr hm cm
 go_wp2_with fail
 refine Rm.out.mono ?_
 rintro e w1 ⟨rfl,rfl⟩
 go_wp2_with fail
 obtain⟨e0,e1,e2,e3,e4,e5,e6,e7,e8,e9,e10,e11,et⟩:=HS.out _ (Turned.refl [] W).drew
 go_region_held3 (fun w'=>w'.cell? ⟨bl,0,none⟩=some (.int .u64 lx1)∧w'.cell? ⟨bl,1,none⟩=some (.int .i64 lx2)∧w'.cell? ⟨bl,2,none⟩=some (.pointer (some ⟨lx3,0,none⟩))∧w'.cell? ⟨bl,3,none⟩=some (.bool false)∧w'.cell? ⟨bl,4,none⟩=some (.pointer all)∧w'.cell? ⟨bl,5,none⟩=some (.pointer alr)∧w'.cell? ⟨br,0,none⟩=some (.int .u64 rx1)∧w'.cell? ⟨br,1,none⟩=some (.int .i64 rx2)∧w'.cell? ⟨br,2,none⟩=some (.pointer (some ⟨rx3,0,none⟩))∧w'.cell? ⟨br,3,none⟩=some (.bool false)∧w'.cell? ⟨br,4,none⟩=some (.pointer arl)∧w'.cell? ⟨br,5,none⟩=some (.pointer arr)∧Turned [] W w')
  (first|exact⟨f0,f1,f2,f3,f4,f5,f6,f7,f8,f9,f10,f11,ft⟩ |exact⟨e0,e1,e2,e3,e4,e5,e6,e7,e8,e9,e10,e11,et⟩)
  (first
    |(go_at_call 97
      first
       |(with_reducible refine (black_any (Km.out.later (by first|exact ft|exact et)) (Krr.out.later (by first|exact ft|exact et)) (rx1,rx2,rx3)).mono ?_
         rintro e wa ⟨zg1,rfl,yg1,tg1⟩
         have g1:=xhd yg1
         try have g2:=xhd (g2.out.later tg1)
         obtain⟨f0,f1,f2,f3,f4,f5,f6,f7,f8,f9,f10,f11,ft⟩:=HS.out _ (Turned.join (by first|exact ft|exact et) tg1)
         obtain⟨vg1,rfl⟩:=yg1.shape
         clear yg1 tg1))
    |(go_at_call 98
      first
       |(with_reducible refine (lshK_any (Kll.out.later (by first|exact ft|exact et)) (g1.out) (lx1,lx2,lx3)).mono ?_
         rintro e wa ⟨zg2,rfl,yg2,tg2⟩
         have g2:=xhd yg2
         obtain⟨f0,f1,f2,f3,f4,f5,f6,f7,f8,f9,f10,f11,ft⟩:=HS.out _ (Turned.join (by first|exact ft|exact et) tg2)
         have G:=xhd (And.intro yg2 (HW.out.join ft))
         obtain⟨vg2,rfl⟩:=yg2.shape
         clear yg2 tg2)))
 all_goals
  go_wp2
  go_ret
  exact⟨_,rfl,G.out⟩
theorem jblkB_any {w:World} {ll lr rl rr ma mb:Tr Nat} {lx rx z:Itm Nat} {pl pr:Value} (hl:TrAt w (.node false ll lx lr) pl) (hr:TrAt w (.node false rl rx rr) pr)
  (IH:∀(W':World) (p q:Value),TrAt W' lr p→TrAt W' rl q→Calls Try.prog 100 #[p,q] W' (Makes W' (.node true ma z mb))):
  Calls Try.prog 106 #[pl,pr] w (Makes w (.node true (.node false ll lx ma) z (.node false mb rx rr))):=by
 obtain⟨bl,pll,plr,rfl,ml,hll,hlr⟩:=hl
 obtain⟨br,prl,prr,rfl,mr,hrl,hrr⟩:=hr
 obtain⟨D,hD⟩:∃D,w.drew=D:=⟨_,rfl⟩
 have TD:Turned [] w D:=hD ▸ (Turned.refl [] w).drew
 obtain⟨p0,p1,p2,p3,p4,p5⟩:=nd_cells (TD.same ml (by simp))
 obtain⟨q0,q1,q2,q3,q4,q5⟩:=nd_cells (TD.same mr (by simp))
 have HJ:=xhd (IH D _ _ (hlr.later TD) (hrl.later TD))
 have HT:=xhd TD
 have Hll:=xhd hll
 have Hrr:=xhd hrr
 have ML:=xhd ml
 have MR:=xhd mr
 obtain⟨all,rfl⟩:=hll.shape
 obtain⟨alr,rfl⟩:=hlr.shape
 obtain⟨arl,rfl⟩:=hrl.shape
 obtain⟨arr,rfl⟩:=hrr.shape
 clear IH ml mr hll hlr hrl hrr TD
 go_enter Try.func106,Try.ntmps106
 go_wp2_with fail
 refine wp_still_tail_at 8 hD (by kernel_rfl) (by kernel_rfl) ?_
 clear hD
 simp only [List.take_succ_cons,List.take_zero,List.drop_succ_cons,List.drop_zero]
 repeat still_step
 refine wpStill_nil ?_
 go_wp2_with fail
 refine HJ.out.mono ?_
 rintro e W ⟨pm,rfl,hm,tm⟩
 have TW:=HT.out.join tm
 have Kll:=xhd (Hll.out.later TW)
 have Krr:=xhd (Hrr.out.later TW)
 have Nl:=TW.same ML.out (by simp)
 have Nr:=TW.same MR.out (by simp)
 have Rm:=xhd (isRed_is (b:=true) hm rfl)
 obtain⟨bm,pma,pmb,rfl,mm,hma,hmb⟩:=hm
 have Kma:=xhd hma
 have Kmb:=xhd hmb
 obtain⟨ama,rfl⟩:=hma.shape
 obtain⟨amb,rfl⟩:=hmb.shape
 obtain⟨lx1,lx2,lx3⟩:=lx
 obtain⟨rx1,rx2,rx3⟩:=rx
 obtain⟨z1,z2,z3⟩:=z
 have HS:Hid (∀w',Turned [] W w'→w'.cell? ⟨bl,0,none⟩=some (.int .u64 lx1)∧w'.cell? ⟨bl,1,none⟩=some (.int .i64 lx2)∧w'.cell? ⟨bl,2,none⟩=some (.pointer (some ⟨lx3,0,none⟩))∧w'.cell? ⟨bl,3,none⟩=some (.bool false)∧w'.cell? ⟨bl,4,none⟩=some (.pointer all)∧w'.cell? ⟨bl,5,none⟩=some (.pointer alr)∧w'.cell? ⟨br,0,none⟩=some (.int .u64 rx1)∧w'.cell? ⟨br,1,none⟩=some (.int .i64 rx2)∧w'.cell? ⟨br,2,none⟩=some (.pointer (some ⟨rx3,0,none⟩))∧w'.cell? ⟨br,3,none⟩=some (.bool false)∧w'.cell? ⟨br,4,none⟩=some (.pointer arl)∧w'.cell? ⟨br,5,none⟩=some (.pointer arr)∧w'.cell? ⟨bm,0,none⟩=some (.int .u64 z1)∧w'.cell? ⟨bm,1,none⟩=some (.int .i64 z2)∧w'.cell? ⟨bm,2,none⟩=some (.pointer (some ⟨z3,0,none⟩))∧w'.cell? ⟨bm,3,none⟩=some (.bool true)∧w'.cell? ⟨bm,4,none⟩=some (.pointer ama)∧w'.cell? ⟨bm,5,none⟩=some (.pointer amb)∧Turned [] W w'):=by
  intro w' ht
  obtain⟨p0,p1,p2,p3,p4,p5⟩:=nd_cells (ht.same Nl (by simp))
  obtain⟨q0,q1,q2,q3,q4,q5⟩:=nd_cells (ht.same Nr (by simp))
  obtain⟨r0,r1,r2,r3,r4,r5⟩:=nd_cells (ht.same mm (by simp))
  exact⟨p0,p1,p2,p3,p4,p5,q0,q1,q2,q3,q4,q5,r0,r1,r2,r3,r4,r5,ht⟩
 have HW:=xhd TW
 clear TW tm p0 p1 p2 p3 p4 p5 q0 q1 q2 q3 q4 q5 Nl Nr HJ HT ML MR Hll Hrr mm hma hmb
 go_wp2_with fail
 refine Rm.out.mono ?_
 rintro e w1 ⟨rfl,rfl⟩
 go_wp2_with fail
 obtain⟨e0,e1,e2,e3,e4,e5,e6,e7,e8,e9,e10,e11,e12,e13,e14,e15,e16,e17,et⟩:=HS.out _ (Turned.refl [] W).drew
 go_region_held3 (fun w'=>w'.cell? ⟨bl,0,none⟩=some (.int .u64 lx1)∧w'.cell? ⟨bl,1,none⟩=some (.int .i64 lx2)∧w'.cell? ⟨bl,2,none⟩=some (.pointer (some ⟨lx3,0,none⟩))∧w'.cell? ⟨bl,3,none⟩=some (.bool false)∧w'.cell? ⟨bl,4,none⟩=some (.pointer all)∧w'.cell? ⟨bl,5,none⟩=some (.pointer alr)∧w'.cell? ⟨br,0,none⟩=some (.int .u64 rx1)∧w'.cell? ⟨br,1,none⟩=some (.int .i64 rx2)∧w'.cell? ⟨br,2,none⟩=some (.pointer (some ⟨rx3,0,none⟩))∧w'.cell? ⟨br,3,none⟩=some (.bool false)∧w'.cell? ⟨br,4,none⟩=some (.pointer arl)∧w'.cell? ⟨br,5,none⟩=some (.pointer arr)∧w'.cell? ⟨bm,0,none⟩=some (.int .u64 z1)∧w'.cell? ⟨bm,1,none⟩=some (.int .i64 z2)∧w'.cell? ⟨bm,2,none⟩=some (.pointer (some ⟨z3,0,none⟩))∧w'.cell? ⟨bm,3,none⟩=some (.bool true)∧w'.cell? ⟨bm,4,none⟩=some (.pointer ama)∧w'.cell? ⟨bm,5,none⟩=some (.pointer amb)∧Turned [] W w')
  (first|exact⟨f0,f1,f2,f3,f4,f5,f6,f7,f8,f9,f10,f11,f12,f13,f14,f15,f16,f17,ft⟩ |exact⟨e0,e1,e2,e3,e4,e5,e6,e7,e8,e9,e10,e11,e12,e13,e14,e15,e16,e17,et⟩)
  (first
    |(go_at_call 97
      first
       |(with_reducible refine (black_any (Kll.out.later (by first|exact ft|exact et)) (Kma.out.later (by first|exact ft|exact et)) (lx1,lx2,lx3)).mono ?_
         rintro e wa ⟨zg1,rfl,yg1,tg1⟩
         have g1:=xhd yg1
         try have g2:=xhd (g2.out.later tg1)
         try have g3:=xhd (g3.out.later tg1)
         obtain⟨f0,f1,f2,f3,f4,f5,f6,f7,f8,f9,f10,f11,f12,f13,f14,f15,f16,f17,ft⟩:=HS.out _ (Turned.join (by first|exact ft|exact et) tg1)
         obtain⟨vg1,rfl⟩:=yg1.shape
         clear yg1 tg1)
       |(with_reducible refine (black_any (Kmb.out.later (by first|exact ft|exact et)) (Krr.out.later (by first|exact ft|exact et)) (rx1,rx2,rx3)).mono ?_
         rintro e wa ⟨zg2,rfl,yg2,tg2⟩
         have g2:=xhd yg2
         try have g1:=xhd (g1.out.later tg2)
         try have g3:=xhd (g3.out.later tg2)
         obtain⟨f0,f1,f2,f3,f4,f5,f6,f7,f8,f9,f10,f11,f12,f13,f14,f15,f16,f17,ft⟩:=HS.out _ (Turned.join (by first|exact ft|exact et) tg2)
         obtain⟨vg2,rfl⟩:=yg2.shape
         clear yg2 tg2))
    |(go_at_call 94
      first
       |(with_reducible refine (red_any (g1.out) (g2.out) (z1,z2,z3)).mono ?_
         rintro e wa ⟨zg3,rfl,yg3,tg3⟩
         have g3:=xhd yg3
         obtain⟨f0,f1,f2,f3,f4,f5,f6,f7,f8,f9,f10,f11,f12,f13,f14,f15,f16,f17,ft⟩:=HS.out _ (Turned.join (by first|exact ft|exact et) tg3)
         have G:=xhd (And.intro yg3 (HW.out.join ft))
         obtain⟨vg3,rfl⟩:=yg3.shape
         clear yg3 tg3)))
 all_goals
  go_wp2
  go_ret
  exact⟨_,rfl,G.out⟩
theorem joinC_any {w:World} {ll lr rl rr:Tr Nat} {lx rx:Itm Nat} {pl pr:Value} (hl:TrAt w (.node false ll lx lr) pl) (hr:TrAt w (.node true rl rx rr) pr)
  (IH:∀(W':World) (p q:Value),TrAt W' (.node false ll lx lr) p→TrAt W' rl q→Calls Try.prog 100 #[p,q] W' (Makes W' ((Tr.node false ll lx lr).join rl))):
  Calls Try.prog 100 #[pl,pr] w (Makes w (.node true ((Tr.node false ll lx lr).join rl) rx rr)):=by
 have Kl:=xhd hl
 have Kr:=xhd hr
 have HI:=xhd IH
 obtain⟨bl,pll,plr,rfl,ml,hll,hlr⟩:=hl
 obtain⟨br,prl,prr,rfl,mr,hrl,hrr⟩:=hr
 have Kll:=xhd hll
 have Klr:=xhd hlr
 have Krl:=xhd hrl
 have Krr:=xhd hrr
 obtain⟨all,rfl⟩:=hll.shape
 obtain⟨alr,rfl⟩:=hlr.shape
 obtain⟨arl,rfl⟩:=hrl.shape
 obtain⟨arr,rfl⟩:=hrr.shape
 obtain⟨lx1,lx2,lx3⟩:=lx
 obtain⟨rx1,rx2,rx3⟩:=rx
 have HS:Hid (∀w',Turned [] w w'→w'.cell? ⟨bl,0,none⟩=some (.int .u64 lx1)∧w'.cell? ⟨bl,1,none⟩=some (.int .i64 lx2)∧w'.cell? ⟨bl,2,none⟩=some (.pointer (some ⟨lx3,0,none⟩))∧w'.cell? ⟨bl,3,none⟩=some (.bool false)∧w'.cell? ⟨bl,4,none⟩=some (.pointer all)∧w'.cell? ⟨bl,5,none⟩=some (.pointer alr)∧w'.cell? ⟨br,0,none⟩=some (.int .u64 rx1)∧w'.cell? ⟨br,1,none⟩=some (.int .i64 rx2)∧w'.cell? ⟨br,2,none⟩=some (.pointer (some ⟨rx3,0,none⟩))∧w'.cell? ⟨br,3,none⟩=some (.bool true)∧w'.cell? ⟨br,4,none⟩=some (.pointer arl)∧w'.cell? ⟨br,5,none⟩=some (.pointer arr)∧Turned [] w w'):=by
  intro w' ht
  obtain⟨p0,p1,p2,p3,p4,p5⟩:=nd_cells (ht.same ml (by simp))
  obtain⟨q0,q1,q2,q3,q4,q5⟩:=nd_cells (ht.same mr (by simp))
  exact⟨p0,p1,p2,p3,p4,p5,q0,q1,q2,q3,q4,q5,ht⟩
 have HW:=xhd (Turned.refl [] w)
 obtain⟨d0,d1,d2,d3,d4,d5,d6,d7,d8,d9,d10,d11,dt⟩:=HS.out _ (Turned.refl [] w)
 clear IH ml mr hll hlr hrl hrr
 go_enter Try.func100,Try.ntmps100
 go_wp2_with fail
 obtain⟨e0,e1,e2,e3,e4,e5,e6,e7,e8,e9,e10,e11,et⟩:=HS.out _ (Turned.refl [] w).drew
 go_region_held3 (fun w'=>w'.cell? ⟨bl,0,none⟩=some (.int .u64 lx1)∧w'.cell? ⟨bl,1,none⟩=some (.int .i64 lx2)∧w'.cell? ⟨bl,2,none⟩=some (.pointer (some ⟨lx3,0,none⟩))∧w'.cell? ⟨bl,3,none⟩=some (.bool false)∧w'.cell? ⟨bl,4,none⟩=some (.pointer all)∧w'.cell? ⟨bl,5,none⟩=some (.pointer alr)∧w'.cell? ⟨br,0,none⟩=some (.int .u64 rx1)∧w'.cell? ⟨br,1,none⟩=some (.int .i64 rx2)∧w'.cell? ⟨br,2,none⟩=some (.pointer (some ⟨rx3,0,none⟩))∧w'.cell? ⟨br,3,none⟩=some (.bool true)∧w'.cell? ⟨br,4,none⟩=some (.pointer arl)∧w'.cell? ⟨br,5,none⟩=some (.pointer arr)∧Turned [] w w')
  (first|exact⟨f0,f1,f2,f3,f4,f5,f6,f7,f8,f9,f10,f11,ft⟩ |exact⟨e0,e1,e2,e3,e4,e5,e6,e7,e8,e9,e10,e11,et⟩)
  (first
    |(go_at_call 100
      first
       |(with_reducible refine (HI.out _ _ _ (Kl.out.later (by first|exact ft|exact et)) (Krl.out.later (by first|exact ft|exact et))).mono ?_
         rintro e wa ⟨zg1,rfl,yg1,tg1⟩
         have g1:=xhd yg1
         try have g2:=xhd (g2.out.later tg1)
         obtain⟨f0,f1,f2,f3,f4,f5,f6,f7,f8,f9,f10,f11,ft⟩:=HS.out _ (Turned.join (by first|exact ft|exact et) tg1)
         obtain⟨vg1,rfl⟩:=yg1.shape
         clear yg1 tg1))
    |(go_at_call 94
      first
       |(with_reducible refine (red_any g1.out (Krr.out.later (by first|exact ft|exact et)) (rx1,rx2,rx3)).mono ?_
         rintro e wa ⟨zg2,rfl,yg2,tg2⟩
         have g2:=xhd yg2
         obtain⟨f0,f1,f2,f3,f4,f5,f6,f7,f8,f9,f10,f11,ft⟩:=HS.out _ (Turned.join (by first|exact ft|exact et) tg2)
         have G:=xhd (And.intro yg2 (HW.out.join ft))
         obtain⟨vg2,rfl⟩:=yg2.shape
         clear yg2 tg2)))
 all_goals
  go_wp2
  go_ret
  exact⟨_,rfl,G.out⟩
theorem joinD_any {w:World} {ll lr rl rr:Tr Nat} {lx rx:Itm Nat} {pl pr:Value} (hl:TrAt w (.node true ll lx lr) pl) (hr:TrAt w (.node false rl rx rr) pr)
  (IH:∀(W':World) (p q:Value),TrAt W' lr p→TrAt W' (.node false rl rx rr) q→Calls Try.prog 100 #[p,q] W' (Makes W' (lr.join (.node false rl rx rr)))):
  Calls Try.prog 100 #[pl,pr] w (Makes w (.node true ll lx (lr.join (.node false rl rx rr)))):=by
 have Kl:=xhd hl
 have Kr:=xhd hr
 have HI:=xhd IH
 obtain⟨bl,pll,plr,rfl,ml,hll,hlr⟩:=hl
 obtain⟨br,prl,prr,rfl,mr,hrl,hrr⟩:=hr
 have Kll:=xhd hll
 have Klr:=xhd hlr
 have Krl:=xhd hrl
 have Krr:=xhd hrr
 obtain⟨all,rfl⟩:=hll.shape
 obtain⟨alr,rfl⟩:=hlr.shape
 obtain⟨arl,rfl⟩:=hrl.shape
 obtain⟨arr,rfl⟩:=hrr.shape
 obtain⟨lx1,lx2,lx3⟩:=lx
 obtain⟨rx1,rx2,rx3⟩:=rx
 have HS:Hid (∀w',Turned [] w w'→w'.cell? ⟨bl,0,none⟩=some (.int .u64 lx1)∧w'.cell? ⟨bl,1,none⟩=some (.int .i64 lx2)∧w'.cell? ⟨bl,2,none⟩=some (.pointer (some ⟨lx3,0,none⟩))∧w'.cell? ⟨bl,3,none⟩=some (.bool true)∧w'.cell? ⟨bl,4,none⟩=some (.pointer all)∧w'.cell? ⟨bl,5,none⟩=some (.pointer alr)∧w'.cell? ⟨br,0,none⟩=some (.int .u64 rx1)∧w'.cell? ⟨br,1,none⟩=some (.int .i64 rx2)∧w'.cell? ⟨br,2,none⟩=some (.pointer (some ⟨rx3,0,none⟩))∧w'.cell? ⟨br,3,none⟩=some (.bool false)∧w'.cell? ⟨br,4,none⟩=some (.pointer arl)∧w'.cell? ⟨br,5,none⟩=some (.pointer arr)∧Turned [] w w'):=by
  intro w' ht
  obtain⟨p0,p1,p2,p3,p4,p5⟩:=nd_cells (ht.same ml (by simp))
  obtain⟨q0,q1,q2,q3,q4,q5⟩:=nd_cells (ht.same mr (by simp))
  exact⟨p0,p1,p2,p3,p4,p5,q0,q1,q2,q3,q4,q5,ht⟩
 have HW:=xhd (Turned.refl [] w)
 obtain⟨d0,d1,d2,d3,d4,d5,d6,d7,d8,d9,d10,d11,dt⟩:=HS.out _ (Turned.refl [] w)
 clear IH ml mr hll hlr hrl hrr
 go_enter Try.func100,Try.ntmps100
 go_wp2_with fail
 obtain⟨e0,e1,e2,e3,e4,e5,e6,e7,e8,e9,e10,e11,et⟩:=HS.out _ (Turned.refl [] w).drew
 go_region_held3 (fun w'=>w'.cell? ⟨bl,0,none⟩=some (.int .u64 lx1)∧w'.cell? ⟨bl,1,none⟩=some (.int .i64 lx2)∧w'.cell? ⟨bl,2,none⟩=some (.pointer (some ⟨lx3,0,none⟩))∧w'.cell? ⟨bl,3,none⟩=some (.bool true)∧w'.cell? ⟨bl,4,none⟩=some (.pointer all)∧w'.cell? ⟨bl,5,none⟩=some (.pointer alr)∧w'.cell? ⟨br,0,none⟩=some (.int .u64 rx1)∧w'.cell? ⟨br,1,none⟩=some (.int .i64 rx2)∧w'.cell? ⟨br,2,none⟩=some (.pointer (some ⟨rx3,0,none⟩))∧w'.cell? ⟨br,3,none⟩=some (.bool false)∧w'.cell? ⟨br,4,none⟩=some (.pointer arl)∧w'.cell? ⟨br,5,none⟩=some (.pointer arr)∧Turned [] w w')
  (first|exact⟨f0,f1,f2,f3,f4,f5,f6,f7,f8,f9,f10,f11,ft⟩ |exact⟨e0,e1,e2,e3,e4,e5,e6,e7,e8,e9,e10,e11,et⟩)
  (first
    |(go_at_call 100
      first
       |(with_reducible refine (HI.out _ _ _ (Klr.out.later (by first|exact ft|exact et)) (Kr.out.later (by first|exact ft|exact et))).mono ?_
         rintro e wa ⟨zg1,rfl,yg1,tg1⟩
         have g1:=xhd yg1
         try have g2:=xhd (g2.out.later tg1)
         obtain⟨f0,f1,f2,f3,f4,f5,f6,f7,f8,f9,f10,f11,ft⟩:=HS.out _ (Turned.join (by first|exact ft|exact et) tg1)
         obtain⟨vg1,rfl⟩:=yg1.shape
         clear yg1 tg1))
    |(go_at_call 94
      first
       |(with_reducible refine (red_any (Kll.out.later (by first|exact ft|exact et)) g1.out (lx1,lx2,lx3)).mono ?_
         rintro e wa ⟨zg2,rfl,yg2,tg2⟩
         have g2:=xhd yg2
         obtain⟨f0,f1,f2,f3,f4,f5,f6,f7,f8,f9,f10,f11,ft⟩:=HS.out _ (Turned.join (by first|exact ft|exact et) tg2)
         have G:=xhd (And.intro yg2 (HW.out.join ft))
         obtain⟨vg2,rfl⟩:=yg2.shape
         clear yg2 tg2)))
 all_goals
  go_wp2
  go_ret
  exact⟨_,rfl,G.out⟩
theorem joinE_any {w:World} {r:Tr Nat} {pl pr:Value} (hl:TrAt w .nil pl) (hr:TrAt w r pr):Calls Try.prog 100 #[pl,pr] w (Makes w r):=by
 obtain rfl:pl= .pointer none:=hl
 have H:=xhd hr
 obtain⟨a,rfl⟩:=hr.shape
 clear hr
 go_enter Try.func100,Try.ntmps100
 go_wp2
 go_ret
 exact⟨_,rfl,H.out,Turned.refl _ _⟩
theorem joinF_any {w:World} {l:Tr Nat} {pl pr:Value} (hl:TrAt w l pl) (hr:TrAt w .nil pr) (hn:pl≠ .pointer none):Calls Try.prog 100 #[pl,pr] w (Makes w l):=by
 obtain rfl:pr= .pointer none:=hr
 have H:=xhd hl
 obtain⟨a,rfl⟩:=hl.shape
 cases a with
 |none=>exact absurd rfl hn
 |some a=>
  clear hl
  go_enter Try.func100,Try.ntmps100
  go_wp2
  go_ret
  exact⟨_,rfl,H.out,Turned.refl _ _⟩
theorem joinR_any {w:World} {ll lr rl rr t:Tr Nat} {lx rx:Itm Nat} {pl pr:Value} (hl:TrAt w (.node true ll lx lr) pl) (hr:TrAt w (.node true rl rx rr) pr)
  (H:Calls Try.prog 105 #[pl,pr] w (Makes w t)):Calls Try.prog 100 #[pl,pr] w (Makes w t):=by
 obtain⟨bl,pll,plr,rfl,ml,hll,hlr⟩:=hl
 obtain⟨br,prl,prr,rfl,mr,hrl,hrr⟩:=hr
 obtain⟨_,_,_,c3,_,_⟩:=nd_cells ml
 obtain⟨_,_,_,k3,_,_⟩:=nd_cells mr
 have HH:=xhd H
 clear H ml mr hll hlr hrl hrr
 go_enter Try.func100,Try.ntmps100
 go_wp2_with fail
 refine HH.out.mono ?_
 rintro e w1 ⟨q,rfl,hq,tq⟩
 have G:=xhd (And.intro hq tq)
 obtain⟨aq,rfl⟩:=hq.shape
 clear hq tq
 go_wp2
 go_ret
 exact⟨_,rfl,G.out⟩
theorem joinK_any {w:World} {ll lr rl rr t:Tr Nat} {lx rx:Itm Nat} {pl pr:Value} (hl:TrAt w (.node false ll lx lr) pl) (hr:TrAt w (.node false rl rx rr) pr)
  (H:Calls Try.prog 106 #[pl,pr] w (Makes w t)):Calls Try.prog 100 #[pl,pr] w (Makes w t):=by
 obtain⟨bl,pll,plr,rfl,ml,hll,hlr⟩:=hl
 obtain⟨br,prl,prr,rfl,mr,hrl,hrr⟩:=hr
 obtain⟨_,_,_,c3,_,_⟩:=nd_cells ml
 obtain⟨_,_,_,k3,_,_⟩:=nd_cells mr
 have HH:=xhd H
 clear H ml mr hll hlr hrl hrr
 go_enter Try.func100,Try.ntmps100
 go_wp2_with fail
 refine HH.out.mono ?_
 rintro e w1 ⟨q,rfl,hq,tq⟩
 have G:=xhd (And.intro hq tq)
 obtain⟨aq,rfl⟩:=hq.shape
 clear hq tq
 go_wp2
 go_ret
 exact⟨_,rfl,G.out⟩
theorem join_any (l r:Tr Nat):∀(w:World) (pl pr:Value),TrAt w l pl→TrAt w r pr→Calls Try.prog 100 #[pl,pr] w (Makes w (l.join r)):=by
 induction l,r using Tr.join.induct with
 |case1 r=>
  intro w pl pr hl hr
  rw [show (Tr.nil:Tr Nat).join r=r by simp [Tr.join]]
  exact joinE_any hl hr
 |case2 l h=>
  intro w pl pr hl hr
  rw [show l.join .nil=l by cases l<;>simp [Tr.join]]
  refine joinF_any hl hr ?_
  cases l with
  |nil=>exact (h rfl).elim
  |node c a x b=>obtain⟨b,_,_,rfl,_⟩:=hl;simp
 |case3 ll lx lr rl rx rr ih=>
  intro w pl pr hl hr
  rw [show (Tr.node true ll lx lr).join (Tr.node true rl rx rr)=Tr.jred ll lx (lr.join rl) rx rr by simp [Tr.join]]
  by_cases hm:(lr.join rl).isR=true
  ·obtain⟨a,z,b,e⟩:=red_node hm
   rw [e] at ih ⊢
   exact joinR_any hl hr (jredB_any hl hr ih)
  ·have hm':(lr.join rl).isR=false:=by simpa using hm
   rw [show Tr.jred ll lx (lr.join rl) rx rr= .node true ll lx (.node true (lr.join rl) rx rr) by rcases not_red hm' with e|⟨_,_,_,e⟩<;>rw [e]<;>rfl]
   exact joinR_any hl hr (jredA_any hl hr ih hm')
 |case4 ll lx lr rl rx rr ih=>
  intro w pl pr hl hr
  rw [show (Tr.node false ll lx lr).join (Tr.node false rl rx rr)=Tr.jblk ll lx (lr.join rl) rx rr by simp [Tr.join]]
  by_cases hm:(lr.join rl).isR=true
  ·obtain⟨a,z,b,e⟩:=red_node hm
   rw [e] at ih ⊢
   exact joinK_any hl hr (jblkB_any hl hr ih)
  ·have hm':(lr.join rl).isR=false:=by simpa using hm
   rw [show Tr.jblk ll lx (lr.join rl) rx rr=ll.lsh lx (.node false (lr.join rl) rx rr) by rcases not_red hm' with e|⟨_,_,_,e⟩<;>rw [e]<;>rfl]
   exact joinK_any hl hr (jblkA_any hl hr ih hm')
 |case5 ll lx lr rl rx rr ih=>
  intro w pl pr hl hr
  rw [show (Tr.node false ll lx lr).join (Tr.node true rl rx rr)= .node true ((Tr.node false ll lx lr).join rl) rx rr by simp [Tr.join]]
  exact joinC_any hl hr ih
 |case6 ll lx lr rl rx rr ih=>
  intro w pl pr hl hr
  rw [show (Tr.node true ll lx lr).join (Tr.node false rl rx rr)= .node true ll lx (lr.join (.node false rl rx rr)) by simp [Tr.join]]
  exact joinD_any hl hr ih
theorem withN_any {w:World} {p:Value} (h:TrAt w .nil p) (it:Itm Nat):Calls Try.prog 81 #[p,itV it] w (Makes w (.node true .nil it .nil)):=by
 obtain rfl:p= .pointer none:=h
 obtain⟨W,hW⟩:∃W,w.alloc (.cells #[.int .u64 it.1, .int .i64 it.2.1, .pointer (some ⟨it.2.2,0,none⟩)] tIt)=W:=⟨_,rfl⟩
 have TW:Turned [] w W:=hW ▸ (Turned.refl [] w).alloc _
 have BW:Bx W w.heap.size it:=hW ▸ bx_new w it
 obtain⟨b0,b1,b2⟩:=bx_cells BW
 have HR:=xhd (red_any (w:=W) (l:= .nil) (r:= .nil) (pl:= .pointer none) (pr:= .pointer none) rfl rfl it)
 have HT:=xhd TW
 obtain⟨i1,i2,i3⟩:=it
 simp only [itV] at hW HR b0 b1 b2 ⊢
 clear TW BW
 go_enter Try.func81,Try.ntmps81
 go_wp2_with fail
 refine HR.out.mono ?_
 rintro e w1 ⟨q,rfl,hq,tq⟩
 have G:=xhd (And.intro hq (HT.out.join tq))
 obtain⟨aq,rfl⟩:=hq.shape
 clear hq tq
 go_wp2
 go_ret
 exact⟨_,rfl,G.out⟩
theorem withA_any {w:World} {l r:Tr Nat} {x it:Itm Nat} {p:Value} (h:TrAt w (.node true l x r) p) (ho:ordI (ky it) (ky x) < 0)
  (IH:∀(W':World) (q:Value),TrAt W' l q→Calls Try.prog 81 #[q,itV it] W' (Makes W' (Tr.ins it l))):Calls Try.prog 81 #[p,itV it] w (Makes w (.node true (Tr.ins it l) x r)):=by
 obtain⟨W,hW⟩:∃W,w.alloc (.cells #[.int .u64 it.1, .int .i64 it.2.1, .pointer (some ⟨it.2.2,0,none⟩)] tIt)=W:=⟨_,rfl⟩
 have TW:Turned [] w W:=hW ▸ (Turned.refl [] w).alloc _
 have BW:Bx W w.heap.size it:=hW ▸ bx_new w it
 obtain⟨b,pl,pr,rfl,m,hl,hr⟩:=h
 obtain⟨al,rfl⟩:=hl.shape
 obtain⟨ar,rfl⟩:=hr.shape
 have NW:=TW.same m (by simp)
 have HI:=xhd IH
 have Hs:=xhd (hl.later TW)
 have Ho:=xhd (hr.later TW)
 have HT:=xhd TW
 have HN:=xhd NW
 have HB:=xhd BW
 obtain⟨o,hoo⟩:∃o,ordI (ky it) (ky x)=o:=⟨_,rfl⟩
 have HO:=xhd (fun W'=>kord_any (ky it) (ky x) W')
 rw [hoo] at HO ho
 have ho':decide (o < 0)=true:=by simpa using ho
 obtain⟨_,_,_,_,c4,c5⟩:=nd_cells NW
 obtain⟨x1,x2,x3⟩:=x
 obtain⟨i1,i2,i3⟩:=it
 simp only [itV] at hW HO HI c4 c5 ⊢
 clear hoo TW BW NW m hl hr IH ho
 go_enter Try.func81,Try.ntmps81
 go_wp2_with fail
 go_quiet (fail)
 go_wp2_with fail
 obtain⟨D,hD⟩:∃D,(W.drewN nq).drew=D:=⟨_,rfl⟩
 have TD:Turned [] W D:=hD ▸ ((Turned.refl [] W).drewN nq).drew
 obtain⟨d0,d1,d2,d3,d4,d5⟩:=nd_cells (TD.same HN.out (by simp))
 obtain⟨e0,e1,e2⟩:=bx_cells (TD.same HB.out (by simp))
 simp only at d0 d1 d2 e0 e1 e2
 refine wp_still_tail_at 7 hD (by kernel_rfl) (by kernel_rfl) ?_
 clear hD
 simp only [List.take_succ_cons,List.take_zero,List.drop_succ_cons,List.drop_zero]
 repeat still_step
 refine wpStill_nil ?_
 go_wp2_with fail
 with_reducible refine (HO.out _).mono ?_
 rintro e W2 ⟨rfl,t2⟩
 have T2:=TD.join t2
 obtain⟨d0,d1,d2,d3,d4,d5⟩:=nd_cells (T2.same HN.out (by simp))
 obtain⟨e0,e1,e2⟩:=bx_cells (T2.same HB.out (by simp))
 simp only at d0 d1 d2 e0 e1 e2
 have H2:=xhd T2
 clear t2 TD c4 c5
 go_wp2_with fail
 with_reducible refine (HI.out _ _ (Hs.out.later H2.out)).mono ?_
 rintro e W3 ⟨q,rfl,hq,t3'⟩
 have t3:=H2.out.join t3'
 obtain⟨d0,d1,d2,d3,d4,d5⟩:=nd_cells (t3.same HN.out (by simp))
 simp only at d0 d1 d2
 have G1:=xhd hq
 have HL:=xhd (red_any G1.out (Ho.out.later t3) (x1,x2,x3))
 have H3:=xhd (HT.out.join t3)
 obtain⟨aq,rfl⟩:=hq.shape
 simp only [itV] at HL
 clear hq t3' t3
 go_wp2_with fail
 with_reducible refine HL.out.mono ?_
 rintro e W4 ⟨z,rfl,hz,t4⟩
 have G:=xhd (And.intro hz (H3.out.join t4))
 obtain⟨az,rfl⟩:=hz.shape
 clear hz t4
 go_wp2
 go_ret
 exact⟨_,rfl,G.out⟩
theorem withB_any {w:World} {l r:Tr Nat} {x it:Itm Nat} {p:Value} (h:TrAt w (.node false l x r) p) (ho:ordI (ky it) (ky x) < 0)
  (IH:∀(W':World) (q:Value),TrAt W' l q→Calls Try.prog 81 #[q,itV it] W' (Makes W' (Tr.ins it l))):Calls Try.prog 81 #[p,itV it] w (Makes w (Tr.bal (Tr.ins it l) x r)):=by
 obtain⟨W,hW⟩:∃W,w.alloc (.cells #[.int .u64 it.1, .int .i64 it.2.1, .pointer (some ⟨it.2.2,0,none⟩)] tIt)=W:=⟨_,rfl⟩
 have TW:Turned [] w W:=hW ▸ (Turned.refl [] w).alloc _
 have BW:Bx W w.heap.size it:=hW ▸ bx_new w it
 obtain⟨b,pl,pr,rfl,m,hl,hr⟩:=h
 obtain⟨al,rfl⟩:=hl.shape
 obtain⟨ar,rfl⟩:=hr.shape
 have NW:=TW.same m (by simp)
 have HI:=xhd IH
 have Hs:=xhd (hl.later TW)
 have Ho:=xhd (hr.later TW)
 have HT:=xhd TW
 have HN:=xhd NW
 have HB:=xhd BW
 obtain⟨o,hoo⟩:∃o,ordI (ky it) (ky x)=o:=⟨_,rfl⟩
 have HO:=xhd (fun W'=>kord_any (ky it) (ky x) W')
 rw [hoo] at HO ho
 have ho':decide (o < 0)=true:=by simpa using ho
 obtain⟨_,_,_,_,c4,c5⟩:=nd_cells NW
 obtain⟨x1,x2,x3⟩:=x
 obtain⟨i1,i2,i3⟩:=it
 simp only [itV] at hW HO HI c4 c5 ⊢
 clear hoo TW BW NW m hl hr IH ho
 go_enter Try.func81,Try.ntmps81
 go_wp2_with fail
 go_quiet (fail)
 go_wp2_with fail
 obtain⟨D,hD⟩:∃D,(W.drewN nq).drew=D:=⟨_,rfl⟩
 have TD:Turned [] W D:=hD ▸ ((Turned.refl [] W).drewN nq).drew
 obtain⟨d0,d1,d2,d3,d4,d5⟩:=nd_cells (TD.same HN.out (by simp))
 obtain⟨e0,e1,e2⟩:=bx_cells (TD.same HB.out (by simp))
 simp only at d0 d1 d2 e0 e1 e2
 refine wp_still_tail_at 7 hD (by kernel_rfl) (by kernel_rfl) ?_
 clear hD
 simp only [List.take_succ_cons,List.take_zero,List.drop_succ_cons,List.drop_zero]
 repeat still_step
 refine wpStill_nil ?_
 go_wp2_with fail
 with_reducible refine (HO.out _).mono ?_
 rintro e W2 ⟨rfl,t2⟩
 have T2:=TD.join t2
 obtain⟨d0,d1,d2,d3,d4,d5⟩:=nd_cells (T2.same HN.out (by simp))
 obtain⟨e0,e1,e2⟩:=bx_cells (T2.same HB.out (by simp))
 simp only at d0 d1 d2 e0 e1 e2
 have H2:=xhd T2
 clear t2 TD c4 c5
 go_wp2_with fail
 with_reducible refine (HI.out _ _ (Hs.out.later H2.out)).mono ?_
 rintro e W3 ⟨q,rfl,hq,t3'⟩
 have t3:=H2.out.join t3'
 obtain⟨d0,d1,d2,d3,d4,d5⟩:=nd_cells (t3.same HN.out (by simp))
 simp only at d0 d1 d2
 have G1:=xhd hq
 have HL:=xhd (bal_any G1.out (Ho.out.later t3) (x1,x2,x3))
 have H3:=xhd (HT.out.join t3)
 obtain⟨aq,rfl⟩:=hq.shape
 simp only [itV] at HL
 clear hq t3' t3
 go_wp2_with fail
 with_reducible refine HL.out.mono ?_
 rintro e W4 ⟨z,rfl,hz,t4⟩
 have G:=xhd (And.intro hz (H3.out.join t4))
 obtain⟨az,rfl⟩:=hz.shape
 clear hz t4
 go_wp2
 go_ret
 exact⟨_,rfl,G.out⟩
theorem withC_any {w:World} {l r:Tr Nat} {x it:Itm Nat} {p:Value} (h:TrAt w (.node true l x r) p) (ho:¬ordI (ky it) (ky x) < 0)
  (IH:∀(W':World) (q:Value),TrAt W' r q→Calls Try.prog 81 #[q,itV it] W' (Makes W' (Tr.ins it r))):Calls Try.prog 81 #[p,itV it] w (Makes w (.node true l x (Tr.ins it r))):=by
 obtain⟨W,hW⟩:∃W,w.alloc (.cells #[.int .u64 it.1, .int .i64 it.2.1, .pointer (some ⟨it.2.2,0,none⟩)] tIt)=W:=⟨_,rfl⟩
 have TW:Turned [] w W:=hW ▸ (Turned.refl [] w).alloc _
 have BW:Bx W w.heap.size it:=hW ▸ bx_new w it
 obtain⟨b,pl,pr,rfl,m,hl,hr⟩:=h
 obtain⟨al,rfl⟩:=hl.shape
 obtain⟨ar,rfl⟩:=hr.shape
 have NW:=TW.same m (by simp)
 have HI:=xhd IH
 have Hs:=xhd (hr.later TW)
 have Ho:=xhd (hl.later TW)
 have HT:=xhd TW
 have HN:=xhd NW
 have HB:=xhd BW
 obtain⟨o,hoo⟩:∃o,ordI (ky it) (ky x)=o:=⟨_,rfl⟩
 have HO:=xhd (fun W'=>kord_any (ky it) (ky x) W')
 rw [hoo] at HO ho
 have ho':decide (o < 0)=false:=by simpa using ho
 obtain⟨_,_,_,_,c4,c5⟩:=nd_cells NW
 obtain⟨x1,x2,x3⟩:=x
 obtain⟨i1,i2,i3⟩:=it
 simp only [itV] at hW HO HI c4 c5 ⊢
 clear hoo TW BW NW m hl hr IH ho
 go_enter Try.func81,Try.ntmps81
 go_wp2_with fail
 go_quiet (fail)
 go_wp2_with fail
 obtain⟨D,hD⟩:∃D,(W.drewN nq).drew=D:=⟨_,rfl⟩
 have TD:Turned [] W D:=hD ▸ ((Turned.refl [] W).drewN nq).drew
 obtain⟨d0,d1,d2,d3,d4,d5⟩:=nd_cells (TD.same HN.out (by simp))
 obtain⟨e0,e1,e2⟩:=bx_cells (TD.same HB.out (by simp))
 simp only at d0 d1 d2 e0 e1 e2
 refine wp_still_tail_at 7 hD (by kernel_rfl) (by kernel_rfl) ?_
 clear hD
 simp only [List.take_succ_cons,List.take_zero,List.drop_succ_cons,List.drop_zero]
 repeat still_step
 refine wpStill_nil ?_
 go_wp2_with fail
 with_reducible refine (HO.out _).mono ?_
 rintro e W2 ⟨rfl,t2⟩
 have T2:=TD.join t2
 obtain⟨d0,d1,d2,d3,d4,d5⟩:=nd_cells (T2.same HN.out (by simp))
 obtain⟨e0,e1,e2⟩:=bx_cells (T2.same HB.out (by simp))
 simp only at d0 d1 d2 e0 e1 e2
 have H2:=xhd T2
 clear t2 TD c4 c5
 go_wp2_with fail
 with_reducible refine (HI.out _ _ (Hs.out.later H2.out)).mono ?_
 rintro e W3 ⟨q,rfl,hq,t3'⟩
 have t3:=H2.out.join t3'
 obtain⟨d0,d1,d2,d3,d4,d5⟩:=nd_cells (t3.same HN.out (by simp))
 simp only at d0 d1 d2
 have G1:=xhd hq
 have HL:=xhd (red_any (Ho.out.later t3) G1.out (x1,x2,x3))
 have H3:=xhd (HT.out.join t3)
 obtain⟨aq,rfl⟩:=hq.shape
 simp only [itV] at HL
 clear hq t3' t3
 go_wp2_with fail
 with_reducible refine HL.out.mono ?_
 rintro e W4 ⟨z,rfl,hz,t4⟩
 have G:=xhd (And.intro hz (H3.out.join t4))
 obtain⟨az,rfl⟩:=hz.shape
 clear hz t4
 go_wp2
 go_ret
 exact⟨_,rfl,G.out⟩
theorem withD_any {w:World} {l r:Tr Nat} {x it:Itm Nat} {p:Value} (h:TrAt w (.node false l x r) p) (ho:¬ordI (ky it) (ky x) < 0)
  (IH:∀(W':World) (q:Value),TrAt W' r q→Calls Try.prog 81 #[q,itV it] W' (Makes W' (Tr.ins it r))):Calls Try.prog 81 #[p,itV it] w (Makes w (Tr.bal l x (Tr.ins it r))):=by
 obtain⟨W,hW⟩:∃W,w.alloc (.cells #[.int .u64 it.1, .int .i64 it.2.1, .pointer (some ⟨it.2.2,0,none⟩)] tIt)=W:=⟨_,rfl⟩
 have TW:Turned [] w W:=hW ▸ (Turned.refl [] w).alloc _
 have BW:Bx W w.heap.size it:=hW ▸ bx_new w it
 obtain⟨b,pl,pr,rfl,m,hl,hr⟩:=h
 obtain⟨al,rfl⟩:=hl.shape
 obtain⟨ar,rfl⟩:=hr.shape
 have NW:=TW.same m (by simp)
 have HI:=xhd IH
 have Hs:=xhd (hr.later TW)
 have Ho:=xhd (hl.later TW)
 have HT:=xhd TW
 have HN:=xhd NW
 have HB:=xhd BW
 obtain⟨o,hoo⟩:∃o,ordI (ky it) (ky x)=o:=⟨_,rfl⟩
 have HO:=xhd (fun W'=>kord_any (ky it) (ky x) W')
 rw [hoo] at HO ho
 have ho':decide (o < 0)=false:=by simpa using ho
 obtain⟨_,_,_,_,c4,c5⟩:=nd_cells NW
 obtain⟨x1,x2,x3⟩:=x
 obtain⟨i1,i2,i3⟩:=it
 simp only [itV] at hW HO HI c4 c5 ⊢
 clear hoo TW BW NW m hl hr IH ho
 go_enter Try.func81,Try.ntmps81
 go_wp2_with fail
 go_quiet (fail)
 go_wp2_with fail
 obtain⟨D,hD⟩:∃D,(W.drewN nq).drew=D:=⟨_,rfl⟩
 have TD:Turned [] W D:=hD ▸ ((Turned.refl [] W).drewN nq).drew
 obtain⟨d0,d1,d2,d3,d4,d5⟩:=nd_cells (TD.same HN.out (by simp))
 obtain⟨e0,e1,e2⟩:=bx_cells (TD.same HB.out (by simp))
 simp only at d0 d1 d2 e0 e1 e2
 refine wp_still_tail_at 7 hD (by kernel_rfl) (by kernel_rfl) ?_
 clear hD
 simp only [List.take_succ_cons,List.take_zero,List.drop_succ_cons,List.drop_zero]
 repeat still_step
 refine wpStill_nil ?_
 go_wp2_with fail
 with_reducible refine (HO.out _).mono ?_
 rintro e W2 ⟨rfl,t2⟩
 have T2:=TD.join t2
 obtain⟨d0,d1,d2,d3,d4,d5⟩:=nd_cells (T2.same HN.out (by simp))
 obtain⟨e0,e1,e2⟩:=bx_cells (T2.same HB.out (by simp))
 simp only at d0 d1 d2 e0 e1 e2
 have H2:=xhd T2
 clear t2 TD c4 c5
 go_wp2_with fail
 with_reducible refine (HI.out _ _ (Hs.out.later H2.out)).mono ?_
 rintro e W3 ⟨q,rfl,hq,t3'⟩
 have t3:=H2.out.join t3'
 obtain⟨d0,d1,d2,d3,d4,d5⟩:=nd_cells (t3.same HN.out (by simp))
 simp only at d0 d1 d2
 have G1:=xhd hq
 have HL:=xhd (bal_any (Ho.out.later t3) G1.out (x1,x2,x3))
 have H3:=xhd (HT.out.join t3)
 obtain⟨aq,rfl⟩:=hq.shape
 simp only [itV] at HL
 clear hq t3' t3
 go_wp2_with fail
 with_reducible refine HL.out.mono ?_
 rintro e W4 ⟨z,rfl,hz,t4⟩
 have G:=xhd (And.intro hz (H3.out.join t4))
 obtain⟨az,rfl⟩:=hz.shape
 clear hz t4
 go_wp2
 go_ret
 exact⟨_,rfl,G.out⟩
theorem with_any (it:Itm Nat):∀(t:Tr Nat) (w:World) (p:Value),TrAt w t p→Calls Try.prog 81 #[p,itV it] w (Makes w (Tr.ins it t))
 | .nil,_,_,h=>withN_any h it
 | .node c l x r,w,p,h=>by
   have il:=fun W' q hq=>with_any it l W' q hq
   have ir:=fun W' q hq=>with_any it r W' q hq
   by_cases ho:ordI (ky it) (ky x) < 0
   ·cases c
    ·rw [show Tr.ins it (.node false l x r)=Tr.bal (Tr.ins it l) x r by simp [Tr.ins,ho]]
     exact withB_any h ho il
    ·rw [show Tr.ins it (.node true l x r)= .node true (Tr.ins it l) x r by simp [Tr.ins,ho]]
     exact withA_any h ho il
   ·cases c
    ·rw [show Tr.ins it (.node false l x r)=Tr.bal l x (Tr.ins it r) by simp [Tr.ins,ho]]
     exact withD_any h ho ir
    ·rw [show Tr.ins it (.node true l x r)= .node true l x (Tr.ins it r) by simp [Tr.ins,ho]]
     exact withC_any h ho ir
end Go.Proofs.Ytbfifglcnhfccaa
