/-
  Red-black trees, over plain trees: what is put in, taken out, found; the order; red and black. No program.
  Red and black: what is put in and taken out leaves trees red and black, each way down with as many black ones. No program.
  Red and black, behind what is taken out; what may be there at all. No program.
  cmp.Compare, cmp.Or, the order of keys.
  Nodes in memory; red, black, isRed, isBlack, asRoot, reddened.
  balance, where both sides are red.
  A region that draws its order and holds calls of yield: a load may be taken first where what it reads abides. No program.
  range_turnsY, whose first variable is boxed: the assign code lays one block a round. No program.
  What Add, Sub, Mul, Compare and Near of package fixq answer, at every argument.
  The program's within, Core, Lock, Reach, Slack, Clamp.
  A loop over a function within an iterator: its own records are told by number, and the iterator tells the state in which it yields. No program.
  A loop over a function (TurnSeqY) within an iterator: its own records are told by number. No program.
  Layer 16's awake, given what is said of the program's queues.
  RunqNobody: what a nil queue answers, and the walk. (Made by gen_rqnobody.py.)
-/
import Derived.WalkKit
import Derived.Test.YtfmciiffcmfagaaGreatChecked
import Derived.Test.YtfmciiffcmfagaaGreatZAA
import Derived.Lib.Hide
import Derived.Deep.QuietTactic
import Derived.BigQuiet
import Derived.StillTailTactics
import Derived.Deep.RegionHeld3
import Derived.OrdersHeld
import Derived.OrdersIn
import Derived.RangeFuncSeq
import Derived.Deep.RegionWith
import Derived.Test.YtfmciiffcmfagaaGreatZAF
import Derived.Test.YtfmciiffcmfagaaGreatZAB
import Derived.TacticsIn
import Derived.OwnWalkIn
import Derived.Test.YtfmciiffcmfagaaGreatZAl
set_option maxRecDepth 100000
set_option maxHeartbeats 25600000
namespace Go.Proofs.YtfmciiffcmfagaaGreat
def ordI (a b:Int×Int):Int:=if a.1 < b.1 then -1 else if b.1 < a.1 then 1 else if a.2 < b.2 then -1 else if b.2 < a.2 then 1 else 0
theorem ord_cases (a b:Int×Int):(ordI a b= -1∧(a.1 < b.1∨a.1=b.1∧a.2 < b.2))∨(ordI a b=1∧(b.1 < a.1∨a.1=b.1∧b.2 < a.2))∨(ordI a b=0∧a=b):=by
 obtain⟨a1,a2⟩:=a
 obtain⟨b1,b2⟩:=b
 simp only [ordI,Prod.mk.injEq]
 split
 ·omega
 ·split
  ·omega
  ·split
   ·omega
   ·split<;>omega
theorem ord_zero {a b:Int×Int} :ordI a b=0↔a=b:=by
 have h:=ord_cases a b
 constructor
 ·intro e
  rcases h with h|h|h
  ·omega
  ·omega
  ·exact h.2
 ·rintro rfl
  rcases h with h|h|h
  ·omega
  ·omega
  ·exact h.1
theorem ord_neg {a b:Int×Int} :ordI a b < 0↔(a.1 < b.1∨a.1=b.1∧a.2 < b.2):=by
 have h:=ord_cases a b
 constructor
 ·intro e
  rcases h with h|h|h
  ·exact h.2
  ·omega
  ·omega
 ·intro e
  rcases h with h|h|h
  ·omega
  ·omega
  ·obtain⟨_,rfl⟩:=h;omega
theorem ord_flip (a b:Int×Int):ordI b a= - ordI a b:=by
 have h:=ord_cases a b
 have g:=ord_cases b a
 rcases h with h|h|h<;>rcases g with g|g|g<;>first|omega|(obtain⟨_,rfl⟩:=h;omega) |(obtain⟨_,rfl⟩:=g;omega)
theorem ord_trans {a b c:Int×Int} (h:ordI a b < 0) (g:ordI b c < 0):ordI a c < 0:=by
 rw [ord_neg] at*
 omega
abbrev Itm (β:Type):=Int×Int×β
abbrev ky {β:Type} (x:Itm β):Int×Int:=(x.1,x.2.1)
inductive Tr (β:Type) where
 |nil:Tr β
 |node (red:Bool) (l:Tr β) (x:Itm β) (r:Tr β):Tr β
section
variable {β:Type}
namespace Tr
def list:Tr β→List (Itm β)
 |nil=>[]
 |node _ l x r=>l.list++x::r.list
def size:Tr β→Nat
 |nil=>0
 |node _ l _ r=>l.size+r.size+1
def isR:Tr β→Bool
 |node true _ _ _=>true
 |_=>false
def isB:Tr β→Bool
 |node false _ _ _=>true
 |_=>false
def root:Tr β→Tr β
 |node true l x r=>node false l x r
 |t=>t
def redd:Tr β→Tr β
 |node _ l x r=>node true l x r
 |nil=>nil
def bal:Tr β→Itm β→Tr β→Tr β
 |node true a x b,y,node true c z d=>node true (node false a x b) y (node false c z d)
 |node true (node true a x b) y c,z,d=>node true (node false a x b) y (node false c z d)
 |node true a x (node true b y c),z,d=>node true (node false a x b) y (node false c z d)
 |a,x,node true b y (node true c z d)=>node true (node false a x b) y (node false c z d)
 |a,x,node true (node true b y c) z d=>node true (node false a x b) y (node false c z d)
 |a,x,b=>node false a x b
def ins (it:Itm β):Tr β→Tr β
 |nil=>node true nil it nil
 |node c l x r=>
  if ordI (ky it) (ky x) < 0 then (if c then node true (ins it l) x r else bal (ins it l) x r)
  else (if c then node true l x (ins it r) else bal l x (ins it r))
def lsh:Tr β→Itm β→Tr β→Tr β
 |node true a x b,y,c=>node true (node false a x b) y c
 |a,x,node false b y c=>bal a x (node true b y c)
 |a,x,node true (node _ b y c) z d=>node true (node false a x b) y (bal c z (redd d))
 |a,x,b=>node false a x b
def rsh:Tr β→Itm β→Tr β→Tr β
 |a,x,node true b y c=>node true a x (node false b y c)
 |node false a x b,y,c=>bal (node true a x b) y c
 |node true a x (node _ b y c),z,d=>node true (bal (redd a) x b) y (node false c z d)
 |a,x,b=>node false a x b
def jred (ll:Tr β) (lx:Itm β):Tr β→Itm β→Tr β→Tr β
 |node true a m b,rx,rr=>node true (node true ll lx a) m (node true b rx rr)
 |t,rx,rr=>node true ll lx (node true t rx rr)
def jblk (ll:Tr β) (lx:Itm β):Tr β→Itm β→Tr β→Tr β
 |node true a m b,rx,rr=>node true (node false ll lx a) m (node false b rx rr)
 |t,rx,rr=>lsh ll lx (node false t rx rr)
def join:Tr β→Tr β→Tr β
 |nil,r=>r
 |l,nil=>l
 |node true ll lx lr,node true rl rx rr=>jred ll lx (join lr rl) rx rr
 |node false ll lx lr,node false rl rx rr=>jblk ll lx (join lr rl) rx rr
 |node false ll lx lr,node true rl rx rr=>node true (join (node false ll lx lr) rl) rx rr
 |node true ll lx lr,node false rl rx rr=>node true ll lx (join lr (node false rl rx rr))
termination_by l r=>l.size+r.size
decreasing_by all_goals simp only [size];omega
def del (k:Int×Int):Tr β→Tr β
 |nil=>nil
 |node _ l x r=>
  if ordI k (ky x) < 0 then (if l.isR then node true (del k l) x r else lsh (del k l) x r)
  else if 0 < ordI k (ky x) then (if r.isR then node true l x (del k r) else rsh l x (del k r))
  else join l r
theorem list_root (t:Tr β):t.root.list=t.list:=by
 unfold root
 split<;>rfl
theorem list_redd (t:Tr β):t.redd.list=t.list:=by
 unfold redd
 split<;>rfl
theorem list_bal (l:Tr β) (x:Itm β) (r:Tr β):(bal l x r).list=l.list++x::r.list:=by
 unfold bal
 split<;>simp [list]
theorem list_lsh (l:Tr β) (x:Itm β) (r:Tr β):(lsh l x r).list=l.list++x::r.list:=by
 unfold lsh
 split<;>simp [list,list_bal,list_redd]
theorem list_rsh (l:Tr β) (x:Itm β) (r:Tr β):(rsh l x r).list=l.list++x::r.list:=by
 unfold rsh
 split<;>simp [list,list_bal,list_redd]
theorem list_jred (ll:Tr β) (lx:Itm β) (m:Tr β) (rx:Itm β) (rr:Tr β):(jred ll lx m rx rr).list=ll.list++lx::(m.list++rx::rr.list):=by
 unfold jred
 split<;>simp [list]
theorem list_jblk (ll:Tr β) (lx:Itm β) (m:Tr β) (rx:Itm β) (rr:Tr β):(jblk ll lx m rx rr).list=ll.list++lx::(m.list++rx::rr.list):=by
 unfold jblk
 split<;>simp [list,list_lsh]
theorem list_join (l r:Tr β):(join l r).list=l.list++r.list:=by
 induction l,r using join.induct with
 |case1 r=>simp [join,list]
 |case2 l h=>cases l<;>simp [join,list]
 |case3 ll lx lr rl rx rr ih=>simp [join,list,list_jred,ih]
 |case4 ll lx lr rl rx rr ih=>simp [join,list,list_jblk,ih]
 |case5 ll lx lr rl rx rr ih=>simp [join,list,ih]
 |case6 ll lx lr rl rx rr ih=>simp [join,list,ih]
def Srt (L:List (Itm β)):Prop:=L.Pairwise fun a b=>ordI (ky a) (ky b) < 0
def insL (it:Itm β):List (Itm β)→List (Itm β)
 |[]=>[it]
 |x::L=>if ordI (ky it) (ky x) < 0 then it::x::L else x::insL it L
def delL (k:Int×Int) (L:List (Itm β)):List (Itm β):=L.filter fun x=>decide (ordI k (ky x)≠0)
theorem insL_left (it x:Itm β) (B:List (Itm β)) (h:ordI (ky it) (ky x) < 0):∀A,insL it (A++x::B)=insL it A++x::B
 |[]=>by simp [insL,h]
 |a::A=>by
  simp only [List.cons_append,insL]
  split
  ·rfl
  ·rw [insL_left it x B h A];rfl
theorem insL_right (it x:Itm β) (B:List (Itm β)) (h:¬ordI (ky it) (ky x) < 0):∀A,(∀a ∈ A,ordI (ky a) (ky x) < 0)→insL it (A++x::B)=A++x::insL it B
 |[],_=>by simp [insL,h]
 |a::A,hA=>by
  have ha:¬ordI (ky it) (ky a) < 0:=fun e=>h (ord_trans e (hA a (by simp)))
  simp only [List.cons_append,insL,if_neg ha]
  rw [insL_right it x B h A (fun y hy=>hA y (by simp [hy]))]
theorem list_ins (it:Itm β):∀t:Tr β,Srt t.list→(ins it t).list=insL it t.list
 |nil,_=>by simp [ins,list,insL]
 |node c l x r,hs=>by
  have hs':Srt (l.list++x::r.list):=hs
  obtain⟨h1,h2,h3⟩:=List.pairwise_append.1 hs'
  obtain⟨h4,h5⟩:=List.pairwise_cons.1 h2
  simp only [ins]
  split
  ·rename_i h
   have ih:=list_ins it l h1
   simp only [list]
   rw [insL_left it x r.list h, ←ih]
   split
   ·rfl
   ·rw [list_bal]
  ·rename_i h
   have ih:=list_ins it r h5
   simp only [list]
   rw [insL_right it x r.list h l.list (fun a ha=>h3 a ha x (by simp)), ←ih]
   split
   ·rfl
   ·rw [list_bal]
theorem delL_none {k:Int×Int} {L:List (Itm β)} (h:∀x ∈ L,ordI k (ky x)≠0):delL k L=L:=by
 unfold delL
 rw [List.filter_eq_self]
 intro x hx
 simpa using h x hx
theorem list_del (k:Int×Int):∀t:Tr β,Srt t.list→(del k t).list=delL k t.list
 |nil,_=>by simp [del,list,delL]
 |node c l x r,hs=>by
  have hs':Srt (l.list++x::r.list):=hs
  obtain⟨h1,h2,h3⟩:=List.pairwise_append.1 hs'
  obtain⟨h4,h5⟩:=List.pairwise_cons.1 h2
  have ihl:=list_del k l h1
  have ihr:=list_del k r h5
  have hd:delL k (l.list++x::r.list)=delL k l.list++((if ordI k (ky x)≠0 then [x] else [])++delL k r.list):=by
   unfold delL
   rw [List.filter_append,List.filter_cons]
   split<;>simp_all
  simp only [list,del]
  rw [hd]
  split
  ·rename_i h
   have hr:delL k r.list=r.list:=delL_none fun y hy=>by have:=ord_trans h (h4 y hy);omega
   rw [if_pos (show ordI k (ky x)≠0 by omega),hr, ←ihl]
   split<;>simp [list,list_lsh]
  ·rename_i h
   split
   ·rename_i h'
    have hl:delL k l.list=l.list:=delL_none fun y hy=>by
     have e1:=h3 y hy x (by simp)
     have e2:=ord_flip k (ky x)
     have e3:=ord_trans e1 (show ordI (ky x) k < 0 by omega)
     have e4:=ord_flip k (ky y)
     omega
    rw [if_pos (show ordI k (ky x)≠0 by omega),hl, ←ihr]
    split<;>simp [list,list_rsh]
   ·rename_i h'
    have h0:ordI k (ky x)=0:=by omega
    have e:=ord_zero.1 h0
    have hl:delL k l.list=l.list:=delL_none fun y hy=>by
     have e1:=h3 y hy x (by simp)
     have e4:=ord_flip k (ky y)
     rw [←e] at e1
     omega
    have hr:delL k r.list=r.list:=delL_none fun y hy=>by
     have e1:=h4 y hy
     rw [←e] at e1
     omega
    rw [if_neg (show ¬ordI k (ky x)≠0 by omega),hl,hr,list_join]
    rfl
end Tr
end
end Go.Proofs.YtfmciiffcmfagaaGreat
namespace Go.Proofs.YtfmciiffcmfagaaGreat
namespace Tr
section
variable {β:Type}
def bh:Tr β→Nat
 |nil=>0
 |node c l _ _=>l.bh+(if c then 0 else 1)
def HH:Tr β→Prop
 |nil=>True
 |node _ l _ r=>l.HH∧r.HH∧l.bh=r.bh
def CC:Tr β→Prop
 |nil=>True
 |node c l _ r=>l.CC∧r.CC∧(c=true→l.isR=false∧r.isR=false)
def C2:Tr β→Prop
 |nil=>True
 |node _ l _ r=>l.CC∧r.CC
theorem CC.weak {t:Tr β} (h:t.CC):t.C2:=by
 cases t with
 |nil=>trivial
 |node c l x r=>exact⟨h.1,h.2.1⟩
theorem C2.whole {t:Tr β} (h:t.C2) (hr:t.isR=false):t.CC:=by
 cases t with
 |nil=>trivial
 |node c l x r=>
  refine⟨h.1,h.2,fun e=>?_⟩
  subst e
  simp [isR] at hr
theorem C2.root {t:Tr β} (h:t.C2):t.root.CC:=by
 cases t with
 |nil=>trivial
 |node c l x r=>
  cases c
  ·exact⟨h.1,h.2,fun e=>by cases e⟩
  ·exact⟨h.1,h.2,fun e=>by cases e⟩
theorem HH.root {t:Tr β} (h:t.HH):t.root.HH:=by
 cases t with
 |nil=>trivial
 |node c l x r=>cases c<;>exact h
theorem bal_high (l:Tr β) (x:Itm β) (r:Tr β) (hl:l.HH) (hr:r.HH) (h:l.bh=r.bh):(bal l x r).HH∧(bal l x r).bh=l.bh+1:=by
 unfold bal
 split
 all_goals
  simp only [HH,bh] at*
  simp_all
 all_goals omega
theorem bal_left (l:Tr β) (x:Itm β) (r:Tr β) (hl:l.C2) (hr:r.CC):(bal l x r).CC:=by
 unfold bal
 split
 ·simp [CC,C2,isR] at*
  simp [hl,hr]
 ·simp [CC,C2,isR] at*
  simp [hl,hr]
 ·simp [CC,C2,isR] at*
  simp [hl,hr]
 ·simp [CC,C2,isR] at*
 ·simp [CC,C2,isR] at*
 ·rename_i h1 h2 h3 h4 h5
  refine⟨?_,hr,fun e=>by cases e⟩
  cases l with
  |nil=>trivial
  |node c a y b=>
   refine⟨hl.1,hl.2,fun e=>?_⟩
   subst e
   constructor
   ·cases a with
    |nil=>rfl
    |node c a1 z a2=>
     cases c
     ·rfl
     ·exact (h1 _ _ _ _ _ rfl).elim
   ·cases b with
    |nil=>rfl
    |node c b1 z b2=>
     cases c
     ·rfl
     ·exact (h2 _ _ _ _ _ rfl).elim
theorem bal_right (l:Tr β) (x:Itm β) (r:Tr β) (hl:l.CC) (hr:r.C2):(bal l x r).CC:=by
 unfold bal
 split
 ·simp [CC,C2,isR] at*
  simp [hl,hr]
 ·simp [CC,C2,isR] at*
 ·simp [CC,C2,isR] at*
 ·simp [CC,C2,isR] at*
  simp [hl,hr]
 ·simp [CC,C2,isR] at*
  simp [hl,hr]
 ·rename_i h1 h2 h3 h4 h5
  refine⟨hl,?_,fun e=>by cases e⟩
  cases r with
  |nil=>trivial
  |node c a y b=>
   refine⟨hr.1,hr.2,fun e=>?_⟩
   subst e
   constructor
   ·cases a with
    |nil=>rfl
    |node c a1 z a2=>
     cases c
     ·rfl
     ·exact (h4 _ _ _ _ _ rfl).elim
   ·cases b with
    |nil=>rfl
    |node c b1 z b2=>
     cases c
     ·rfl
     ·exact (h3 _ _ _ _ _ rfl).elim
theorem ins_high (it:Itm β):∀t:Tr β,t.HH→(ins it t).HH∧(ins it t).bh=t.bh
 |nil,_=>⟨⟨trivial,trivial,rfl⟩,rfl⟩
 |node c l x r,h=>by
  obtain⟨h1,h2,h3⟩:=h
  have il:=ins_high it l h1
  have ir:=ins_high it r h2
  simp only [ins]
  split
  ·cases c
   ·have:=bal_high (ins it l) x r il.1 h2 (by omega)
    simp only [bh]
    exact⟨this.1,by simp;omega⟩
   ·simp only [if_true,bh]
    exact⟨⟨il.1,h2,by omega⟩,by omega⟩
  ·cases c
   ·have:=bal_high l x (ins it r) h1 ir.1 (by omega)
    simp only [bh]
    exact⟨this.1,by simp;omega⟩
   ·simp only [if_true,bh]
    exact⟨⟨h1,ir.1,by omega⟩,trivial⟩
theorem ins_red (it:Itm β):∀t:Tr β,t.CC→(ins it t).C2∧(t.isR=false→(ins it t).CC)
 |nil,_=>⟨⟨trivial,trivial⟩,fun _=>⟨trivial,trivial,fun _=>⟨rfl,rfl⟩⟩⟩
 |node c l x r,h=>by
  obtain⟨h1,h2,h3⟩:=h
  have il:=ins_red it l h1
  have ir:=ins_red it r h2
  simp only [ins]
  split
  ·cases c
   ·have:=bal_left (ins it l) x r il.1 h2
    exact⟨this.weak,fun _=>this⟩
   ·exact⟨⟨il.2 (h3 rfl).1,h2⟩,fun e=>by simp [isR] at e⟩
  ·cases c
   ·have:=bal_right l x (ins it r) h1 ir.1
    exact⟨this.weak,fun _=>this⟩
   ·exact⟨⟨h1,ir.2 (h3 rfl).2⟩,fun e=>by simp [isR] at e⟩
theorem lsh_high (l:Tr β) (x:Itm β) (r:Tr β) (hl:l.HH) (hr:r.HH) (h:l.bh+1=r.bh) (kl:l.C2) (kr:r.CC):
  (lsh l x r).HH∧(lsh l x r).bh=r.bh∧(lsh l x r).C2∧(r.isR=false→(lsh l x r).CC):=by
 unfold lsh
 split
 ·rename_i a y b
  simp only [HH,bh,C2,CC,isR] at*
  simp at h
  refine⟨⟨⟨hl.1,hl.2.1,hl.2.2⟩,hr,by simp;omega⟩,by simp;omega,⟨⟨kl.1,kl.2,fun e=>by cases e⟩,kr⟩,fun e=>⟨⟨kl.1,kl.2,fun e=>by cases e⟩,kr,by simpa using e⟩⟩
 ·rename_i b y c hn
  have hlr:l.isR=false:=by
   cases l with
   |nil=>rfl
   |node c a y b=>cases c;rfl;exact absurd rfl (hn _ _ _)
  obtain⟨r1,r2,r3⟩:=hr
  obtain⟨k1,k2,_⟩:=kr
  simp [bh] at h
  have g1:=bal_high l x (node true b y c) hl ⟨r1,r2,r3⟩ (by simp [bh];omega)
  have g2:=bal_right l x (node true b y c) (kl.whole hlr) ⟨k1,k2⟩
  exact⟨g1.1,by rw [g1.2];simp [bh];omega,g2.weak,fun _=>g2⟩
 ·rename_i cb b y c z d hn
  have hlr:l.isR=false:=by
   cases l with
   |nil=>rfl
   |node c a y b=>cases c;rfl;exact absurd rfl (hn _ _ _)
  obtain⟨⟨b1,b2,b3⟩,r2,r3⟩:=hr
  obtain⟨⟨p1,p2,p3⟩,k2,k3⟩:=kr
  obtain⟨q1,q2⟩:=k3 rfl
  have hcb:cb=false:=by cases cb;rfl;simp [isR] at q1
  subst hcb
  simp [bh] at h r3
  cases d with
  |nil=>simp [bh] at r3
  |node cd d1 w d2=>
   have hcd:cd=false:=by cases cd;rfl;simp [isR] at q2
   subst hcd
   obtain⟨d3,d4,d5⟩:=r2
   obtain⟨e1,e2,_⟩:=k2
   simp [bh] at r3
   have g1:=bal_high c z (node true d1 w d2) b2 ⟨d3,d4,d5⟩ (by simp [bh];omega)
   have g2:=bal_right c z (node true d1 w d2) p2 ⟨e1,e2⟩
   simp only [redd]
   refine⟨⟨⟨hl,b1,by omega⟩,g1.1,by rw [g1.2];simp [bh];omega⟩,by simp [bh];omega,⟨⟨kl.whole hlr,p1,fun e=>by cases e⟩,g2⟩,fun e=>by simp [isR] at e⟩
 ·rename_i h1 h2 h3
  exfalso
  cases r with
  |nil=>simp [bh] at h
  |node c b y d=>
   cases c
   ·first|exact (h1 _ _ _ rfl).elim|exact (h2 _ _ _ rfl).elim|exact (h3 _ _ _ rfl).elim|exact (h1 _ _ _ _ _ _ rfl).elim|exact (h2 _ _ _ _ _ _ rfl).elim|exact (h3 _ _ _ _ _ _ rfl).elim
   ·cases b with
    |nil=>simp [bh] at h
    |node cb b1 z b2=>first|exact (h1 _ _ _ rfl).elim|exact (h2 _ _ _ rfl).elim|exact (h3 _ _ _ rfl).elim|exact (h1 _ _ _ _ _ _ rfl).elim|exact (h2 _ _ _ _ _ _ rfl).elim|exact (h3 _ _ _ _ _ _ rfl).elim
theorem rsh_high (l:Tr β) (x:Itm β) (r:Tr β) (hl:l.HH) (hr:r.HH) (h:r.bh+1=l.bh) (kl:l.CC) (kr:r.C2):
  (rsh l x r).HH∧(rsh l x r).bh=l.bh∧(rsh l x r).C2∧(l.isR=false→(rsh l x r).CC):=by
 unfold rsh
 split
 ·rename_i a y b
  simp only [HH,bh,C2,CC,isR] at*
  simp at h
  refine⟨⟨hl,⟨hr.1,hr.2.1,hr.2.2⟩,by simp;omega⟩,by simp,⟨kl,⟨kr.1,kr.2,fun e=>by cases e⟩⟩,fun e=>⟨kl,⟨kr.1,kr.2,fun e=>by cases e⟩,by simpa using e⟩⟩
 ·rename_i a y b hn
  have hrr:r.isR=false:=by
   cases r with
   |nil=>rfl
   |node c a y b=>cases c;rfl;exact absurd rfl (hn _ _ _)
  obtain⟨r1,r2,r3⟩:=hl
  obtain⟨k1,k2,_⟩:=kl
  simp [bh] at h
  have g1:=bal_high (node true a y b) x r ⟨r1,r2,r3⟩ hr (by simp [bh];omega)
  have g2:=bal_left (node true a y b) x r ⟨k1,k2⟩ (kr.whole hrr)
  exact⟨g1.1,by rw [g1.2];simp [bh],g2.weak,fun _=>g2⟩
 ·rename_i a y cb b z c hn
  have hrr:r.isR=false:=by
   cases r with
   |nil=>rfl
   |node c a y b=>cases c;rfl;exact absurd rfl (hn _ _ _)
  obtain⟨r2,⟨b1,b2,b3⟩,r3⟩:=hl
  obtain⟨k2,⟨p1,p2,p3⟩,k3⟩:=kl
  obtain⟨q2,q1⟩:=k3 rfl
  have hcb:cb=false:=by cases cb;rfl;simp [isR] at q1
  subst hcb
  simp [bh] at h r3
  cases a with
  |nil=>simp [bh] at r3
  |node cd d1 w d2=>
   have hcd:cd=false:=by cases cd;rfl;simp [isR] at q2
   subst hcd
   obtain⟨d3,d4,d5⟩:=r2
   obtain⟨e1,e2,_⟩:=k2
   simp [bh] at r3 h
   have g1:=bal_high (node true d1 w d2) y b ⟨d3,d4,d5⟩ b1 (by simp [bh];omega)
   have g2:=bal_left (node true d1 w d2) y b ⟨e1,e2⟩ p1
   simp only [redd]
   refine⟨⟨g1.1,⟨b2,hr,by omega⟩,by rw [g1.2];simp [bh];omega⟩,by simp only [bh];rw [g1.2];simp [bh],⟨g2,⟨p2,kr.whole hrr,fun e=>by cases e⟩⟩,fun e=>by simp [isR] at e⟩
 ·rename_i h1 h2 h3
  exfalso
  cases l with
  |nil=>simp [bh] at h
  |node c d y b=>
   cases c
   ·first|exact (h1 _ _ _ rfl).elim|exact (h2 _ _ _ rfl).elim|exact (h3 _ _ _ rfl).elim|exact (h1 _ _ _ _ _ _ rfl).elim|exact (h2 _ _ _ _ _ _ rfl).elim|exact (h3 _ _ _ _ _ _ rfl).elim
   ·cases b with
    |nil=>obtain⟨_,_,r3⟩:=hl;simp [bh] at h r3;omega
    |node cb b1 z b2=>first|exact (h1 _ _ _ rfl).elim|exact (h2 _ _ _ rfl).elim|exact (h3 _ _ _ rfl).elim|exact (h1 _ _ _ _ _ _ rfl).elim|exact (h2 _ _ _ _ _ _ rfl).elim|exact (h3 _ _ _ _ _ _ rfl).elim
end
end Tr
end Go.Proofs.YtfmciiffcmfagaaGreat
namespace Go.Proofs.YtfmciiffcmfagaaGreat
namespace Tr
section
variable {β:Type}
theorem jred_high (ll:Tr β) (lx:Itm β) (m:Tr β) (rx:Itm β) (rr:Tr β) (hl:ll.HH) (hm:m.HH) (hr:rr.HH) (h1:ll.bh=m.bh) (h2:rr.bh=m.bh) (kl:ll.CC) (km:m.CC) (kr:rr.CC) (rl:ll.isR=false) (rr':rr.isR=false):
  (jred ll lx m rx rr).HH∧(jred ll lx m rx rr).bh=ll.bh∧(jred ll lx m rx rr).C2:=by
 unfold jred
 split
 ·rename_i a y b
  obtain⟨m1,m2,m3⟩:=hm
  obtain⟨n1,n2,n3⟩:=km
  obtain⟨q1,q2⟩:=n3 rfl
  simp [bh] at h1 h2
  exact⟨⟨⟨hl,m1,by omega⟩,⟨m2,hr,by omega⟩,by simp [bh];omega⟩,by simp [bh],⟨⟨kl,n1,fun _=>⟨rl,q1⟩⟩,⟨n2,kr,fun _=>⟨q2,rr'⟩⟩⟩⟩
 ·rename_i hn
  have hmr:m.isR=false:=by
   cases m with
   |nil=>rfl
   |node c a y b=>cases c;rfl;exact (hn _ _ _ rfl).elim
  exact⟨⟨hl,⟨hm,hr,by omega⟩,by simp [bh];omega⟩,by simp [bh],⟨kl,⟨km,kr,fun _=>⟨hmr,rr'⟩⟩⟩⟩
theorem jblk_high (ll:Tr β) (lx:Itm β) (m:Tr β) (rx:Itm β) (rr:Tr β) (hl:ll.HH) (hm:m.HH) (hr:rr.HH) (h1:ll.bh=m.bh) (h2:rr.bh=m.bh) (kl:ll.CC) (km:m.C2) (kr:rr.CC):
  (jblk ll lx m rx rr).HH∧(jblk ll lx m rx rr).bh=ll.bh+1∧(jblk ll lx m rx rr).CC:=by
 unfold jblk
 split
 ·rename_i a y b
  obtain⟨m1,m2,m3⟩:=hm
  obtain⟨n1,n2⟩:=km
  simp [bh] at h1 h2
  exact⟨⟨⟨hl,m1,by omega⟩,⟨m2,hr,by omega⟩,by simp [bh];omega⟩,by simp [bh],⟨⟨kl,n1,fun e=>by cases e⟩,⟨n2,kr,fun e=>by cases e⟩,fun _=>⟨rfl,rfl⟩⟩⟩
 ·rename_i hn
  have hmr:m.isR=false:=by
   cases m with
   |nil=>rfl
   |node c a y b=>cases c;rfl;exact (hn _ _ _ rfl).elim
  have g:=lsh_high ll lx (node false m rx rr) hl ⟨hm,hr,by omega⟩ (by simp [bh];omega) kl.weak ⟨km.whole hmr,kr,fun e=>by cases e⟩
  exact⟨g.1,by rw [g.2.1];simp [bh];omega,g.2.2.2 rfl⟩
theorem join_high (l r:Tr β):l.HH→r.HH→l.bh=r.bh→l.CC→r.CC→(join l r).HH∧(join l r).bh=l.bh∧(join l r).C2∧(l.isR=false→r.isR=false→(join l r).CC):=by
 induction l,r using join.induct with
 |case1 r=>
  intro h1 h2 h3 h4 h5
  simp only [join]
  exact⟨h2,h3.symm,h5.weak,fun _ _=>h5⟩
 |case2 l h=>
  intro h1 h2 h3 h4 h5
  have e:join l nil=l:=by cases l<;>simp [join]
  rw [e]
  exact⟨h1,rfl,h4.weak,fun _ _=>h4⟩
 |case3 ll lx lr rl rx rr ih=>
  intro h1 h2 h3 h4 h5
  obtain⟨a1,a2,a3⟩:=h1
  obtain⟨b1,b2,b3⟩:=h2
  obtain⟨c1,c2,c3⟩:=h4
  obtain⟨d1,d2,d3⟩:=h5
  simp [bh] at h3
  obtain⟨i1,i2,i3,i4⟩:=ih a2 b1 (by omega) c2 d1
  have g:=jred_high ll lx (join lr rl) rx rr a1 i1 b2 (by omega) (by omega) c1 (i4 (c3 rfl).2 (d3 rfl).1) d2 (c3 rfl).1 (d3 rfl).2
  simp only [join]
  exact⟨g.1,by rw [g.2.1];simp [bh],g.2.2,fun e=>by simp [isR] at e⟩
 |case4 ll lx lr rl rx rr ih=>
  intro h1 h2 h3 h4 h5
  obtain⟨a1,a2,a3⟩:=h1
  obtain⟨b1,b2,b3⟩:=h2
  obtain⟨c1,c2,c3⟩:=h4
  obtain⟨d1,d2,d3⟩:=h5
  simp [bh] at h3
  obtain⟨i1,i2,i3,i4⟩:=ih a2 b1 (by omega) c2 d1
  have g:=jblk_high ll lx (join lr rl) rx rr a1 i1 b2 (by omega) (by omega) c1 i3 d2
  simp only [join]
  exact⟨g.1,by rw [g.2.1];simp [bh],g.2.2.weak,fun _ _=>g.2.2⟩
 |case5 ll lx lr rl rx rr ih=>
  intro h1 h2 h3 h4 h5
  obtain⟨b1,b2,b3⟩:=h2
  obtain⟨d1,d2,d3⟩:=h5
  simp [bh] at h3
  obtain⟨i1,i2,i3,i4⟩:=ih h1 b1 (by simp [bh];omega) h4 d1
  simp [bh] at i2
  simp only [join]
  exact⟨⟨i1,b2,by omega⟩,by simp [bh];omega,⟨i4 rfl (d3 rfl).1,d2⟩,fun _ e=>by simp [isR] at e⟩
 |case6 ll lx lr rl rx rr ih=>
  intro h1 h2 h3 h4 h5
  obtain⟨a1,a2,a3⟩:=h1
  obtain⟨c1,c2,c3⟩:=h4
  simp [bh] at h3
  obtain⟨i1,i2,i3,i4⟩:=ih a2 h2 (by simp [bh];omega) c2 h5
  simp only [join]
  exact⟨⟨a1,i1,by omega⟩,by simp [bh],⟨c1,i4 (c3 rfl).2 rfl⟩,fun e=>by simp [isR] at e⟩
def has (k:Int×Int) (t:Tr β):Prop:=∃x ∈ t.list,ky x=k
theorem has_left {k:Int×Int} {c:Bool} {l r:Tr β} {x:Itm β} (hs:Srt (node c l x r).list) (h:has k (node c l x r)) (hk:ordI k (ky x) < 0):has k l:=by
 obtain⟨y,hy,rfl⟩:=h
 have hs':Srt (l.list++x::r.list):=hs
 obtain⟨h1,h2,h3⟩:=List.pairwise_append.1 hs'
 obtain⟨h4,h5⟩:=List.pairwise_cons.1 h2
 simp only [list,List.mem_append,List.mem_cons] at hy
 rcases hy with hy|rfl|hy
 ·exact⟨y,hy,rfl⟩
 ·have:=(ord_zero (a:=ky y) (b:=ky y)).2 rfl
  omega
 ·have e1:=h4 y hy
  have e2:=ord_flip (ky x) (ky y)
  omega
theorem has_right {k:Int×Int} {c:Bool} {l r:Tr β} {x:Itm β} (hs:Srt (node c l x r).list) (h:has k (node c l x r)) (hk:0 < ordI k (ky x)):has k r:=by
 obtain⟨y,hy,rfl⟩:=h
 have hs':Srt (l.list++x::r.list):=hs
 obtain⟨h1,h2,h3⟩:=List.pairwise_append.1 hs'
 simp only [list,List.mem_append,List.mem_cons] at hy
 rcases hy with hy|rfl|hy
 ·have:=h3 y hy x (by simp)
  omega
 ·have:=(ord_zero (a:=ky y) (b:=ky y)).2 rfl
  omega
 ·exact⟨y,hy,rfl⟩
theorem srt_left {c:Bool} {l r:Tr β} {x:Itm β} (hs:Srt (node c l x r).list):Srt l.list:=(List.pairwise_append.1 (show Srt (l.list++x::r.list) from hs)).1
theorem srt_right {c:Bool} {l r:Tr β} {x:Itm β} (hs:Srt (node c l x r).list):Srt r.list:=(List.pairwise_cons.1 (List.pairwise_append.1 (show Srt (l.list++x::r.list) from hs)).2.1).2
theorem has_nil {k:Int×Int} (h:has k (nil:Tr β)):False:=by
 obtain⟨y,hy,_⟩:=h
 simp [list] at hy
theorem del_high (k:Int×Int):∀t:Tr β,t.HH→t.CC→Srt t.list→has k t→
  (del k t).HH∧(t.isR=false→(del k t).bh+1=t.bh∧(del k t).C2)∧(t.isR=true→(del k t).bh=t.bh∧(del k t).CC)
 |nil,_,_,_,h=>(has_nil h).elim
 |node c l x r,hh,hc,hs,hk=>by
  obtain⟨a1,a2,a3⟩:=hh
  obtain⟨c1,c2,c3⟩:=hc
  simp only [del]
  split
  ·rename_i h
   obtain⟨i1,i2,i3⟩:=del_high k l a1 c1 (srt_left hs) (has_left hs hk h)
   by_cases hr:l.isR=true
   ·rw [if_pos hr]
    obtain⟨j1,j2⟩:=i3 hr
    have hcf:c=false:=by cases c;rfl;exact absurd hr (by simp [(c3 rfl).1])
    subst hcf
    exact⟨⟨i1,a2,by omega⟩,fun _=>⟨by simp [bh];omega,⟨j2,c2⟩⟩,fun e=>by simp [isR] at e⟩
   ·rw [if_neg hr]
    obtain⟨j1,j2⟩:=i2 (by simpa using hr)
    obtain⟨g1,g2,g3,g4⟩:=lsh_high (del k l) x r i1 a2 (by omega) j2 c2
    refine⟨g1,fun e=>?_,fun e=>?_⟩
    ·have hcf:c=false:=by cases c;rfl;simp [isR] at e
     subst hcf
     exact⟨by simp [bh];omega,g3⟩
    ·have hct:c=true:=by cases c;simp [isR] at e;rfl
     subst hct
     exact⟨by simp [bh];omega,g4 (c3 rfl).2⟩
  ·rename_i h
   split
   ·rename_i h'
    obtain⟨i1,i2,i3⟩:=del_high k r a2 c2 (srt_right hs) (has_right hs hk h')
    by_cases hr:r.isR=true
    ·rw [if_pos hr]
     obtain⟨j1,j2⟩:=i3 hr
     have hcf:c=false:=by cases c;rfl;exact absurd hr (by simp [(c3 rfl).2])
     subst hcf
     exact⟨⟨a1,i1,by omega⟩,fun _=>⟨by simp [bh],⟨c1,j2⟩⟩,fun e=>by simp [isR] at e⟩
    ·rw [if_neg hr]
     obtain⟨j1,j2⟩:=i2 (by simpa using hr)
     obtain⟨g1,g2,g3,g4⟩:=rsh_high l x (del k r) a1 i1 (by omega) c1 j2
     refine⟨g1,fun e=>?_,fun e=>?_⟩
     ·have hcf:c=false:=by cases c;rfl;simp [isR] at e
      subst hcf
      exact⟨by simp [bh];omega,g3⟩
     ·have hct:c=true:=by cases c;simp [isR] at e;rfl
      subst hct
      exact⟨by simp [bh];omega,g4 (c3 rfl).1⟩
   ·obtain⟨g1,g2,g3,g4⟩:=join_high l r a1 a2 a3 c1 c2
    refine⟨g1,fun e=>?_,fun e=>?_⟩
    ·have hcf:c=false:=by cases c;rfl;simp [isR] at e
     subst hcf
     exact⟨by simp [bh];omega,g3⟩
    ·have hct:c=true:=by cases c;simp [isR] at e;rfl
     subst hct
     exact⟨by simp [bh];omega,g4 (c3 rfl).1 (c3 rfl).2⟩
structure Good (t:Tr β):Prop where
 hh:t.HH
 cc:t.CC
 so:Srt t.list
theorem Good.nil:Good (nil:Tr β):=⟨trivial,trivial,List.Pairwise.nil⟩
theorem srt_insL {it:Itm β} :∀ {L:List (Itm β)},Srt L→(∀x ∈ L,ordI (ky it) (ky x)≠0)→Srt (insL it L)
 |[],_,_=>List.pairwise_singleton _ _
 |x::L,hs,hn=>by
  obtain⟨h1,h2⟩:=List.pairwise_cons.1 hs
  simp only [insL]
  split
  ·rename_i h
   exact List.pairwise_cons.2 ⟨fun y hy=>by
    rcases List.mem_cons.1 hy with rfl|hy
    ·exact h
    ·exact ord_trans h (h1 y hy),hs⟩
  ·rename_i h
   refine List.pairwise_cons.2 ⟨fun y hy=>?_,srt_insL h2 (fun z hz=>hn z (by simp [hz]))⟩
   have mem:∀M:List (Itm β),y ∈ insL it M→y=it∨y ∈ M:=by
    intro M
    induction M with
    |nil=>intro h;simpa [insL] using h
    |cons z M ih=>
     intro h
     simp only [insL] at h
     split at h
     ·simpa using h
     ·rcases List.mem_cons.1 h with rfl|h
      ·exact .inr (by simp)
      ·rcases ih h with h|h
       ·exact .inl h
       ·exact .inr (by simp [h])
   rcases mem L hy with rfl|hy
   ·have h0:=hn x (by simp)
    have e:=ord_flip (ky y) (ky x)
    show ordI (ky x) (ky y) < 0
    omega
   ·exact h1 y hy
theorem Good.ins {t:Tr β} (h:Good t) (it:Itm β) (hn:∀x ∈ t.list,ordI (ky it) (ky x)≠0):Good (ins it t).root∧(ins it t).root.list=insL it t.list:=by
 have hl:=list_ins it t h.so
 refine⟨⟨(ins_high it t h.hh).1.root,(ins_red it t h.cc).1.root,?_⟩,by rw [list_root,hl]⟩
 rw [list_root,hl]
 exact srt_insL h.so hn
theorem Good.del {t:Tr β} (h:Good t) (k:Int×Int) (hk:has k t):Good (del k t).root∧(del k t).root.list=delL k t.list:=by
 have hl:=list_del k t h.so
 obtain⟨g1,g2,g3⟩:=del_high k t h.hh h.cc h.so hk
 have hc:(Tr.del k t).C2:=by
  by_cases e:t.isR=true
  ·exact (g3 e).2.weak
  ·exact (g2 (by simpa using e)).2
 refine⟨⟨g1.root,hc.root,?_⟩,by rw [list_root,hl]⟩
 rw [list_root,hl]
 exact h.so.filter _
end
end Tr
end Go.Proofs.YtfmciiffcmfagaaGreat
namespace Go.Proofs.YtfmciiffcmfagaaGreat
open Go.RowKit
theorem wp_still_tail_at {P:Program} {id:Nat} {Q:Exit→Act→World→Prop} {a:Act} {w D:World} {l:List Oper} (n:Nat) (hD:w.drew=D) (hm:P.follows .mixedOrders=true) (hB:Region.lexTailB .any l.toArray n=true)
  (h:wpStill P l.toArray D (fun a'=>wpList P l.toArray Q (l.drop n) a' D) (l.take n) a):(Code.region id l.toArray true).wp P Q a w:=by
 subst hD
 exact wp_region_still_tail n hm hB h
theorem isNaNU (x:Int) (w:World):Calls Tryz.prog 118 #[.int .u64 x] w fun e w'=>e= .returned (.bool false)∧w=w':=by
 have h:(x != x)=false:=by simp
 go_enter Tryz.func118,Tryz.ntmps118
 go_wp2
 go_ret
 exact⟨rfl,rfl⟩
theorem isNaNI (x:Int) (w:World):Calls Tryz.prog 119 #[.int .i64 x] w fun e w'=>e= .returned (.bool false)∧w=w':=by
 have h:(x != x)=false:=by simp
 go_enter Tryz.func119,Tryz.ntmps119
 go_wp2
 go_ret
 exact⟨rfl,rfl⟩
def cmpI (x y:Int):Int:=if x < y then -1 else if y < x then 1 else 0
theorem compareU (x y:Int) (w:World):Calls Tryz.prog 111 #[.int .u64 x, .int .u64 y] w fun e w'=>e= .returned (.int .i64 (cmpI x y))∧w=w':=by
 have HX:=xhd (fun W=>isNaNU x W)
 have HY:=xhd (fun W=>isNaNU y W)
 by_cases h:x < y
 ·rw [show cmpI x y= -1 by simp [cmpI,h]]
  go_enter Tryz.func111,Tryz.ntmps111
  go_wp2_with fail
  refine (HX.out _).mono ?_
  rintro e w1 ⟨rfl,rfl⟩
  go_wp2_with fail
  refine (HY.out _).mono ?_
  rintro e w1 ⟨rfl,rfl⟩
  go_wp2
  go_ret
  exact⟨rfl,rfl⟩
 ·by_cases g:y < x
  ·rw [show cmpI x y=1 by simp [cmpI,h,g]]
   go_enter Tryz.func111,Tryz.ntmps111
   go_wp2_with fail
   refine (HX.out _).mono ?_
   rintro e w1 ⟨rfl,rfl⟩
   go_wp2_with fail
   refine (HY.out _).mono ?_
   rintro e w1 ⟨rfl,rfl⟩
   go_wp2
   go_ret
   exact⟨rfl,rfl⟩
  ·rw [show cmpI x y=0 by simp [cmpI,h,g]]
   go_enter Tryz.func111,Tryz.ntmps111
   go_wp2_with fail
   refine (HX.out _).mono ?_
   rintro e w1 ⟨rfl,rfl⟩
   go_wp2_with fail
   refine (HY.out _).mono ?_
   rintro e w1 ⟨rfl,rfl⟩
   go_wp2
   go_ret
   exact⟨rfl,rfl⟩
theorem compareI (x y:Int) (w:World):Calls Tryz.prog 112 #[.int .i64 x, .int .i64 y] w fun e w'=>e= .returned (.int .i64 (cmpI x y))∧w=w':=by
 have HX:=xhd (fun W=>isNaNI x W)
 have HY:=xhd (fun W=>isNaNI y W)
 by_cases h:x < y
 ·rw [show cmpI x y= -1 by simp [cmpI,h]]
  go_enter Tryz.func112,Tryz.ntmps112
  go_wp2_with fail
  refine (HX.out _).mono ?_
  rintro e w1 ⟨rfl,rfl⟩
  go_wp2_with fail
  refine (HY.out _).mono ?_
  rintro e w1 ⟨rfl,rfl⟩
  go_wp2
  go_ret
  exact⟨rfl,rfl⟩
 ·by_cases g:y < x
  ·rw [show cmpI x y=1 by simp [cmpI,h,g]]
   go_enter Tryz.func112,Tryz.ntmps112
   go_wp2_with fail
   refine (HX.out _).mono ?_
   rintro e w1 ⟨rfl,rfl⟩
   go_wp2_with fail
   refine (HY.out _).mono ?_
   rintro e w1 ⟨rfl,rfl⟩
   go_wp2
   go_ret
   exact⟨rfl,rfl⟩
  ·rw [show cmpI x y=0 by simp [cmpI,h,g]]
   go_enter Tryz.func112,Tryz.ntmps112
   go_wp2_with fail
   refine (HX.out _).mono ?_
   rintro e w1 ⟨rfl,rfl⟩
   go_wp2_with fail
   refine (HY.out _).mono ?_
   rintro e w1 ⟨rfl,rfl⟩
   go_wp2
   go_ret
   exact⟨rfl,rfl⟩
def orI (x y:Int):Int:=if x=0 then y else x
theorem ord_or (a b:Int×Int):orI (cmpI a.1 b.1) (cmpI a.2 b.2)=ordI a b:=by
 unfold orI cmpI ordI
 repeat' split
 all_goals omega
theorem or_any (x y:Int) (g:Nat) (w:World) (h0:w.cell? ⟨g,0,none⟩=some (.int .i64 x)) (h1:w.cell? ⟨g,1,none⟩=some (.int .i64 y)):
  Calls Tryz.prog 110 #[.slice (some ⟨g,0,none⟩) 2 2] w fun e w'=>e= .returned (.int .i64 (orI x y))∧w=w':=by
 by_cases hx:x=0
 ·subst hx
  by_cases hy:y=0
  ·subst hy
   go_enter Tryz.func110,Tryz.ntmps110
   go_wp2
   refine wp_loop_rounds 3 ?_
   rw [rounds_succ]
   go_wp2
   rw [rounds_succ]
   go_wp2
   rw [rounds_succ]
   go_wp2
   go_ret
   exact⟨rfl,rfl⟩
  ·have e1:(y != 0)=true:=by simpa using hy
   rw [show orI 0 y=y by simp [orI]]
   go_enter Tryz.func110,Tryz.ntmps110
   go_wp2
   refine wp_loop_rounds 2 ?_
   rw [rounds_succ]
   go_wp2
   rw [rounds_succ]
   go_wp2
   go_ret
   exact⟨rfl,rfl⟩
 ·have e1:(x != 0)=true:=by simpa using hx
  rw [show orI x y=x by simp [orI,hx]]
  go_enter Tryz.func110,Tryz.ntmps110
  go_wp2
  refine wp_loop_rounds 1 ?_
  rw [rounds_succ]
  go_wp2
  go_ret
  exact⟨rfl,rfl⟩
theorem kord_any (a b:Int×Int) (w:World):Calls Tryz.prog 97 #[.agg #[.int .u64 a.1, .int .i64 a.2], .agg #[.int .u64 b.1, .int .i64 b.2]] w fun e w'=>e= .returned (.int .i64 (ordI a b))∧Turned [] w w':=by
 have HU:=xhd (fun W=>compareU a.1 b.1 W)
 have HI:=xhd (fun W=>compareI a.2 b.2 W)
 rw [←ord_or]
 obtain⟨p,hp⟩:∃p,cmpI a.1 b.1=p:=⟨_,rfl⟩
 obtain⟨q,hq⟩:∃q,cmpI a.2 b.2=q:=⟨_,rfl⟩
 rw [hp] at HU ⊢
 rw [hq] at HI ⊢
 obtain⟨a1,a2⟩:=a
 obtain⟨b1,b2⟩:=b
 clear hp hq
 simp only at HU HI ⊢
 go_enter Tryz.func97,Tryz.ntmps97
 go_wp2
 obtain⟨D,hD⟩:∃D,((w.alloc (.cells #[.int .u64 a1, .int .i64 a2] 84)).alloc (.cells #[.int .u64 b1, .int .i64 b2] 84)).drew=D:=⟨_,rfl⟩
 have T0:Turned [] w D:=hD ▸ (((Turned.refl [] w).alloc _).alloc _).drew
 have K0:D.heap[w.heap.size]?=some (.cells #[.int .u64 a1, .int .i64 a2] 84 (0,0)):=by rw [←hD];exact (Below.heap_alloc _ _ _ (by simp)).trans (heap_alloc_new w _)
 have K1:D.heap[w.heap.size+1]?=some (.cells #[.int .u64 b1, .int .i64 b2] 84 (0,0)):=by
  have e:=heap_alloc_new (w.alloc (.cells #[.int .u64 a1, .int .i64 a2] 84)) (.cells #[.int .u64 b1, .int .i64 b2] 84)
  rw [show (w.alloc (.cells #[.int .u64 a1, .int .i64 a2] 84)).heap.size=w.heap.size+1 by simp] at e
  rw [←hD]
  exact e
 have x0:D.cell? ⟨w.heap.size,0,none⟩=some (.int .u64 a1):=by simp [World.cell?,K0]
 have x1:D.cell? ⟨w.heap.size,1,none⟩=some (.int .i64 a2):=by simp [World.cell?,K0]
 have y0:D.cell? ⟨w.heap.size+1,0,none⟩=some (.int .u64 b1):=by simp [World.cell?,K1]
 have y1:D.cell? ⟨w.heap.size+1,1,none⟩=some (.int .i64 b2):=by simp [World.cell?,K1]
 have T1:=xhd T0
 clear T0 K0 K1
 refine wp_still_tail_at 10 hD (by kernel_rfl) (by kernel_rfl) ?_
 clear hD
 simp only [List.take_succ_cons,List.take_zero,List.drop_succ_cons,List.drop_zero]
 repeat still_step
 still_call ((HU.out _).mono (fun e w' ⟨he,hw⟩=>⟨he,hw.symm⟩))
 repeat still_step
 still_call ((HI.out _).mono (fun e w' ⟨he,hw⟩=>⟨he,hw.symm⟩))
 refine wpStill_nil ?_
 go_wp2_with fail
 refine (or_any p q _ _ (by simp) (by simp)).mono ?_
 rintro e w1 ⟨rfl,rfl⟩
 go_wp2
 go_ret
 exact⟨rfl,T1.out.alloc _⟩
abbrev tNd:TypeId:=130
abbrev tIt:TypeId:=120
abbrev ndCells (x:Itm Nat) (c:Bool) (pl pr:Value):Array Value:= #[.int .u64 x.1, .int .i64 x.2.1, .pointer (some ⟨x.2.2,0,none⟩), .bool c,pl,pr]
abbrev itV (x:Itm Nat):Value:= .agg #[.int .u64 x.1, .int .i64 x.2.1, .pointer (some ⟨x.2.2,0,none⟩)]
def TrAt (w:World):Tr Nat→Value→Prop
 | .nil,p=>p= .pointer none
 | .node c l x r,p=>∃b pl pr,p= .pointer (some ⟨b,0,none⟩)∧w.heap[b]?=some (.cells (ndCells x c pl pr) tNd (0,0))∧TrAt w l pl∧TrAt w r pr
def KeepsN (w w':World):Prop:=∀(k:Nat) (cs:Array Value),w.heap[k]?=some (Obj.cells cs tNd (0,0))→w'.heap[k]?=some (Obj.cells cs tNd (0,0))
theorem TrAt.keep {w w':World} (hk:KeepsN w w'):∀ {t:Tr Nat} {p:Value},TrAt w t p→TrAt w' t p
 | .nil,_,h=>h
 | .node _ _ _ _,_,⟨b,pl,pr,h1,h2,h3,h4⟩=>⟨b,pl,pr,h1,hk _ _ h2,h3.keep hk,h4.keep hk⟩
theorem KeepsN.of_turned {X:List Nat} {w w':World} (h:Turned X w w') (hx:∀k ∈ X,∀cs:Array Value,w.heap[k]?≠some (Obj.cells cs tNd (0,0))):KeepsN w w':=fun k cs hk=>h.same hk fun hm=>hx k hm cs hk
theorem Turned.keepsN {w w':World} (h:Turned [] w w'):KeepsN w w':=KeepsN.of_turned h (by simp)
theorem TrAt.later {w w':World} {t:Tr Nat} {p:Value} (h:TrAt w t p) (ht:Turned [] w w'):TrAt w' t p:=h.keep ht.keepsN
theorem Turned.join {a b c:World} (h:Turned [] a b) (g:Turned [] b c):Turned [] a c:=h.trans g (Newer.refl _ _)
theorem TrAt.shape {w:World} :∀ {t:Tr Nat} {p:Value},TrAt w t p→∃a,p= .pointer a
 | .nil,_,h=>⟨none,h⟩
 | .node _ _ _ _,_,⟨b,_,_,h,_⟩=>⟨some ⟨b,0,none⟩,h⟩
theorem nd_cells {w:World} {b:Nat} {x:Itm Nat} {c:Bool} {pl pr:Value} (h:w.heap[b]?=some (.cells (ndCells x c pl pr) tNd (0,0))):
  w.cell? ⟨b,0,none⟩=some (.int .u64 x.1)∧w.cell? ⟨b,1,none⟩=some (.int .i64 x.2.1)∧w.cell? ⟨b,2,none⟩=some (.pointer (some ⟨x.2.2,0,none⟩))∧w.cell? ⟨b,3,none⟩=some (.bool c)∧w.cell? ⟨b,4,none⟩=some pl∧w.cell? ⟨b,5,none⟩=some pr:=by
 refine⟨by simp [World.cell?,h],by simp [World.cell?,h],by simp [World.cell?,h],by simp [World.cell?,h],by simp [World.cell?,h],by simp [World.cell?,h]⟩
theorem TrAt.mk {w w1:World} {l r:Tr Nat} {pl pr:Value} (hl:TrAt w l pl) (hr:TrAt w r pr) (ht:Turned [] w w1) (x:Itm Nat) (c:Bool):
  TrAt (w1.alloc (.cells (ndCells x c pl pr) tNd)) (.node c l x r) (.pointer (some ⟨w1.heap.size,0,none⟩))∧Turned [] w (w1.alloc (.cells (ndCells x c pl pr) tNd)):=by
 have h:=ht.alloc (.cells (ndCells x c pl pr) tNd)
 exact⟨⟨_,pl,pr,rfl,heap_alloc_new w1 _,hl.later h,hr.later h⟩,h⟩
abbrev Makes (w:World) (t:Tr Nat) (e:Ending) (w':World):Prop:=∃p,e= .returned p∧TrAt w' t p∧Turned [] w w'
theorem red_any {w:World} {l r:Tr Nat} {pl pr:Value} (hl:TrAt w l pl) (hr:TrAt w r pr) (x:Itm Nat):
  Calls Tryz.prog 104 #[pl,itV x,pr] w (Makes w (.node true l x r)):=by
 have HM:=xhd (fun o=>TrAt.mk hl hr ((Turned.refl [] w).alloc o) x true)
 obtain⟨al,rfl⟩:=hl.shape
 obtain⟨ar,rfl⟩:=hr.shape
 obtain⟨x1,x2,x3⟩:=x
 simp only [itV,ndCells] at HM ⊢
 clear hl hr
 go_enter Tryz.func104,Tryz.ntmps104
 go_wp2
 go_ret
 exact⟨_,rfl,by simpa using HM.out _⟩
theorem black_any {w:World} {l r:Tr Nat} {pl pr:Value} (hl:TrAt w l pl) (hr:TrAt w r pr) (x:Itm Nat):
  Calls Tryz.prog 109 #[pl,itV x,pr] w (Makes w (.node false l x r)):=by
 have HM:=xhd (fun o=>TrAt.mk hl hr ((Turned.refl [] w).alloc o) x false)
 obtain⟨al,rfl⟩:=hl.shape
 obtain⟨ar,rfl⟩:=hr.shape
 obtain⟨x1,x2,x3⟩:=x
 simp only [itV,ndCells] at HM ⊢
 clear hl hr
 go_enter Tryz.func109,Tryz.ntmps109
 go_wp2
 go_ret
 exact⟨_,rfl,by simpa using HM.out _⟩
theorem isRed_any {w:World} {t:Tr Nat} {p:Value} (h:TrAt w t p):
  Calls Tryz.prog 108 #[p] w fun e w'=>e= .returned (.bool t.isR)∧w=w':=by
 cases t with
 |nil=>
  obtain rfl:p= .pointer none:=h
  go_enter Tryz.func108,Tryz.ntmps108
  go_wp2
  go_ret
  exact⟨rfl,rfl⟩
 |node c l x r=>
  obtain⟨b,pl,pr,rfl,h2,_,_⟩:=h
  obtain⟨_,_,_,c3,_,_⟩:=nd_cells h2
  rw [show (Tr.node c l x r).isR=c by cases c<;>rfl]
  clear h2
  go_enter Tryz.func108,Tryz.ntmps108
  go_wp2
  go_ret
  exact⟨rfl,rfl⟩
theorem isRed_is {w:World} {t:Tr Nat} {p:Value} {b:Bool} (h:TrAt w t p) (hb:t.isR=b):
 Calls Tryz.prog 108 #[p] w fun e w'=>e= .returned (.bool b)∧w=w':=hb ▸ isRed_any h
theorem isBlack_any {w:World} {t:Tr Nat} {p:Value} (h:TrAt w t p):
  Calls Tryz.prog 114 #[p] w fun e w'=>e= .returned (.bool t.isB)∧w=w':=by
 cases t with
 |nil=>
  obtain rfl:p= .pointer none:=h
  go_enter Tryz.func114,Tryz.ntmps114
  go_wp2
  go_ret
  exact⟨rfl,rfl⟩
 |node c l x r=>
  obtain⟨b,pl,pr,rfl,h2,_,_⟩:=h
  obtain⟨_,_,_,c3,_,_⟩:=nd_cells h2
  rw [show (Tr.node c l x r).isB=!c by cases c<;>rfl]
  clear h2
  go_enter Tryz.func114,Tryz.ntmps114
  go_wp2
  go_ret
  exact⟨rfl,rfl⟩
theorem asRoot_any {w:World} {t:Tr Nat} {p:Value} (h:TrAt w t p):
  Calls Tryz.prog 96 #[p] w (Makes w t.root):=by
 have HR:=xhd (isRed_any h)
 by_cases hr:t.isR=true
 ·cases t with
  |nil=>simp [Tr.isR] at hr
  |node c l x r=>
   obtain rfl:c=true:=by cases c;simp [Tr.isR] at hr;rfl
   rw [hr] at HR
   obtain⟨b,pl,pr,rfl,h2,h3,h4⟩:=h
   obtain⟨al,rfl⟩:=h3.shape
   obtain⟨ar,rfl⟩:=h4.shape
   obtain⟨D,hD⟩:∃D,w.drew=D:=⟨_,rfl⟩
   have TD:Turned [] w D:=hD ▸ (Turned.refl [] w).drew
   have k2:=TD.same h2 (by simp)
   obtain⟨c0,c1,c2,c3,c4,c5⟩:=nd_cells k2
   have HB:=xhd (black_any (h3.later TD) (h4.later TD) x)
   have HT:=xhd TD
   obtain⟨x1,x2,x3⟩:=x
   simp only [itV] at HB
   clear h2 h3 h4 hr k2 TD
   go_enter Tryz.func96,Tryz.ntmps96
   go_wp2_with fail
   refine HR.out.mono ?_
   rintro e w1 ⟨rfl,rfl⟩
   go_wp2_with fail
   refine wp_still_tail_at 12 hD (by kernel_rfl) (by kernel_rfl) ?_
   clear hD
   simp only [List.take_succ_cons,List.take_zero,List.drop_succ_cons,List.drop_zero]
   repeat still_step
   refine wpStill_nil ?_
   go_wp2_with fail
   refine HB.out.mono ?_
   rintro e w1 ⟨q,rfl,hq,ht⟩
   have R:=xhd (And.intro hq (HT.out.join ht))
   obtain⟨aq,rfl⟩:=hq.shape
   clear hq ht
   go_wp2
   go_ret
   exact⟨_,rfl,R.out⟩
 ·have hf:t.isR=false:=by simpa using hr
  have e:t.root=t:=by
   cases t with
   |nil=>rfl
   |node c l x r=>cases c;rfl;simp [Tr.isR] at hf
  rw [hf] at HR
  rw [e]
  have H:=xhd h
  obtain⟨a,rfl⟩:=h.shape
  clear h hr hf e
  go_enter Tryz.func96,Tryz.ntmps96
  go_wp2_with fail
  refine HR.out.mono ?_
  rintro e w1 ⟨rfl,rfl⟩
  go_wp2
  go_ret
  exact⟨_,rfl,H.out,Turned.refl _ _⟩
theorem reddened_any {w:World} {c:Bool} {l r:Tr Nat} {x:Itm Nat} {p:Value} (h:TrAt w (.node c l x r) p):
  Calls Tryz.prog 115 #[p] w (Makes w (.node true l x r)):=by
 obtain⟨b,pl,pr,rfl,h2,h3,h4⟩:=h
 obtain⟨al,rfl⟩:=h3.shape
 obtain⟨ar,rfl⟩:=h4.shape
 obtain⟨D,hD⟩:∃D,w.drew=D:=⟨_,rfl⟩
 have TD:Turned [] w D:=hD ▸ (Turned.refl [] w).drew
 have k2:=TD.same h2 (by simp)
 obtain⟨c0,c1,c2,c3,c4,c5⟩:=nd_cells k2
 have HB:=xhd (red_any (h3.later TD) (h4.later TD) x)
 have HT:=xhd TD
 obtain⟨x1,x2,x3⟩:=x
 simp only [itV] at HB
 clear h2 h3 h4 k2 TD
 go_enter Tryz.func115,Tryz.ntmps115
 go_wp2_with fail
 refine wp_still_tail_at 12 hD (by kernel_rfl) (by kernel_rfl) ?_
 clear hD
 simp only [List.take_succ_cons,List.take_zero,List.drop_succ_cons,List.drop_zero]
 repeat still_step
 refine wpStill_nil ?_
 go_wp2_with fail
 refine HB.out.mono ?_
 rintro e w1 ⟨q,rfl,hq,ht⟩
 have R:=xhd (And.intro hq (HT.out.join ht))
 obtain⟨aq,rfl⟩:=hq.shape
 clear hq ht
 go_wp2
 go_ret
 exact⟨_,rfl,R.out⟩
theorem isBlack_is {w:World} {t:Tr Nat} {p:Value} {b:Bool} (h:TrAt w t p) (hb:t.isB=b):
 Calls Tryz.prog 114 #[p] w fun e w'=>e= .returned (.bool b)∧w=w':=hb ▸ isBlack_any h
abbrev Bx (w:World) (g:Nat) (x:Itm Nat):Prop:=w.heap[g]?=some (.cells #[.int .u64 x.1, .int .i64 x.2.1, .pointer (some ⟨x.2.2,0,none⟩)] tIt (0,0))
theorem bx_cells {w:World} {g:Nat} {x:Itm Nat} (h:Bx w g x):w.cell? ⟨g,0,none⟩=some (.int .u64 x.1)∧w.cell? ⟨g,1,none⟩=some (.int .i64 x.2.1)∧w.cell? ⟨g,2,none⟩=some (.pointer (some ⟨x.2.2,0,none⟩)):=by
 refine⟨by simp [World.cell?,h],by simp [World.cell?,h],by simp [World.cell?,h]⟩
theorem bx_new (w:World) (x:Itm Nat):Bx (w.alloc (.cells #[.int .u64 x.1, .int .i64 x.2.1, .pointer (some ⟨x.2.2,0,none⟩)] tIt)) w.heap.size x:=heap_alloc_new w _
abbrev S1 (W:World) (g:Nat) (x1 x2:Int) (x3:Nat) (w':World):Prop:=w'.cell? ⟨g,0,none⟩=some (.int .u64 x1)∧w'.cell? ⟨g,1,none⟩=some (.int .i64 x2)∧w'.cell? ⟨g,2,none⟩=some (.pointer (some ⟨x3,0,none⟩))∧Turned [] W w'
theorem S1.mk {W w':World} {g:Nat} {x:Itm Nat} (h:Bx W g x) (ht:Turned [] W w'):S1 W g x.1 x.2.1 x.2.2 w':=by
 obtain⟨h0,h1,h2⟩:=bx_cells (ht.same h (by simp))
 exact⟨h0,h1,h2,ht⟩
theorem balA_any {w:World} {l r:Tr Nat} {pl pr:Value} (hl:TrAt w l pl) (hr:TrAt w r pr) (x:Itm Nat) (rl:l.isR=true) (rr:r.isR=true):
  Calls Tryz.prog 113 #[pl,itV x,pr] w (Makes w (.node true l.root x r.root)):=by
 obtain⟨W,hW⟩:∃W,w.alloc (.cells #[.int .u64 x.1, .int .i64 x.2.1, .pointer (some ⟨x.2.2,0,none⟩)] tIt)=W:=⟨_,rfl⟩
 have TW:Turned [] w W:=hW ▸ (Turned.refl [] w).alloc _
 have BW:Bx W w.heap.size x:=hW ▸ bx_new w x
 have HL:=xhd (isRed_any (hl.later TW))
 have HR:=xhd (isRed_any (hr.later TW))
 rw [rl] at HL
 rw [rr] at HR
 have KL:=xhd (hl.later TW)
 have KR:=xhd (hr.later TW)
 have HT:=xhd TW
 have HS:=xhd (fun w' (ht:Turned [] W w')=>S1.mk BW ht)
 obtain⟨al,rfl⟩:=hl.shape
 obtain⟨ar,rfl⟩:=hr.shape
 obtain⟨x1,x2,x3⟩:=x
 simp only [itV] at hW HS ⊢
 clear hl hr rl rr TW BW
 go_enter Tryz.func113,Tryz.ntmps113
 go_wp2_with fail
 refine HL.out.mono ?_
 rintro e w1 ⟨rfl,rfl⟩
 go_wp2_with fail
 refine HR.out.mono ?_
 rintro e w1 ⟨rfl,rfl⟩
 go_wp2_with fail
 obtain⟨e0,e1,e2,et⟩:=HS.out _ (Turned.refl [] W).drew
 have ET:=xhd et
 go_region_held3 (fun w'=>w'.cell? ⟨w.heap.size,0,none⟩=some (.int .u64 x1)∧w'.cell? ⟨w.heap.size,1,none⟩=some (.int .i64 x2)∧w'.cell? ⟨w.heap.size,2,none⟩=some (.pointer (some ⟨x3,0,none⟩))∧Turned [] W w')
  (first|exact⟨f0,f1,f2,ft⟩ |exact⟨e0,e1,e2,et⟩)
  (first
    |(go_at_call 96
      first
       |(with_reducible refine (asRoot_any (KL.out.later (by first|exact ft|exact et))).mono ?_
         rintro e wa ⟨ql,rfl,hl,tl⟩
         have gl:=xhd hl
         try have gr:=xhd (gr.out.later tl)
         obtain⟨f0,f1,f2,ft⟩:=HS.out _ (Turned.join (by first|exact ft|exact et) tl)
         obtain⟨aql,rfl⟩:=hl.shape
         clear hl tl)
       |(with_reducible refine (asRoot_any (KR.out.later (by first|exact ft|exact et))).mono ?_
         rintro e wa ⟨qr,rfl,hr,tr⟩
         have gr:=xhd hr
         try have gl:=xhd (gl.out.later tr)
         obtain⟨f0,f1,f2,ft⟩:=HS.out _ (Turned.join (by first|exact ft|exact et) tr)
         obtain⟨aqr,rfl⟩:=hr.shape
         clear hr tr))
    |(go_at_call 104
      with_reducible refine (red_any gl.out gr.out (x1,x2,x3)).mono ?_
      rintro e wa ⟨q,rfl,hq,tq⟩
      obtain⟨f0,f1,f2,ft⟩:=HS.out _ (Turned.join (by first|exact ft|exact et) tq)
      have G:=xhd (And.intro hq (HT.out.join ft))
      obtain⟨aq,rfl⟩:=hq.shape
      clear hq tq))
 all_goals
  go_wp2
  go_ret
  exact⟨_,rfl,G.out⟩
end Go.Proofs.YtfmciiffcmfagaaGreat
namespace Go.Proofs.YtfmciiffcmfagaaGreat
open Go.RowKit
section
variable {F:Fence} {n:Nat} {P:Program} {ops:Array Oper} {Q:Exit→Act→World→Prop} {md:Region.Mode} {S:World→Prop}
theorem yieldsIf_in {i:Nat} {o:Oper} {v:Value} {a:Act} (hro:F.round=none) (hF:∀f,F.fn f) (hi:ops[i]?=some o) (hy:YieldsIf P ops S o v a)
  {K:Act→World→Prop} {w:World} (hS:S w) (h:K (a.put o.dst v) w):wpOpIn F n P ops Q i K a w:=by
 unfold Go.wpOpIn
 simp only [hi]
 rcases hy with⟨hw,hv⟩ |⟨hw,rfl⟩
 ·simp only [hw,if_true,Oper.wpIn,hro,Oper.semAt_none,hv w hS,Oper.uponIn];exact⟨fun f _=>hF f,h⟩
 ·simp only [hw,Bool.false_eq_true,if_false];exact⟨fun f _=>hF f,h⟩
theorem putIf_in {j:Nat} {oi oj:Oper} {v:Value} (hro:F.round=none) (hj:ops[j]?=some oj) (hap:oi.apart ops oj=true)
  (hsi:∀cs b,oi.op≠ .select cs b) (hsj:∀cs b,oj.op≠ .select cs b)
  (hQ:∀c a w,Q (.panic c) (a.put oi.dst v) w→Q (.panic c) a w) {K:Act→World→Prop} {a:Act} {w:World}
  (hy:YieldsIf P ops S oi v a) (h:wpOpIn F n P ops Q j K (a.put oi.dst v) w):
  wpOpIn F n P ops Q j (fun a' w'=>YieldsIf P ops S oi v a'∧K (a'.put oi.dst v) w') a w:=by
 obtain⟨h1,h2,h3⟩:=Oper.apart_spec hap
 have keep:∀(a:Act),YieldsIf P ops S oi v a→∀u,YieldsIf P ops S oi v (a.put oj.dst u):=fun a hy u=>
  hy.of_same (execOp_put oi hsi a oj.dst u h3) (wanted_put oi a oj.dst u h3)
 have keepD:∀d,YieldsIf P ops S oi v { a with defers:=d::a.defers } :=fun d=>hy.of_same rfl rfl
 unfold wpOpIn at*
 simp only [hj] at*
 rw [wanted_put oj a oi.dst v h1,about_put oj w a oi.dst v h1] at h
 split
 ·rename_i hw
  simp only [hw,if_true] at h
  unfold Oper.wpIn at*
  rw [about_put oj w a oi.dst v h1] at h
  refine⟨h.1,?_⟩
  have h:=h.2
  rw [hro,Oper.semAt_none,execOp_put oj hsj a oi.dst v h1] at h
  rw [hro,Oper.semAt_none]
  generalize (execOp a.eval oj).run P w=r at*
  cases r with
  |ok x w'=>
   cases x<;>simp only [Oper.uponIn] at h ⊢
   case value u=>exact⟨keep a hy u,by rw [←Act.put_comm a v u h2];exact h⟩
   case skip=>exact⟨keep a hy _,by rw [←Act.put_comm a v undef h2];exact h⟩
   case defer d=>
    refine⟨keep _ (keepD d) _,?_⟩
    rw [←Act.put_comm _ v undef h2, ←Act.put_defers]
    exact h
   case enter f args=>
    refine⟨h.1,CallsIn.mono h.2 fun e w'' he=>?_⟩
    cases e with
    |returned u=>exact⟨keep a hy u,by rw [←Act.put_comm a v u h2];exact he⟩
    |panicked c=>exact hQ _ _ _ he
    |outgrown=>exact he
   case row row args=>exact⟨h.1,RowsIn.mono h.2 fun u w'' he=>⟨keep a hy u,by rw [←Act.put_comm a v u h2];exact he⟩⟩
   case round l f tmps assign body=>
    refine⟨h.1,RoundIn.mono h.2 fun e w'' he=>?_⟩
    cases e with
    |returned u=>exact⟨keep a hy u,by rw [←Act.put_comm a v u h2];exact he⟩
    |panicked c=>exact hQ _ _ _ he
    |outgrown=>exact he
  |halt x w'=>
   cases x<;>simp only [Oper.uponIn] at h ⊢
   case panic u=>exact hQ _ _ _ h
 ·rename_i hw
  simp only [hw] at h
  exact⟨h.1,keep a hy _,by rw [←Act.put_comm a v undef h2];exact h.2⟩
def wpAnyI (F:Fence) (n:Nat) (P:Program) (md:Region.Mode) (ops:Array Oper) (Q:Exit→Act→World→Prop) (S:World→Prop):Nat→Array Bool→Act→World→Prop
 |0,listed,a,w=>Region.ready md ops listed=[]∧Q .normal a w
 |fuel+1,listed,a,w=>
  (Region.ready md ops listed=[]→Q .normal a w)∧
  ∀i ∈ Region.ready md ops listed,wpOpIn F n P ops Q i (fun a' w'=>S w'∧wpAnyI F n P md ops Q S fuel (listed.setIfInBounds i true) a' w') a w
theorem wpAnyIn_of_I:∀(fuel:Nat) (listed:Array Bool) (a:Act) (w:World),wpAnyI F n P md ops Q S fuel listed a w→wpAnyIn F n P md ops Q fuel listed a w
 |0,_,_,_,h=>h
 |fuel+1,_,_,_,h=>⟨h.1,fun i hi=>wpOpIn_mono (fun a' w' h'=>wpAnyIn_of_I fuel _ a' w' h'.2) (h.2 i hi)⟩
theorem wpAnyI_take {i:Nat} {oi:Oper} {v:Value} {fuel:Nat} {listed:Array Bool} {a:Act} {w:World} (hro:F.round=none) (hF:∀f,F.fn f) (hi:ops[i]?=some oi)
  (hs:Region.noSelect ops=true) (hf:Region.free md ops listed i=true) (hr:(Region.ready md ops listed).contains i=true)
  (hQ:∀c a w,Q (.panic c) (a.put oi.dst v) w→Q (.panic c) a w) (hy:YieldsIf P ops S oi v a) (hS:S w)
  (h:wpAnyI F n P md ops Q S fuel (listed.setIfInBounds i true) (a.put oi.dst v) w):wpAnyI F n P md ops Q S (fuel+1) listed a w:=by
 have hsel:=Region.noSelect_spec hs
 have hfree:=Region.free_spec hi hf
 have hr':i ∈ Region.ready md ops listed:=by simpa using hr
 clear hf hr
 revert listed a w
 induction fuel with
 |zero=>
  intro listed a w hy hS H hfree hr
  refine⟨fun h=>(by rw [h] at hr;cases hr),fun j hj=>?_⟩
  by_cases hji:j=i
  ·subst hji;exact yieldsIf_in hro hF hi hy hS ⟨hS,H⟩
  ·have:=ready_mono hj hji
   rw [H.1] at this
   cases this
 |succ fuel ih=>
  intro listed a w hy hS H hfree hr
  refine⟨fun h=>(by rw [h] at hr;cases hr),fun j hj=>?_⟩
  by_cases hji:j=i
  ·subst hji;exact yieldsIf_in hro hF hi hy hS ⟨hS,H⟩
  ·have h1:=H.2 j (ready_mono hj hji)
   obtain⟨hjun,oj,hoj,hall⟩:=mem_ready.1 hj
   have hnot:∀e ∈ oj.after,Region.binds md e=true→e.on≠i:=fun e he hb heq=>by
    have h1:=hall e he hb
    have h0:=(mem_ready.1 hr).1
    rw [heq] at h1
    rcases Nat.lt_or_ge i listed.size with h'|h'
    ·simp [h'] at h0 h1;rw [h0] at h1;cases h1
    ·simp [Array.getElem?_eq_none h'] at h1
   have h2:=putIf_in hro hoj (hfree j oj hoj hji hjun hnot) (fun cs b=>hsel i oi cs b hi) (fun cs b=>hsel j oj cs b hoj) hQ hy h1
   have hfree':∀k ok,ops[k]?=some ok→k≠i→(listed.setIfInBounds j true).getD k true=false→
     (∀e ∈ ok.after,Region.binds md e=true→e.on≠i)→oi.apart ops ok=true:=fun k ok hk hki hun hno=>by
    refine hfree k ok hk hki ?_ hno
    by_cases hjk:j=k
    ·subst hjk;exact hjun
    ·rw [getD_set_ne true hjk] at hun;exact hun
   refine wpOpIn_mono (fun a' w' h3=>⟨h3.2.1,ih (listed:=listed.setIfInBounds j true) h3.1 h3.2.1 ?_ hfree' (ready_mono hr (Ne.symm hji))⟩) h2
   rw [Array.setIfInBounds_comm _ _ hji]
   exact h3.2.2
theorem wpAnyI_one {i:Nat} {o:Oper} {fuel:Nat} {listed:Array Bool} {a:Act} {w:World} (hr:Region.ready md ops listed=[i]) (ho:ops[i]?=some o)
  (h:∀K':Act→World→Prop,Shut (∀a w,S w→wpAnyI F n P md ops Q S fuel (listed.setIfInBounds i true) a w→K' a w)→if Region.wanted o (yielded ops a.tmps)=true then Oper.wpIn F n P o a w K' Q else (∀f,o.about P w a.eval=some f→F.fn f)∧K' (a.put o.dst undef) w):
  wpAnyI F n P md ops Q S (fuel+1) listed a w:=
 ⟨fun h0=>(by rw [h0] at hr;cases hr),fun j hj=>by
   rw [hr] at hj
   obtain rfl:j=i:=by simpa using hj
   exact wpOpIn_step ho fun K' hK=>h K' fun a w h1 h2=>hK a w ⟨h1,h2⟩⟩
theorem wpAnyI_done {listed:Array Bool} {a:Act} {w:World} (hr:Region.ready md ops listed=[]) (h:Q .normal a w):∀fuel,wpAnyI F n P md ops Q S fuel listed a w
 |0=>⟨hr,h⟩
 |_+1=>⟨fun _=>h,by rw [hr];simp⟩
end
theorem wpIn_region_I {F:Fence} {n:Nat} {P:Program} {id:Nat} {Q:Exit→Act→World→Prop} {a:Act} {w:World} {ops:Array Oper} (S:World→Prop) (hm:P.follows .mixedOrders=true) (hS:S w.drew)
  (h:S w.drew→wpAnyI F n P .any ops Q S ops.size (Array.replicate ops.size false) a w.drew):(Code.region id ops true).wpIn F n P Q a w:=
 wpIn_region_any hm (wpAnyIn_of_I _ _ _ _ (h hS))
theorem wpIn_region_noPanic {F:Fence} {n:Nat} {P:Program} {id:Nat} {ops:Array Oper} {b:Bool} {Q:Exit→Act→World→Prop} {a:Act} {w:World} (h:(Code.region id ops b).wpIn F n P (NoPanic Q) a w):(Code.region id ops b).wpIn F n P Q a w:=
 wpIn_mono h NoPanic.imp
theorem YieldAt.wide {m m':Nat} {P:Program} {l:Nat} {args:Array Value} {W:World} {R:Ending→World→Prop} (h:YieldAt Fence.wide m P l args W R):YieldAt Fence.wide m' P l args W R:=by
 obtain⟨fn,tmps,assign,body,hy,hR⟩:=h
 exact⟨fn,tmps,assign,body,hy,hR.1,fun c cs _=>hR.2 c cs (room_wide _)⟩
end Go.Proofs.YtfmciiffcmfagaaGreat
namespace Go.Proofs.YtfmciiffcmfagaaGreat
open Go.RowKit
variable {F:Fence} {n:Nat} {P:Program}
theorem range_turnsY_boxed {α:Type} {g:Operand} {ps:Array Tmp} {assign body:Code} {Q:Exit→Act→World→Prop} {a:Act} {w:World}
  (hro:F.round=none) (h1:1≤n) {gf:Nat} {lb:Array Value} (hg:a.eval g= .func (.func gf) #[] lb) (hFg:F.fn gf) (eg:∀args w,(callFunc gf args).run P w= .ok (.enter gf args) w)
  {encs:α→Array Value} {Y X:List Nat} {Sp:List α→Prop} {S Sx:List α→List Nat→World→Prop} (hX:∀k ∈ X,k < w.heap.size) (hYl:∀k ∈ Y,k < w.heap.size)
  (hseq:TurnSeqY F (n - 1) P gf lb encs Y X Sp S Sx w) (hps:∀x,(encs x).size=ps.size)
  (hS:∀xs Z A B,S xs Z A→SameAt Z A B→S xs Z B) (hSx:∀xs Z A B,Sx xs Z A→SameAt Z A B→Sx xs Z B)
  (I:List α→List Nat→World→Prop) (Ix:Code→List α→List Nat→World→Prop) (hI:∀xs Z Z' A B,I xs Z A→Mild Z w.heap.size A B→Newer Z A.heap.size Z'→(∀k ∈ Z',k < B.heap.size)→I xs Z' B)
  (hIx:∀c xs Z Z' A B,Ix c xs Z A→Mild Z w.heap.size A B→Newer Z A.heap.size Z'→(∀k ∈ Z',k < B.heap.size)→Ix c xs Z' B) (h0:I [] X w) (hIY:∀xs Z W,I xs Z W→SameAt Y w W) (hIxY:∀c xs Z W,Ix c xs Z W→SameAt Y w W)
  (hsz:∀xs Z W,I xs Z W→w.heap.size≤W.heap.size∧∀k ∈ Z,k < W.heap.size) (t:TypeId) (cs:α→Array Value) (a₁:α→Nat→Act)
  (hassign:∀(l:Nat) (x:α) (Bk:Nat) (W:World) (K:Act→World→Prop),W.heap.size=Bk→K (a₁ x Bk) (W.alloc (.cells (cs x) t))→
    assign.wpIn (F.inRound l) (n - 1 - 1) P (Exit.then K (fun _ _ _=>False)) { tmps:=(ps.zip (encs x)).foldl (fun t (p,v)=>t.setIfInBounds p v) a.tmps,defers:=[] } W)
  (hbody:∀(l:Nat) (pre:List α) (x:α) (Z:List Nat) (Bk:Nat) (W:World),W.heap[Bk]?=some (.cells (cs x) t (0,0))→w.heap.size≤Bk→I pre Z W→Sp (pre++[x])→body.wpIn (F.inRound l) (n - 1 - 1) P (leftPost w.heap.size Z (fun xs V=>I xs Z V) (fun c xs V=>Ix c xs Z V) (pre++[x]) W) (a₁ x Bk) W)
  (hdone:∀(D:Nat) (xs:List α) (Z:List Nat) (W:World),w.heap.size≤D→(∀k ∈ Z,k≠D)→S xs Z W→I xs Z W→W.heap[D]?=some (.deferred (some []))→Q .normal { a with defers:= { target:= .collected D,args:= #[] } ::a.defers } W)
  (hstop:∀(D:Nat) (c:Code) (xs:List α) (Z:List Nat) (W:World),w.heap.size≤D→(∀k ∈ Z,k≠D)→Sx xs Z W→Ix c xs Z W→W.heap[D]?=some (.deferred (some []))→c.wpIn F n P Q { a with defers:= { target:= .collected D,args:= #[] } ::a.defers } W):
  (Code.rangeFunc g ps assign body).wpIn F n P Q a w:=by
 refine range_turnsY hro h1 hg hFg eg hX hYl hseq hps hS hSx I Ix hI hIx h0 hIY hIxY (fun x a' W=>∃Bk,W.heap[Bk]?=some (.cells (cs x) t (0,0))∧w.heap.size≤Bk∧a'=a₁ x Bk) ?_ ?_ ?_ hdone hstop
 ·rintro x a' A B ⟨k,hk,hb,rfl⟩ m
  exact⟨k,m.same k _ hk (by simp) (.inr rfl),hb,rfl⟩
 ·intro l pre x Z W K hi hK
  obtain⟨hs,hz⟩:=hsz _ _ _ hi
  have ta:Turned [] W (W.alloc (.cells (cs x) t)):=(Turned.refl [] W).alloc _
  exact hassign l x W.heap.size W K rfl (hK _ _ ((KeepsOthers.alloc _ _).from _) (fun k hk=>Below.heap_alloc W _ k (hz k hk)) (hI _ _ _ _ _ hi (Mild.of_turned (ta.mono (fun k hk=>by simp at hk))) (Newer.refl _ _) (fun k hk=>Nat.lt_of_lt_of_le (hz k hk) ta.size)) ⟨W.heap.size,heap_alloc_new W _,hs,rfl⟩)
 ·rintro l pre x Z a' W hi ⟨k,hk,hb,rfl⟩ hsp
  exact hbody l pre x Z k W hk hb hi hsp
end Go.Proofs.YtfmciiffcmfagaaGreat
namespace Go.Proofs.YtfmciiffcmfagaaGreat
open Go.RowKit Go.Shelf
theorem add_any (a b:Int) (ha:Word a) (hb:Word b) (w:World):
  Calls Tryz.prog 56 #[.int .u64 a, .int .u64 b] w fun e w'=>e= .returned (.tuple #[.int .u64 (satV (a+b)), .int .i64 (satE (a+b))])∧w=w':=by
 by_cases h:a+b≤18446744073709551615
 ·rw [satV_fit h,satE_fit h]
  have e1:hiW (a+b)=0:=by have:=ha.1;have:=hb.1;unfold hiW;omega
  have e2:loW (a+b)=a+b:=by have:=ha.1;have:=hb.1;unfold loW;omega
  have A:=add64 a b ha hb
  rw [e1,e2] at A
  clear e1 e2 h
  go_enter Tryz.func56,Tryz.ntmps56
  go_wp2
  go_ret2
  exact⟨rfl,rfl⟩
 ·rw [satV_big h,satE_big h]
  have e1:hiW (a+b)=1:=by have:=ha.2;have:=hb.2;unfold hiW;omega
  have A:=add64 a b ha hb
  rw [e1] at A
  clear e1 h
  go_enter Tryz.func56,Tryz.ntmps56
  go_wp2
  go_ret2
  exact⟨rfl,rfl⟩
theorem sub_any (a b:Int) (ha:Word a) (hb:Word b) (w:World):
  Calls Tryz.prog 71 #[.int .u64 a, .int .u64 b] w fun e w'=>e= .returned (.tuple #[.int .u64 (subV a b), .int .i64 (subE a b)])∧w=w':=by
 obtain⟨a0,a1⟩:=ha
 obtain⟨b0,b1⟩:=hb
 by_cases h:a < b
 ·rw [show subV a b=0 from if_pos h,show subE a b=2 from if_pos h]
  go_enter Tryz.func71,Tryz.ntmps71
  go_wp2
  go_ret2
  exact⟨rfl,rfl⟩
 ·rw [show subV a b=a - b from if_neg h,show subE a b=0 from if_neg h]
  go_enter Tryz.func71,Tryz.ntmps71
  go_wp2
  go_ret2
  exact⟨rfl,rfl⟩
end Go.Proofs.YtfmciiffcmfagaaGreat
namespace Go.Proofs.YtfmciiffcmfagaaGreat
open Go.RowKit
theorem run_max_un {P:Program} {w:World} (ts:Array TypeId) (t:TypeId) (k:IntKind) (x y:Int):(Builtin.max_ ts t #[.int k x, .int k y]).run P w= .ok (.int k (max x y)) w:=by
 rw [run_max_int2]
 congr 2
 split<;>omega
theorem run_min_un {P:Program} {w:World} (ts:Array TypeId) (t:TypeId) (k:IntKind) (x y:Int):(Builtin.min_ ts t #[.int k x, .int k y]).run P w= .ok (.int k (min x y)) w:=by
 rw [run_min_int2]
 congr 2
 split<;>omega
attribute [local go_sem ↓] run_min_un run_max_un
theorem bring_minmax {n lo hi:Int} (h:lo≤hi):min (max n lo) hi=bringR n lo hi:=by
 unfold bringR
 split
 ·omega
 ·split<;>omega
theorem within_any (n lo hi:Int) (h:lo≤hi) (h0:0≤lo) (h1:hi≤4611686018427387904) (w:World):
  Calls Tryz.prog 85 #[.int .i64 n, .int .i64 lo, .int .i64 hi] w fun e w'=>e= .returned (.int .u64 (bringR n lo hi))∧w'=w:=by
 have hb:=bring_range (n:=n) h
 rw [←bring_minmax h] at hb ⊢
 have hw:IntKind.u64.wrap (min (max n lo) hi)=min (max n lo) hi:=by rw [IntKind.wrap_u64];omega
 go_enter Tryz.func85,Tryz.ntmps85
 go_wp2
 go_ret
 exact⟨rfl,rfl⟩
theorem ucore_any (n:Int) (w:World):Calls Tryz.prog 57 #[.int .i64 n] w fun e w'=>e= .returned (.int .u64 (coreR n))∧w'=w:=by
 have HB:=xhd (within_any n 1 4096 (by decide) (by decide) (by decide) w)
 have hr:=core_range n
 have hb:=bring_range (n:=n) (lo:=1) (hi:=4096) (by decide)
 unfold coreR at hr ⊢
 obtain⟨b,hbb⟩:∃b,bringR n 1 4096=b:=⟨_,rfl⟩
 rw [hbb] at HB hr hb ⊢
 have hq:(1099511627776:Int).tdiv b=1099511627776 / b:=Int.tdiv_eq_ediv_of_nonneg (by decide)
 obtain⟨q,hqq⟩:∃q,1099511627776 / b=q:=⟨_,rfl⟩
 rw [hqq] at hq hr ⊢
 have hw2:IntKind.u64.wrap q=q:=by rw [IntKind.wrap_u64];omega
 have hn:¬b=0:=by omega
 clear hbb hqq
 go_enter Tryz.func57,Tryz.ntmps57
 go_wp2_with fail
 with_reducible refine HB.out.mono ?_
 rintro e w1 ⟨rfl,rfl⟩
 go_wp2
 go_ret
 exact⟨rfl,rfl⟩
theorem ureach_any (n g:Int) (w:World):Calls Tryz.prog 91 #[.int .i64 n, .int .i64 g] w fun e w'=>e= .returned (.int .u64 (reachR n g))∧w'=w:=by
 have HB:=xhd (within_any g 1 8 (by decide) (by decide) (by decide) w)
 have HC:=xhd (ucore_any n w)
 have hr:=reach_range n g
 unfold reachR at hr ⊢
 obtain⟨b,hbb⟩:∃b,bringR g 1 8=b:=⟨_,rfl⟩
 obtain⟨c,hcc⟩:∃c,coreR n=c:=⟨_,rfl⟩
 rw [hbb] at HB hr ⊢
 rw [hcc] at HC hr ⊢
 have hw2:IntKind.u64.wrap (c*b)=c*b:=by
  obtain⟨q,hq⟩:∃q,c*b=q:=⟨_,rfl⟩
  rw [hq] at hr ⊢
  rw [IntKind.wrap_u64];omega
 clear hbb hcc hr
 go_enter Tryz.func91,Tryz.ntmps91
 go_wp2_with fail
 with_reducible refine HC.out.mono ?_
 rintro e w1 ⟨rfl,rfl⟩
 go_wp2_with fail
 with_reducible refine HB.out.mono ?_
 rintro e w2 ⟨rfl,rfl⟩
 go_wp2
 go_ret
 exact⟨rfl,rfl⟩
theorem clamp_minmax {v f r:Int} (hf:Word f) (hr:Word r):min (max v f) (satV (f+r))=clampR v f r:=by
 unfold clampR
 have hs:f≤satV (f+r):=by
  by_cases h:f+r≤18446744073709551615
  ·rw [satV_fit h];have:=hr.1;omega
  ·rw [satV_big h];exact hf.2
 split
 ·omega
 ·split<;>omega
theorem uclamp_any (v f r:Int) (hf:Word f) (hr:Word r) (w:World):Calls Tryz.prog 90 #[.int .u64 v, .int .u64 f, .int .u64 r] w fun e w'=>e= .returned (.int .u64 (clampR v f r))∧w'=w:=by
 have HA:=xhd (add_any f r hf hr w)
 rw [←clamp_minmax hf hr]
 go_enter Tryz.func90,Tryz.ntmps90
 go_wp2_with fail
 with_reducible refine HA.out.mono ?_
 rintro e w1 ⟨rfl,rfl⟩
 go_wp2
 go_ret
 exact⟨rfl,rfl⟩
end Go.Proofs.YtfmciiffcmfagaaGreat
namespace Go.Proofs.YtfmciiffcmfagaaGreat
open Go.RowKit
def leftPostW {α:Type} (N:Nat) (Y:List Nat) (I:List α→World→Prop) (Ix:Code→List α→World→Prop) (xs:List α) (W:World):Exit→Act→World→Prop
 | .normal,_,W'=>SameAt [N,N+1] W W'∧W.heap.size≤W'.heap.size∧SameAt Y W W'∧I xs W'
 | .ret,_,W'=>SameAt [N,N+1] W W'∧W.heap.size≤W'.heap.size∧SameAt Y W W'∧Ix .ret xs W'
 | .exit id,_,W'=>SameAt [N,N+1] W W'∧W.heap.size≤W'.heap.size∧SameAt Y W W'∧Ix (.exit id) xs W'
 | .goto t,_,W'=>SameAt [N,N+1] W W'∧W.heap.size≤W'.heap.size∧SameAt Y W W'∧Ix (.goto t) xs W'
 | .panic _,_,_=>False
 | .outgrown,_,_=>False
def TurnSeqS {α:Type} (F:Fence) (n:Nat) (P:Program) (g:Nat) (lb:Array Value) (encs:α→Array Value) (X Y:List Nat) (Sp:List α→World→Prop) (S Sx:List α→World→Prop) (w:World):Prop:=
 ∀(l:Nat) (J Jx:List α→World→Prop) (W:World),Turned [] w W→(∀xs A B,J xs A→Turned X A B→J xs B)→
  (∀pre x A,J pre A→Sp (pre++[x]) A→YieldAt F (n - 1) P l (encs x) A fun e B=>
    SameAt Y A B∧A.heap.size≤B.heap.size∧((e= .returned (.bool true)∧J (pre++[x]) B)∨(e= .returned (.bool false)∧Jx (pre++[x]) B)))→
  J [] W→
  CallsIn F n P g (#[.func (.yield l) #[] #[]]++lb) W fun e W'=>(∃v,e= .returned v)∧((∃xs,S xs W'∧J xs W')∨(∃xs,Sx xs W'∧Jx xs W'))
variable {F:Fence} {n:Nat} {P:Program}
theorem TurnSeq.s {α:Type} {g:Nat} {lb:Array Value} {encs:α→Array Value} {X Y:List Nat} {Sp:List α→Prop} {S Sx:List α→World→Prop} {w:World} (h:TurnSeq F n P g lb encs X Y Sp S Sx w):
 TurnSeqS F n P g lb encs X Y (fun xs _=>Sp xs) S Sx w:=h
theorem RoundIn.any {m k l l':Nat} {f:FuncId} {tmps:Array Value} {assign body:Code} {w:World} {R:Ending→World→Prop} (h:RoundIn Fence.wide m P l f tmps assign body w R):RoundIn (Fence.wide.inRound l') k P l f tmps assign body w R:=
 ⟨trivial,fun c cs _=>h.2 c cs (room_wide _)⟩
end Go.Proofs.YtfmciiffcmfagaaGreat
namespace Go.Proofs.YtfmciiffcmfagaaGreat
open Go.RowKit
variable {F:Fence} {n:Nat} {P:Program}
theorem range_turnsV {α:Type} {g:Operand} {ps:Array Tmp} {assign body:Code} {Q:Exit→Act→World→Prop} {a:Act} {w:World}
  (hro:F.round=none) (h1:1≤n) {gf:Nat} {lb:Array Value} (hg:a.eval g= .func (.func gf) #[] lb) (hFg:F.fn gf) (eg:∀args w,(callFunc gf args).run P w= .ok (.enter gf args) w)
  {encs:α→Array Value} {Y X:List Nat} {Sp:List α→Prop} {S Sx:List α→List Nat→World→Prop} (hX:∀k ∈ X,k < w.heap.size) (hYl:∀k ∈ Y,k < w.heap.size)
  (hseq:TurnSeqY F (n - 1) P gf lb encs Y X Sp S Sx w) (hps:∀x,(encs x).size=ps.size)
  (hS:∀xs Z A B,S xs Z A→SameAt Z A B→S xs Z B) (hSx:∀xs Z A B,Sx xs Z A→SameAt Z A B→Sx xs Z B)
  (I:List α→List Nat→World→Prop) (Ix:Code→List α→List Nat→World→Prop)
  (hI:∀xs Z Z' A B,I xs Z A→(∀k ∈ Z,k < A.heap.size)→Turned (w.heap.size::(w.heap.size+1)::Z) A B→Newer Z A.heap.size Z'→(∀k ∈ Z',k < B.heap.size)→I xs Z' B)
  (hIx:∀c xs Z Z' A B,Ix c xs Z A→(∀k ∈ Z,k < A.heap.size)→Turned (w.heap.size::(w.heap.size+1)::Z) A B→Newer Z A.heap.size Z'→(∀k ∈ Z',k < B.heap.size)→Ix c xs Z' B)
  (h0:∀W0,Turned [] w W0→w.heap.size+2≤W0.heap.size→I [] X W0) (hIY:∀xs Z W,I xs Z W→SameAt Y w W) (hIxY:∀c xs Z W,Ix c xs Z W→SameAt Y w W)
  (hsz:∀xs Z W,I xs Z W→w.heap.size+2≤W.heap.size) (t:TypeId) (cs:α→Array Value) (a₁:α→Nat→Act)
  (hassign:∀(l:Nat) (x:α) (Bk:Nat) (W:World) (K:Act→World→Prop),W.heap.size=Bk→K (a₁ x Bk) (W.alloc (.cells (cs x) t))→
    assign.wpIn (F.inRound l) (n - 1 - 1) P (Exit.then K (fun _ _ _=>False)) { tmps:=(ps.zip (encs x)).foldl (fun t (p,v)=>t.setIfInBounds p v) a.tmps,defers:=[] } W)
  (hbody:∀(l:Nat) (pre:List α) (x:α) (Z:List Nat) (Bk:Nat) (W:World),W.heap[Bk]?=some (.cells (cs x) t (0,0))→w.heap.size+2≤Bk→(∀k ∈ Z,k < W.heap.size)→I pre Z W→Sp (pre++[x])→body.wpIn (F.inRound l) (n - 1 - 1) P (leftPostW w.heap.size Z (fun xs V=>I xs Z V) (fun c xs V=>Ix c xs Z V) (pre++[x]) W) (a₁ x Bk) W)
  (hdone:∀(xs:List α) (Z:List Nat) (W:World),S xs Z W→I xs Z W→W.heap[w.heap.size]?=some (.deferred (some []))→Q .normal { a with defers:= { target:= .collected w.heap.size,args:= #[] } ::a.defers } W)
  (hstop:∀(c:Code) (xs:List α) (Z:List Nat) (W:World),Sx xs Z W→Ix c xs Z W→W.heap[w.heap.size]?=some (.deferred (some []))→c.wpIn F n P Q { a with defers:= { target:= .collected w.heap.size,args:= #[] } ::a.defers } W):
  (Code.rangeFunc g ps assign body).wpIn F n P Q a w:=by
 refine wpIn_rangeFunc fun fn hfn=>?_
 rw [hro]
 obtain⟨N,hN⟩:∃N,w.heap.size=N:=⟨_,rfl⟩
 obtain⟨R,hR⟩:∃R:LoopState→Option Code→Loop,∀st pe,R st pe= { state:=st,pending:=pe,fn,tmps:=a.tmps,params:=ps,assign,body,defers:=N } :=⟨_,fun _ _=>rfl⟩
 obtain⟨W0,hW0⟩:∃W0,(w.alloc (.deferred (some []))).alloc (.loop (R .ready none))=W0:=⟨_,rfl⟩
 have two:Turned [] w W0:=hW0 ▸ ((Turned.refl [] w).alloc _).alloc _
 have recL:W0.heap[N+1]?=some (.loop (R .ready none)):=by
  have h:=World.alloc_heap_new (w.alloc (.deferred (some []))) (.loop (R .ready none))
  rw [World.size_alloc,hN] at h
  rw [←hW0]
  exact h
 have recD:W0.heap[N]?=some (.deferred (some [])):=by
  have h:=World.alloc_heap_new w (.deferred (some []))
  rw [hN] at h
  rw [←hW0]
  exact (Below.heap_alloc _ _ _ (by simp;omega)).trans h
 rw [hN] at hI hIx hbody hdone hstop hX h0 hsz
 have hsW0:N+2≤W0.heap.size:=(Array.getElem?_eq_some_iff.1 recL).1
 have offX:∀k ∈ X,(k≠N∧k≠N+1)∧k < W0.heap.size:=fun k hk=>by have:=hX k hk;omega
 have turnZ:∀(Z:List Nat) (W:World) (o:Obj),(∀k ∈ Z,(k≠N∧k≠N+1))→SameAt Z W (W.putObj (N+1) o):=fun Z W o hz k hk=>World.putObj_heap_other (hz k hk).2
 have turnT:∀(Z:List Nat) (W:World) (o:Obj),Turned (N::(N+1)::Z) W (W.putObj (N+1) o):=fun Z W o=>(Turned.refl _ W).grown (grownBy_putObj' W (N+1) o) (fun k e=> .inl (by cases e;simp))
 have done:∀(jump:Option Code) (W:World) (st:LoopState),W.heap[N+1]?=some (.loop (R st none))→W.heap[N]?=some (.deferred (some []))→∀st',(W.putObj (N+1) (.loop (R st' jump))).heap[N+1]?=some (.loop (R st' jump))∧(W.putObj (N+1) (.loop (R st' jump))).heap[N]?=some (.deferred (some [])):=
  fun jump W st hl hd st'=>⟨World.putObj_heap_same (Array.getElem?_eq_some_iff.1 hl).1,(World.putObj_heap_other (by omega)).trans hd⟩
 refine⟨N+1,[{ target:= .collected N,args:= #[] }],W0, { target:= .fn (.func gf) lb,args:= #[.func (.yield (N+1)) #[] #[]] },W0,gf, #[.func (.yield (N+1)) #[] #[]]++lb,W0,?_,?_,?_,?_,fun _=>h1,?_⟩
 ·rw [←hW0,hR, ←hN]
  exact run_enterLoop_outer _ _ _ _ _
 ·simp only [resolve,hg]
  simp [go_sem]
 ·intro f' hf'
  simp [Target.leads] at hf'
  subst hf'
  exact hFg
 ·simp [invoke,go_sem,eg]
 have hIx':∀c xs Z A B,Ix c xs Z A→(∀k ∈ Z,k < A.heap.size)→Turned (N::(N+1)::Z) A B→Ix c xs Z B:=fun c xs Z A B h hz m=>hIx c xs Z Z A B h hz m (Newer.refl _ _) (fun k hk=>Nat.lt_of_lt_of_le (hz k hk) m.size)
 have hI':∀xs Z A B,I xs Z A→(∀k ∈ Z,k < A.heap.size)→Turned (N::(N+1)::Z) A B→I xs Z B:=fun xs Z A B h hz m=>hI xs Z Z A B h hz m (Newer.refl _ _) (fun k hk=>Nat.lt_of_lt_of_le (hz k hk) m.size)
 have upT:∀ {Z:List Nat} {A B:World},Turned Z A B→Turned (N::(N+1)::Z) A B:=fun ht=>ht.mono (fun k hk=> .inl (by simp [hk]))
 refine (hseq (N+1) (fun xs Z W=>((I xs Z W∧W.heap[N+1]?=some (.loop (R .ready none)))∧W.heap[N]?=some (.deferred (some [])))∧∀k ∈ Z,(k≠N∧k≠N+1)∧k < W.heap.size)
  (fun xs Z W=>(∃c,(Ix c xs Z W∧W.heap[N+1]?=some (.loop (R .done (some c))))∧W.heap[N]?=some (.deferred (some [])))∧∀k ∈ Z,(k≠N∧k≠N+1)∧k < W.heap.size) W0 two (fun xs Z A h k hk=>(hIY _ _ _ h.1.1.1 k hk).trans (two.block k (hYl k hk) (by simp)).symm) (fun xs Z A h k hk=>by
    obtain⟨⟨c,⟨hi,_⟩,_⟩,_⟩:=h
    exact (hIxY _ _ _ _ hi k hk).trans (two.block k (hYl k hk) (by simp)).symm) ?_ ?_ ?_ ⟨⟨⟨h0 W0 two hsW0,recL⟩,recD⟩,offX⟩).mono ?_
 ·rintro xs Z Z' A B ⟨⟨⟨hi,hl⟩,hd⟩,hz⟩ ht hnew hub
  have hsz:N+1 < A.heap.size:=(Array.getElem?_eq_some_iff.1 hl).1
  exact⟨⟨⟨hI _ _ _ _ _ hi (fun k hk=>(hz k hk).2) (upT ht) hnew hub,ht.same hl (fun hx=>(hz _ hx).1.2 rfl)⟩,ht.same hd (fun hx=>(hz _ hx).1.1 rfl)⟩,fun k hk=>by
   have hk':=hub k hk
   rcases hnew k hk with h|h
   ·exact⟨(hz k h).1,hk'⟩
   ·omega⟩
 ·rintro xs Z Z' A B ⟨⟨c,⟨hi,hl⟩,hd⟩,hz⟩ ht hnew hub
  have hsz:N+1 < A.heap.size:=(Array.getElem?_eq_some_iff.1 hl).1
  exact⟨⟨c,⟨hIx _ _ _ _ _ _ hi (fun k hk=>(hz k hk).2) (upT ht) hnew hub,ht.same hl (fun hx=>(hz _ hx).1.2 rfl)⟩,ht.same hd (fun hx=>(hz _ hx).1.1 rfl)⟩,fun k hk=>by
   have hk':=hub k hk
   rcases hnew k hk with h|h
   ·exact⟨(hz k h).1,hk'⟩
   ·omega⟩
 ·rintro pre x Z A ⟨⟨⟨hi,hl⟩,hd⟩,hz⟩ hsp
  have hy:=run_yield (P:=P) (args:=encs x) hl (by rw [hR];exact hps x)
  rw [hR] at hy
  have hAs:=hsz _ _ _ hi
  refine⟨fn,_,assign,body,hy,roundIn_of_wpIn hfn (hassign _ x A.heap.size A _ rfl ?_)⟩
  have tB:Turned [] A (A.alloc (.cells (cs x) t)):=(Turned.refl [] A).alloc _
  have hk0:=heap_alloc_new A (.cells (cs x) t)
  obtain⟨B,hB⟩:∃B,A.alloc (.cells (cs x) t)=B:=⟨_,rfl⟩
  rw [hB] at tB hk0 ⊢
  have hlB:=tB.same hl (by simp)
  have hdB:=tB.same hd (by simp)
  have hzo:∀k ∈ Z,k≠N∧k≠N+1:=fun k hk=>(hz k hk).1
  have hzA:∀k ∈ Z,k < A.heap.size:=fun k hk=>(hz k hk).2
  have hya:SameAt Z A B:=fun k hk=>tB.block k (hzA k hk) (by simp)
  have hszB:=tB.size
  have hzB:∀k ∈ Z,k < B.heap.size:=fun k hk=>Nat.lt_of_lt_of_le (hzA k hk) hszB
  refine⟨_,run_beginRound hlB (by rw [hR]),?_⟩
  have hbusy:({ R .ready none with state:= .busy } :Loop)=R .busy none:=by rw [hR,hR]
  rw [hbusy]
  obtain⟨hlC,hdC⟩:=done none B .ready hlB hdB .busy
  have hk1:(B.putObj (N+1) (.loop (R .busy none))).heap[A.heap.size]?=some (.cells (cs x) t (0,0)):=(World.putObj_heap_other (by omega)).trans hk0
  refine wpIn_mono (hbody _ pre x Z A.heap.size _ hk1 (by omega) (fun k hk=>by have:=hzB k hk;simpa using this) (hI' _ _ _ _ (hI' _ _ _ _ hi hzA (tB.mono (fun k hk=>by simp at hk))) hzB (turnT Z B _)) hsp) ?_
  have fin:∀(jump:Option Code) (C:World),SameAt [N,N+1] (B.putObj (N+1) (.loop (R .busy none))) C→(B.putObj (N+1) (.loop (R .busy none))).heap.size≤C.heap.size→SameAt Z (B.putObj (N+1) (.loop (R .busy none))) C→
    (Instr.endRound (N+1) jump).run P C= .ok (.bool jump.isNone) (C.putObj (N+1) (.loop (R (if jump.isNone then .ready else .done) jump)))∧C.heap[N+1]?=some (.loop (R .busy none))∧C.heap[N]?=some (.deferred (some []))∧
    SameAt Z A (C.putObj (N+1) (.loop (R (if jump.isNone then .ready else .done) jump)))∧A.heap.size≤(C.putObj (N+1) (.loop (R (if jump.isNone then .ready else .done) jump))).heap.size∧∀k ∈ Z,k < C.heap.size:=by
   intro jump C hk hsz' hyc
   have hl3:=(hk (N+1) (by simp)).trans hlC
   have hd3:=(hk N (by simp)).trans hdC
   have hr:=run_endRound (P:=P) jump hl3
   rw [hR] at hr
   refine⟨?_,hl3,hd3,((hya.trans (turnZ Z B _ hzo)).trans hyc).trans (turnZ Z C _ hzo),?_,fun k hk'=>?_⟩
   ·rw [hR]
    exact hr
   ·simp at hsz' ⊢
    omega
   ·have:=hzB k hk'
    simp at hsz'
    omega
  rintro e a3 C hp
  cases e with
  |normal=>
   obtain⟨hk,hsz',hyc,hi3⟩:=hp
   obtain⟨hr,hl3,hd3,hyy,hsz,hzC⟩:=fin none C hk hsz' hyc
   obtain⟨e1,e2⟩:=done none C .busy hl3 hd3 .ready
   exact⟨_,_,hr,hyy,hsz, .inl ⟨rfl,⟨⟨hI' _ _ _ _ hi3 hzC (turnT Z C _),e1⟩,e2⟩,fun k hk'=>⟨hzo k hk',Nat.lt_of_lt_of_le (hzA k hk') hsz⟩⟩⟩
  |ret=>
   obtain⟨hk,hsz',hyc,hi3⟩:=hp
   obtain⟨hr,hl3,hd3,hyy,hsz,hzC⟩:=fin (some .ret) C hk hsz' hyc
   obtain⟨e1,e2⟩:=done (some .ret) C .busy hl3 hd3 .done
   exact⟨_,_,hr,hyy,hsz, .inr ⟨rfl,⟨.ret,⟨hIx' _ _ _ _ _ hi3 hzC (turnT Z C _),e1⟩,e2⟩,fun k hk'=>⟨hzo k hk',Nat.lt_of_lt_of_le (hzA k hk') hsz⟩⟩⟩
  |exit id=>
   obtain⟨hk,hsz',hyc,hi3⟩:=hp
   obtain⟨hr,hl3,hd3,hyy,hsz,hzC⟩:=fin (some (.exit id)) C hk hsz' hyc
   obtain⟨e1,e2⟩:=done (some (.exit id)) C .busy hl3 hd3 .done
   exact⟨_,_,hr,hyy,hsz, .inr ⟨rfl,⟨.exit id,⟨hIx' _ _ _ _ _ hi3 hzC (turnT Z C _),e1⟩,e2⟩,fun k hk'=>⟨hzo k hk',Nat.lt_of_lt_of_le (hzA k hk') hsz⟩⟩⟩
  |goto t=>
   obtain⟨hk,hsz',hyc,hi3⟩:=hp
   obtain⟨hr,hl3,hd3,hyy,hsz,hzC⟩:=fin (some (.goto t)) C hk hsz' hyc
   obtain⟨e1,e2⟩:=done (some (.goto t)) C .busy hl3 hd3 .done
   exact⟨_,_,hr,hyy,hsz, .inr ⟨rfl,⟨.goto t,⟨hIx' _ _ _ _ _ hi3 hzC (turnT Z C _),e1⟩,e2⟩,fun k hk'=>⟨hzo k hk',Nat.lt_of_lt_of_le (hzA k hk') hsz⟩⟩⟩
  |panic ch=>exact hp.elim
  |outgrown=>exact hp.elim
 ·rintro e W2 ⟨⟨v,rfl⟩,⟨xs,Z,hs,⟨⟨hi,hl⟩,hd⟩,hz⟩ |⟨xs,Z,hs,⟨c,⟨hi,hl⟩,hd⟩,hz⟩⟩
  ·have hr:=run_endLoop (P:=P) hl (by rw [hR];simp)
   rw [hR] at hr
   exact⟨none,_,hr,hdone xs Z _ (hS _ _ _ _ hs (turnZ Z W2 _ (fun k hk=>(hz k hk).1))) (hI' _ _ _ _ hi (fun k hk=>(hz k hk).2) (turnT Z W2 _)) ((World.putObj_heap_other (by omega)).trans hd)⟩
  ·have hr:=run_endLoop (P:=P) hl (by rw [hR];simp)
   rw [hR] at hr
   exact⟨some c,_,hr,hstop c xs Z _ (hSx _ _ _ _ hs (turnZ Z W2 _ (fun k hk=>(hz k hk).1))) (hIx' _ _ _ _ _ hi (fun k hk=>(hz k hk).2) (turnT Z W2 _)) ((World.putObj_heap_other (by omega)).trans hd)⟩
end Go.Proofs.YtfmciiffcmfagaaGreat
namespace Go.Proofs.YtfmciiffcmfagaaGreat
open Go.RowKit
end Go.Proofs.YtfmciiffcmfagaaGreat
namespace Go.Proofs.YtfmciiffcmfagaaGreat
open Go.RowKit Go.Maps Go.Shelf
attribute [local go_sem] Oper.semAt_some
structure NbK (w W:World):Prop where
 box:W.heap[w.heap.size]?=some (.cells #[.bool false] 4 (0,0))
 t:Turned [] w W
theorem NbK.later {w W W':World} (h:NbK w W) (t:Turned [] W W'):NbK w W':=⟨t.same h.box (by simp),h.t.trans t (Newer.refl _ _)⟩
end Go.Proofs.YtfmciiffcmfagaaGreat
