/-
  Scripts, cut into words: the plain functions, and what is joined is scanned again. No program.
  What is joined is scanned again; blanks and remarks change no word. No program.
  Programs of tasks: the plain functions; a program's words are parsed to it; what is parsed may be. No program.
  Critical sections and what fits some locks, plainly. No program.
  Setups, plainly: their words, how they are read, which may be. No program.
  Acts, plainly: their words, how they are read, which may be. No program.
  The word that a text begins with, as the program finds it, is the document's. No program.
  What is read of scanned words: acts that may be. No program.
  Scripts, plainly: their text, how it is read, which may be. No program.
  What layer 14's awake asks, plainly. No program. (Made by gen_scawake.py.)
  Memory of one's own, told by the numbers of its blocks: what a call may have turned, and what stays. No program.
  What lies between words, and what may stand beside a word; plainly. No program.
  Texts in memory; what a call leaves as it was.
  Words as values, in cells, in rows; what Scan and Join answer.
  Ops and programs as values, in cells, in rows.
-/
import Derived.Lib.Hide
import Derived.Lib.Atoi
import Derived.WalkKit
import Derived.OneCell
import Derived.WalkSmall
import Derived.Test.YtbnhnnccioljhaaGreatDoorChecked
import Derived.Lib.Strings
import Derived.Lib.ConvBytes
import Derived.Laws.IdiomStrings
import Derived.Sort.Grow
import Derived.LoopTactic
import Derived.OwnWalk
import Derived.Laws.AppendOwn
import Derived.Laws.OwnMore
import Derived.Laws.ResultCell
import Derived.IntWalk
import Derived.Test.YtbnhnnccioljhaaGreatDoorZAl
set_option maxRecDepth 100000
set_option maxHeartbeats 25600000
namespace Go.Proofs.YtbnhnnccioljhaaGreatDoor
abbrev By:=UInt8
abbrev Wd:=Int×List By×Int×Int
def isLet (c:By):Bool:=decide (97≤c.toNat)&&decide (c.toNat≤122)
def isDig (c:By):Bool:=decide (48≤c.toNat)&&decide (c.toNat≤57)
def isMk (c:By):Bool:=decide (c.toNat=123)||(decide (c.toNat=125)||(decide (c.toNat=59)||(decide (c.toNat=46)||decide (c.toNat=61))))
def isBl (c:By):Bool:=decide (c.toNat=32)||(decide (c.toNat=9)||decide (c.toNat=10))
def not10 (c:By):Bool:=!decide (c.toNat=10)
def numR (l:List By):Nat:=l.foldl (fun n c=>n*10+(c.toNat - 48)) 0
def oneR (c:By) (t:List By) (p:Nat):Wd×Nat×Bool:=
 if isLet c then ((1,c::t.takeWhile isLet,0,p),(t.takeWhile isLet).length,decide ((t.takeWhile isLet).length < 12))
 else if isDig c then ((2,[],numR ((c::t.takeWhile isDig).take 9),p),(t.takeWhile isDig).length,decide ((t.takeWhile isDig).length < 9)&&(!decide (c.toNat=48)||decide ((t.takeWhile isDig).length=0)))
 else ((3,[c],0,p),0,isMk c)
def prepR (ws:List Wd):Except Nat (List Wd)→Except Nat (List Wd)
 | .ok l=> .ok (ws++l)
 | .error p=> .error p
theorem prepR_prepR (a b:List Wd) (r:Except Nat (List Wd)):prepR a (prepR b r)=prepR (a++b) r:=by
 cases r<;>simp [prepR]
theorem prepR_nil (r:Except Nat (List Wd)):prepR [] r=r:=by cases r<;>rfl
def scanR (l:List By) (p:Nat) (adj:Bool):Except Nat (List Wd):=
 match l with
 |[]=> .ok []
 |c::t=>
  if isBl c then scanR t (p+1) false
  else if c.toNat=35 then scanR (t.dropWhile not10) (p+1+(t.takeWhile not10).length) false
  else if (!(oneR c t p).2.2||(adj&&!decide ((oneR c t p).1.1=3))) then .error p
  else prepR [(oneR c t p).1] (scanR (t.drop (oneR c t p).2.1) (p+1+(oneR c t p).2.1) (!decide ((oneR c t p).1.1=3)))
termination_by l.length
decreasing_by
 all_goals simp_wf
 ·have:=(List.dropWhile_sublist (l:=t) not10).length_le
  omega
 ·omega
theorem scan_nil (p:Nat) (adj:Bool):scanR [] p adj= .ok []:=by rw [scanR]
theorem scan_blank {c:By} (h:isBl c=true) (t:List By) (p:Nat) (adj:Bool):scanR (c::t) p adj=scanR t (p+1) false:=by rw [scanR,if_pos h]
theorem scan_remark {c:By} (h0:isBl c=false) (h:c.toNat=35) (t:List By) (p:Nat) (adj:Bool):scanR (c::t) p adj=scanR (t.dropWhile not10) (p+1+(t.takeWhile not10).length) false:=by
 rw [scanR,if_neg (by simp [h0]),if_pos h]
theorem scan_bad {c:By} (h0:isBl c=false) (h1:¬c.toNat=35) (t:List By) (p:Nat) (adj:Bool) (h:(!(oneR c t p).2.2||(adj&&!decide ((oneR c t p).1.1=3)))=true):scanR (c::t) p adj= .error p:=by
 rw [scanR,if_neg (by simp [h0]),if_neg h1,if_pos h]
theorem scan_word {c:By} (h0:isBl c=false) (h1:¬c.toNat=35) (t:List By) (p:Nat) (adj:Bool) (h:(!(oneR c t p).2.2||(adj&&!decide ((oneR c t p).1.1=3)))=false):
  scanR (c::t) p adj=prepR [(oneR c t p).1] (scanR (t.drop (oneR c t p).2.1) (p+1+(oneR c t p).2.1) (!decide ((oneR c t p).1.1=3))):=by
 rw [scanR,if_neg (by simp [h0]),if_neg h1,if_neg (by simp [h])]
theorem take_end {q:By→Bool} :∀ {t r:List By},(∀c ∈ t,q c=true)→(r=[]∨∃c r',r=c::r'∧q c=false)→(t++r).takeWhile q=t
 |[],r,_,h=>by
  rcases h with rfl|⟨c,r',rfl,h⟩
  ·rfl
  ·simp [h]
 |c::t,r,ha,h=>by
  simp only [List.cons_append,List.takeWhile_cons,ha c (by simp),if_true]
  rw [take_end (fun x hx=>ha x (by simp [hx])) h]
theorem takeWhile_all {q:By→Bool} :∀(t:List By),∀c ∈ t.takeWhile q,q c=true
 |[],c,h=>by simp at h
 |a::t,c,h=>by
  simp only [List.takeWhile_cons] at h
  split at h
  ·rcases List.mem_cons.1 h with rfl|h
   ·assumption
   ·exact takeWhile_all t c h
  ·simp at h
theorem one_le (c:By) (t:List By) (p:Nat):(oneR c t p).2.1≤t.length:=by
 unfold oneR
 split
 ·exact (List.takeWhile_sublist _).length_le
 ·split
  ·exact (List.takeWhile_sublist _).length_le
  ·exact Nat.zero_le _
def digitsR (n:Nat):List By:=if n < 10 then [UInt8.ofNat (48+n)] else digitsR (n / 10)++[UInt8.ofNat (48+n % 10)]
termination_by n
decreasing_by omega
theorem digit_nat {d:Nat} (h:d < 10):(UInt8.ofNat (48+d)).toNat=48+d:=by
 simp [UInt8.toNat_ofNat']
 omega
theorem digits_small {n:Nat} (h:n < 10):digitsR n=[UInt8.ofNat (48+n)]:=by rw [digitsR,if_pos h]
theorem digits_great {n:Nat} (h:¬n < 10):digitsR n=digitsR (n / 10)++[UInt8.ofNat (48+n % 10)]:=by rw [digitsR,if_neg h]
theorem digits_all (n:Nat):∀c ∈ digitsR n,isDig c=true:=by
 intro c hc
 by_cases h:n < 10
 ·rw [digits_small h] at hc
  obtain rfl:=List.mem_singleton.1 hc
  simp [isDig]
  omega
 ·rw [digits_great h] at hc
  rcases List.mem_append.1 hc with hc|hc
  ·exact digits_all (n / 10) c hc
  ·obtain rfl:=List.mem_singleton.1 hc
   have:=Nat.mod_lt n (show 0 < 10 by omega)
   simp [isDig]
   omega
termination_by n
decreasing_by omega
theorem numR_snoc (l:List By) (c:By):numR (l++[c])=numR l*10+(c.toNat - 48):=by simp [numR,List.foldl_append]
theorem num_digits (n:Nat):numR (digitsR n)=n:=by
 by_cases h:n < 10
 ·rw [digits_small h]
  simp [numR]
  omega
 ·rw [digits_great h,numR_snoc,num_digits (n / 10),digit_nat (Nat.mod_lt n (by omega))]
  omega
termination_by n
decreasing_by omega
theorem digits_form (n:Nat):∃c t,digitsR n=c::t∧(c.toNat=48→t=[]∧n=0):=by
 by_cases h:n < 10
 ·exact⟨_,[],digits_small h,fun hc=>by rw [digit_nat h] at hc;exact⟨rfl,by omega⟩⟩
 ·obtain⟨c,t,e,hc⟩:=digits_form (n / 10)
  refine⟨c,t++[UInt8.ofNat (48+n % 10)],by rw [digits_great h,e];rfl,fun h0=>?_⟩
  have:=(hc h0).2
  omega
termination_by n
decreasing_by omega
theorem digits_len:∀(k n:Nat),n < 10 ^ (k+1)→(digitsR n).length≤k+1
 |k,n,h=>by
  by_cases h1:n < 10
  ·rw [digits_small h1];simp
  ·rw [digits_great h1,List.length_append]
   cases k with
   |zero=>simp at h;omega
   |succ k=>
    have:=digits_len k (n / 10) (by rw [Nat.pow_succ] at h;omega)
    simp
    omega
def textR (w:Wd):Option (List By):=
 if w.1=2 then if w.2.1=[]∧0≤w.2.2.1∧w.2.2.1≤999999999 then some (digitsR w.2.2.1.toNat) else none
 else if w.2.2.1≠0 then none
 else match w.2.1 with
  |[]=>none
  |c::t=>if (w.1=1∨w.1=3)∧(oneR c t 0).2.2=true∧(oneR c t 0).2.1=t.length∧(oneR c t 0).1.1=w.1 then some (c::t) else none
def placed (w:Wd) (p:Nat):Wd:=(w.1,w.2.1,w.2.2.1,(p:Int))
def endsR (k:Int) (r:List By):Prop:=r=[]∨∃c r',r=c::r'∧(k=1→isLet c=false)∧(k=2→isDig c=false)
theorem dig_let {c:By} (h:isDig c=true):isLet c=false:=by
 simp [isDig] at h
 simp [isLet]
 omega
theorem word_heads {c:By} (h:isLet c=true∨isDig c=true∨isMk c=true):isBl c=false∧¬c.toNat=35:=by
 rcases h with h|h|h
 ·simp [isLet] at h
  refine⟨by simp [isBl];omega,by omega⟩
 ·simp [isDig] at h
  refine⟨by simp [isBl];omega,by omega⟩
 ·simp [isMk] at h
  refine⟨by simp [isBl];omega,by omega⟩
theorem word_back {w:Wd} {s r:List By} (h:textR w=some s) (hr:endsR w.1 r) (p:Nat):∃c t,s=c::t∧oneR c (t++r) p=(placed w p,t.length,true)∧isBl c=false∧¬c.toNat=35:=by
 obtain⟨k,x,n,q⟩:=w
 simp only [textR] at h
 simp only at hr
 by_cases h2:k=2
 ·subst h2
  rw [if_pos rfl] at h
  split at h
  ·next hc=>
   obtain⟨rfl,h0,h9⟩:=hc
   simp only [Option.some.injEq] at h
   obtain⟨m,rfl⟩:=Int.eq_ofNat_of_zero_le h0
   rw [Int.toNat_natCast] at h
   obtain⟨c,t,e,hz⟩:=digits_form m
   have hall:=digits_all m
   have hlen:=digits_len 8 m (by omega)
   have hnum:=num_digits m
   rw [e] at h hall hlen hnum
   subst h
   have hcd:=hall c (by simp)
   have htd:(t++r).takeWhile isDig=t:=take_end (fun x hx=>hall x (by simp [hx])) (by
    rcases hr with rfl|⟨c',r',rfl,_,h2⟩
    ·exact .inl rfl
    ·exact .inr ⟨c',r',rfl,h2 rfl⟩)
   simp only [List.length_cons] at hlen
   refine⟨c,t,rfl,?_,word_heads (.inr (.inl hcd))⟩
   unfold oneR placed
   rw [if_neg (by simp [dig_let hcd]),if_pos hcd,htd,List.take_of_length_le (by simp;omega),hnum]
   have hb:(decide (t.length < 9)&&(!decide (c.toNat=48)||decide (t.length=0)))=true:=by
    by_cases hc0:c.toNat=48
    ·obtain⟨rfl,_⟩:=hz hc0
     simp
    ·simp [hc0];omega
   rw [hb]
  ·cases h
 ·rw [if_neg h2] at h
  split at h
  ·cases h
  ·next hn=>
   cases x with
   |nil=>cases h
   |cons c t=>
    simp only at h
    split at h
    ·next hc=>
     obtain⟨hk,hok,hm,hkind⟩:=hc
     simp only [Option.some.injEq] at h
     subst h
     have hn0:n=0:=by simpa using hn
     subst hn0
     refine⟨c,t,rfl,?_⟩
     by_cases hl:isLet c=true
     ·have e:oneR c t 0=((1,c::t.takeWhile isLet,0,((0:Nat):Int)),(t.takeWhile isLet).length,decide ((t.takeWhile isLet).length < 12)):=by unfold oneR;rw [if_pos hl]
      rw [e] at hok hm hkind
      simp only at hok hm hkind
      subst hkind
      have htl:∀x ∈ t,isLet x=true:=by
       have:t.takeWhile isLet=t:=(List.takeWhile_sublist isLet).eq_of_length hm
       rw [←this]
       exact takeWhile_all t
      have htd:(t++r).takeWhile isLet=t:=take_end htl (by
       rcases hr with rfl|⟨c',r',rfl,h1,_⟩
       ·exact .inl rfl
       ·exact .inr ⟨c',r',rfl,h1 rfl⟩)
      refine⟨?_,word_heads (.inl hl)⟩
      unfold oneR placed
      rw [if_pos hl,htd, ←hm,hok]
     ·by_cases hd:isDig c=true
      ·have e:(oneR c t 0).1.1=2:=by unfold oneR;rw [if_neg hl,if_pos hd]
       rw [e] at hkind
       exact absurd hkind.symm h2
      ·have e:oneR c t 0=((3,[c],0,((0:Nat):Int)),0,isMk c):=by unfold oneR;rw [if_neg hl,if_neg hd]
       rw [e] at hok hm hkind
       simp only at hok hm hkind
       subst hkind
       obtain rfl:t=[]:=List.eq_nil_of_length_eq_zero hm.symm
       refine⟨?_,word_heads (.inr (.inr hok))⟩
       unfold oneR placed
       rw [if_neg hl,if_neg hd,hok]
       rfl
    ·cases h
def sameR (a b:Wd):Prop:=a.1=b.1∧a.2.1=b.2.1∧a.2.2.1=b.2.2.1
def sameL:List Wd→List Wd→Prop
 |[],[]=>True
 |a::l,b::m=>sameR a b∧sameL l m
 |_,_=>False
theorem sameL_len:∀ {a b:List Wd},sameL a b→a.length=b.length
 |[],[],_=>rfl
 |_::_,_::_,h=>by simp [sameL_len h.2]
 |[],_::_,h=>h.elim
 |_::_,[],h=>h.elim
theorem same_placed (w:Wd) (p:Nat):sameR (placed w p) w:=⟨rfl,rfl,rfl⟩
theorem scan_one {w:Wd} {s r:List By} (h:textR w=some s) (hr:endsR w.1 r) (p:Nat) (adj:Bool) (ha:adj=true→w.1=3):scanR (s++r) p adj=prepR [placed w p] (scanR r (p+s.length) (!decide (w.1=3))):=by
 obtain⟨c,t,rfl,ho,h0,h1⟩:=word_back h hr p
 rw [List.cons_append,scan_word h0 h1 (t++r) p adj (by
  rw [ho]
  cases adj with
  |false=>rfl
  |true=>simp [placed,ha rfl]),ho]
 simp only [placed,List.drop_left]
 rw [show p+1+t.length=p+(c::t).length by simp;omega]
 rfl
def tailR:Bool→List Wd→Option (List By)
 |_,[]=>some []
 |b,w::ws=>match textR w,tailR false ws with
  |some s,some r=>some ((if b=false∧s≠[59] then [32] else [])++s++r)
  |_,_=>none
def joinF:List Wd→List By→Option (List By)
 |[],out=>some out
 |w::ws,out=>match textR w with
  |some s=>joinF ws ((if out≠[]∧s≠[59] then out++[32] else out)++s)
  |none=>none
theorem text_ne {w:Wd} {s:List By} (h:textR w=some s):s≠[]:=by
 obtain⟨c,t,rfl,_⟩:=word_back h (.inl rfl) 0
 simp
theorem join_tail:∀(ws:List Wd) (out:List By),joinF ws out=(tailR (decide (out=[])) ws).map (out++ ·)
 |[],out=>by simp [joinF,tailR]
 |w::ws,out=>by
  simp only [joinF,tailR]
  cases h:textR w with
  |none=>rfl
  |some s=>
   have hne:=text_ne h
   simp only
   rw [join_tail ws]
   have hf:decide ((if out≠[]∧s≠[59] then out++[32] else out)++s=[])=false:=by simp [hne]
   rw [hf]
   cases hr:tailR false ws with
   |none=>rfl
   |some r=>
    by_cases h0:out=[]
    ·subst h0
     simp
    ·by_cases h1:s=[59]
     ·subst h1
      simp
     ·simp [h0,h1]
theorem tail_ends {ws:List Wd} {r:List By} (h:tailR false ws=some r) (k:Int):endsR k r:=by
 cases ws with
 |nil=>simp [tailR] at h;exact .inl h
 |cons w ws=>
  simp only [tailR] at h
  split at h
  ·next s r' hs _=>
   simp only [Option.some.injEq] at h
   right
   by_cases h1:s=[59]
   ·subst h1
    refine⟨59,r',by rw [←h];simp,fun _=>by decide,fun _=>by decide⟩
   ·exact⟨32,s++r',by rw [←h];simp [h1],fun _=>by decide,fun _=>by decide⟩
  ·cases h
theorem semi_kind {w:Wd} (h:textR w=some [59]):w.1=3:=by
 obtain⟨c,t,e,ho,_⟩:=word_back h (.inl rfl) 0
 simp only [List.cons.injEq] at e
 obtain⟨rfl,rfl⟩:=e
 have:(oneR 59 ([]++[]) 0).1.1=3:=by decide+kernel
 rw [ho] at this
 exact this
theorem scan_tail:∀(ws:List Wd) (b adj:Bool) (r:List By) (p:Nat),tailR b ws=some r→(b=true→adj=false)→∃ws',scanR r p adj= .ok ws'∧sameL ws' ws
 |[],b,adj,r,p,h,_=>by
  simp [tailR] at h
  subst h
  exact⟨[],scan_nil _ _,trivial⟩
 |w::ws,b,adj,r,p,h,hb=>by
  simp only [tailR] at h
  split at h
  ·next s r' hs hr'=>
   simp only [Option.some.injEq] at h
   have fin:∀(q:Nat) (a:Bool),(a=true→w.1=3)→∃ws',scanR (s++r') q a= .ok ws'∧sameL ws' (w::ws):=fun q a ha=>by
    obtain⟨ws',h1,h2⟩:=scan_tail ws false (!decide (w.1=3)) r' (q+s.length) hr' (by simp)
    exact⟨placed w q::ws',by rw [scan_one hs (tail_ends hr' _) q a ha,h1];rfl,same_placed w q,h2⟩
   by_cases h1:b=false∧s≠[59]
   ·rw [if_pos h1] at h
    subst h
    obtain⟨ws',h2,h3⟩:=fin (p+1) false (by simp)
    exact⟨ws',by rw [List.append_assoc,List.cons_append,List.nil_append,scan_blank (by decide)];exact h2,h3⟩
   ·rw [if_neg h1] at h
    subst h
    refine fin p adj (fun ha=>?_)
    cases b with
    |true=>rw [hb rfl] at ha;cases ha
    |false=>
     have:s=[59]:=by simpa using h1
     subst this
     exact semi_kind hs
  ·cases h
theorem scan_join {ws:List Wd} {r:List By} (h:joinF ws []=some r):∃ws',scanR r 0 false= .ok ws'∧sameL ws' ws:=by
 rw [join_tail] at h
 simp at h
 exact scan_tail ws true false r 0 h (fun _=>rfl)
def scanA (l:List By):List Wd×Int×Int:=
 if 8000 < l.length then ([],8000,6) else match scanR l 0 false with
  | .ok ws=>(ws,0,0)
  | .error p=>([],p,5)
def textA (w:Wd):List By×Int:=match textR w with
 |some s=>(s,0)
 |none=>([],1)
def joinA (ws:List Wd):List By×Int:=match joinF ws [] with
 |some s=>if 8000 < s.length then ([],6) else (s,0)
 |none=>([],1)
abbrev Opn:=Int×Int×Int
abbrev Prg:=Bool×List Opn
def namesR:List (List By):=[[],[99,111,109,112,117,116,101],[108,111,99,107],[114,101,97,100],[116,114,121],[116,105,109,101,100],[117,110,108,111,99,107],
 [115,108,101,101,112],[121,105,101,108,100],[115,112,97,119,110],[119,101,105,103,104,116],[101,120,105,116]]
def nameR (k:Int):List By:=if 0≤k∧k≤11 then namesR.getD k.toNat [] else []
def limR (k:Int):Int×Int:=
 if k=1 then (1,16) else if (2≤k∧k≤6)∨k=9 then (0,7) else if k=7 then (1,64) else if k=10 then (1,16) else (-1, -1)
def aMay (o:Opn):Bool:=if 0≤(limR o.1).1 then decide ((limR o.1).1≤o.2.1)&&decide (o.2.1≤(limR o.1).2) else decide (o.2.1=0)
def bMay (o:Opn):Bool:=if o.1=5 then decide (1≤o.2.2)&&decide (o.2.2≤64) else decide (o.2.2=0)
def opMay (o:Opn):Bool:=!decide (nameR o.1=[])&&(aMay o&&bMay o)
def mayR (p:Prg):Bool:=decide (0 < p.2.length)&&(decide (p.2.length≤12)&&p.2.all opMay)
abbrev progB:List By:=[112,114,111,103]
abbrev foreverB:List By:=[102,111,114,101,118,101,114]
def opW (o:Opn):List Wd:=(1,nameR o.1,0,0)::((if 0≤(limR o.1).1 then [(2,[],o.2.1,0)] else [])++((if o.1=5 then [(2,[],o.2.2,0)] else [])++[(3,[59],0,0)]))
def wordsR (p:Prg):List Wd:=(1,progB,0,0)::((if p.1 then [(1,foreverB,0,0)] else [])++((3,[123],0,0)::(p.2.flatMap opW++[(3,[125],0,0)])))
def isR (L:List Wd) (a:Nat) (k:Int) (t:List By):Bool:=match L[a]? with
 |some x=>decide (x.1=k)&&decide (x.2.1=t)
 |none=>false
def kindUp (L:List Wd) (a:Nat):Nat→Nat
 |0=>0
 |n+1=>if isR L a 1 (nameR ((n+1:Nat):Int)) then n+1 else kindUp L a n
def kindR (L:List Wd) (a:Nat):Nat:=kindUp L a 11
abbrev Bad:=Nat×Int
def argR (L:List Wd) (a:Nat) (lo hi:Int):Except Bad (Int×Nat):=match L[a]? with
 |some x=>if x.1=2 then (if x.2.2.1 < lo∨hi < x.2.2.1 then .error (a,1) else .ok (x.2.2.1,a+1)) else .error (a,5)
 |none=> .error (a,5)
def arg1R (L:List Wd) (a:Nat) (k:Int):Except Bad (Int×Nat):=if (limR k).1 < 0 then .ok (0,a) else argR L a (limR k).1 (limR k).2
def arg2R (L:List Wd) (a:Nat) (k:Int):Except Bad (Int×Nat):=if k=5 then argR L a 1 64 else .ok (0,a)
def opR (L:List Wd) (a:Nat) (k:Int):Except Bad (Opn×Nat):=match arg1R L a k with
 | .error e=> .error e
 | .ok (x,a1)=>match arg2R L a1 k with
   | .error e=> .error e
   | .ok (y,a2)=>if isR L a2 3 [59] then .ok ((k,x,y),a2+1) else .error (a2,5)
def opsR (L:List Wd):Nat→Nat→List Opn→Except Bad (List Opn×Nat)
 |0,a,_=> .error (a,6)
 |n+1,a,ops=>
  if isR L a 3 [125] then (if ops=[] then .error (a,4) else .ok (ops,a+1))
  else if kindR L a=0 then .error (a,5)
  else if ops.length=12 then .error (a,6)
  else match opR L (a+1) (kindR L a) with
   | .error e=> .error e
   | .ok (o,a2)=>opsR L n a2 (ops++[o])
def openR (L:List Wd) (a:Nat):Bool×Nat:=if isR L a 1 foreverB then (true,a+1) else (false,a)
def parseR (L:List Wd) (at_:Int):Prg×Int×Int:=
 if at_ < 0∨(L.length:Int) < at_ then ((false,[]),0,5)
 else if !isR L at_.toNat 1 progB then ((false,[]),at_,5)
 else if !isR L (openR L (at_.toNat+1)).2 3 [123] then ((false,[]),(openR L (at_.toNat+1)).2,5)
 else match opsR L 13 ((openR L (at_.toNat+1)).2+1) [] with
  | .error e=>((false,[]),e.1,e.2)
  | .ok (ops,n)=>(((openR L (at_.toNat+1)).1,ops),n,0)
theorem is_at {L:List Wd} {a:Nat} {x:Wd} {r:List Wd} (h:L.drop a=x::r) (k:Int) (t:List By):isR L a k t=(decide (x.1=k)&&decide (x.2.1=t)):=by
 have e:L[a]?=some x:=by rw [←List.head?_drop,h];rfl
 unfold isR;rw [e]
theorem at_next {L:List Wd} {a:Nat} {x:Wd} {r:List Wd} (h:L.drop a=x::r):L.drop (a+1)=r:=by
 rw [←List.drop_drop,h];rfl
theorem at_more {L:List Wd} {a:Nat} {x r:List Wd} (h:L.drop a=x++r):L.drop (a+x.length)=r:=by
 rw [←List.drop_drop,h,List.drop_left]
def kindT (t:List By):Nat→Nat
 |0=>0
 |n+1=>if t=nameR ((n+1:Nat):Int) then n+1 else kindT t n
theorem kind_at {L:List Wd} {a:Nat} {x:Wd} {r:List Wd} (h:L.drop a=x::r) (hx:x.1=1):∀n,kindUp L a n=kindT x.2.1 n
 |0=>rfl
 |n+1=>by rw [kindUp,kindT,is_at h,hx,kind_at h hx n];simp
theorem name_kinds {k:Int} (h:nameR k≠[]):k=1∨k=2∨k=3∨k=4∨k=5∨k=6∨k=7∨k=8∨k=9∨k=10∨k=11:=by
 by_cases h1:1≤k∧k≤11
 ·omega
 ·exfalso
  apply h
  unfold nameR
  split
  ·next hk=>
   have:k=0:=by omega
   subst this
   rfl
  ·rfl
theorem kind_name {k:Int} (h:nameR k≠[]):((kindT (nameR k) 11:Nat):Int)=k∧kindT (nameR k) 11≠0:=by
 rcases name_kinds h with h|h|h|h|h|h|h|h|h|h|h<;>subst h<;>decide
theorem kind_le (L:List Wd) (a:Nat):∀n,kindUp L a n≤n
 |0=>Nat.le_refl _
 |n+1=>by
  rw [kindUp]
  split
  ·exact Nat.le_refl _
  ·exact Nat.le_succ_of_le (kind_le L a n)
theorem names_all {k:Nat} (h0:k≠0) (h:k≤11):nameR (k:Int)≠[]:=by
 have:k=1∨k=2∨k=3∨k=4∨k=5∨k=6∨k=7∨k=8∨k=9∨k=10∨k=11:=by omega
 rcases this with h|h|h|h|h|h|h|h|h|h|h<;>subst h<;>decide
theorem same_cons {ws l:List Wd} {x:Wd} (h:sameL ws (x::l)):∃y ws',ws=y::ws'∧sameR y x∧sameL ws' l:=by
 cases ws with
 |nil=>simp [sameL] at h
 |cons y ws'=>exact⟨y,ws',rfl,h⟩
theorem same_app:∀ {a b ws:List Wd},sameL ws (a++b)→∃u v,ws=u++v∧sameL u a∧sameL v b
 |[],b,ws,h=>⟨[],ws,rfl,by simp [sameL],h⟩
 |x::a,b,ws,h=>by
  obtain⟨y,ws',rfl,h1,h2⟩:=same_cons h
  obtain⟨u,v,rfl,h3,h4⟩:=same_app h2
  exact⟨y::u,v,rfl,⟨h1,h3⟩,h4⟩
theorem arg_back {L:List Wd} {a:Nat} {lo hi n p:Int} {y:Wd} {r:List Wd} (h:L.drop a=y::r) (hy:sameR y (2,[],n,p)) (h1:lo≤n) (h2:n≤hi):argR L a lo hi= .ok (n,a+1):=by
 have e:L[a]?=some y:=by rw [←List.head?_drop,h];rfl
 obtain⟨y1,_,y3⟩:=hy
 unfold argR
 rw [e]
 simp only at y1 y3 ⊢
 rw [if_pos y1,y3,if_neg (by omega)]
theorem op_back {o:Opn} (ho:opMay o=true) {L:List Wd} {a:Nat} {ws r:List Wd} (hd:L.drop a=ws++r) (hs:sameL ws (opW o)):
  kindR L a≠0∧((kindR L a:Nat):Int)=o.1∧isR L a 3 [125]=false∧opR L (a+1) o.1= .ok (o,a+ws.length):=by
 obtain⟨k,x,y⟩:=o
 simp only [opMay,Bool.and_eq_true,Bool.not_eq_true',decide_eq_false_iff_not] at ho
 obtain⟨hk,ha,hb⟩:=ho
 obtain⟨w0,ws1,rfl,s0,hs1⟩:=same_cons hs
 obtain⟨u1,ws2,rfl,hu1,hs2⟩:=same_app hs1
 obtain⟨u2,ws3,rfl,hu2,hs3⟩:=same_app hs2
 obtain⟨w3,ws4,rfl,s3,hs4⟩:=same_cons hs3
 have:ws4=[]:=by cases ws4 with|nil=>rfl|cons _ _=>simp [sameL] at hs4
 subst this
 obtain⟨s01,s02,_⟩:=s0
 obtain⟨s31,s32,_⟩:=s3
 simp only at s01 s02 s31 s32 hk
 obtain⟨hk1,hk2⟩:=kind_name hk
 have hd0:L.drop a=w0::(u1++(u2++(w3::r))):=by rw [hd];simp
 have hd1:=at_next hd0
 have hd2:=at_more hd1
 have hd3:=at_more hd2
 have hkr:kindR L a=kindT (nameR k) 11:=by unfold kindR;rw [kind_at hd0 s01,s02]
 refine⟨by rw [hkr];exact hk2,by rw [hkr];exact hk1,?_,?_⟩
 ·rw [is_at hd0,s01];rfl
 have e1:arg1R L (a+1) k= .ok (x,a+1+u1.length):=by
  unfold arg1R
  unfold aMay at ha
  simp only at ha hu1
  by_cases hl:0≤(limR k).1
  ·rw [if_pos hl] at ha hu1
   simp only [Bool.and_eq_true,decide_eq_true_eq] at ha
   obtain⟨z,u',rfl,hz,hu'⟩:=same_cons hu1
   have:u'=[]:=by cases u' with|nil=>rfl|cons _ _=>simp [sameL] at hu'
   subst this
   rw [if_neg (by omega),arg_back hd1 hz ha.1 ha.2];rfl
  ·rw [if_neg hl] at ha hu1
   simp only [decide_eq_true_eq] at ha
   have:u1=[]:=by cases u1 with|nil=>rfl|cons _ _=>simp [sameL] at hu1
   subst this
   rw [if_pos (by omega),ha];rfl
 have e2:arg2R L (a+1+u1.length) k= .ok (y,a+1+u1.length+u2.length):=by
  unfold arg2R
  unfold bMay at hb
  simp only at hb hu2
  by_cases hl:k=5
  ·rw [if_pos hl] at hb hu2
   simp only [Bool.and_eq_true,decide_eq_true_eq] at hb
   obtain⟨z,u',rfl,hz,hu'⟩:=same_cons hu2
   have:u'=[]:=by cases u' with|nil=>rfl|cons _ _=>simp [sameL] at hu'
   subst this
   rw [if_pos hl,arg_back hd2 hz hb.1 hb.2];rfl
  ·rw [if_neg hl] at hb hu2
   simp only [decide_eq_true_eq] at hb
   have:u2=[]:=by cases u2 with|nil=>rfl|cons _ _=>simp [sameL] at hu2
   subst this
   rw [if_neg hl,hb];rfl
 unfold opR
 simp only [e1,e2]
 rw [is_at hd3,s31,s32]
 simp only [decide_true,Bool.and_self,if_true,List.length_cons,List.length_append,List.length_nil]
 rw [show a+1+u1.length+u2.length+1=a+(u1.length+(u2.length+(0+1))+1) by omega]
theorem ops_back:∀(ops:List Opn) (n:Nat) (a:Nat) (done:List Opn) (L ws r:List Wd),ops.all opMay=true→L.drop a=ws++r→sameL ws (ops.flatMap opW++[(3,[125],0,0)])→done.length+ops.length≤12→0 < done.length+ops.length→ops.length < n→
  opsR L n a done= .ok (done++ops,a+ws.length)
 |[],n+1,a,done,L,ws,r,_,hd,hs,_,h0,_=>by
  obtain⟨w,ws',rfl,hw,hs'⟩:=same_cons hs
  have:ws'=[]:=by cases ws' with|nil=>rfl|cons _ _=>simp [sameL] at hs'
  subst this
  obtain⟨w1,w2,_⟩:=hw
  simp only at w1 w2
  have hne:done≠[]:=by rintro rfl;simp at h0
  rw [opsR,is_at (r:=r) (by simpa using hd),w1,w2]
  simp [hne]
 |o::ops,n+1,a,done,L,ws,r,ha,hd,hs,hl,h0,hn=>by
  simp only [List.all_cons,Bool.and_eq_true] at ha
  rw [List.flatMap_cons,List.append_assoc] at hs
  obtain⟨u,v,rfl,hu,hv⟩:=same_app hs
  rw [List.append_assoc] at hd
  obtain⟨k0,k1,k2,k3⟩:=op_back ha.1 hd hu
  simp only [List.length_cons] at hl h0 hn
  rw [opsR,k2,if_neg (by simp),if_neg k0,if_neg (by omega),k1,k3]
  simp only
  rw [ops_back ops n _ (done++[o]) L v r ha.2 (at_more hd) hv (by simp;omega) (by simp;omega) (by omega)]
  simp [Nat.add_assoc]
theorem parse_back {p:Prg} (hp:mayR p=true) {L ws r:List Wd} {a:Nat} (hd:L.drop a=ws++r) (hs:sameL ws (wordsR p)) (hL:a≤L.length):parseR L a=(p,((a+ws.length:Nat):Int),0):=by
 obtain⟨f,ops⟩:=p
 simp only [mayR,Bool.and_eq_true,decide_eq_true_eq] at hp
 obtain⟨h0,h12,hall⟩:=hp
 obtain⟨w0,ws1,rfl,s0,hs1⟩:=same_cons hs
 obtain⟨u,ws2,rfl,hu,hs2⟩:=same_app hs1
 obtain⟨w1,v,rfl,s1,hs3⟩:=same_cons hs2
 obtain⟨s01,s02,_⟩:=s0
 obtain⟨s11,s12,_⟩:=s1
 simp only at s01 s02 s11 s12
 have hd0:L.drop a=w0::(u++(w1::(v++r))):=by rw [hd];simp
 have hd1:=at_next hd0
 have hd2:=at_more hd1
 have hd3:=at_next hd2
 have eo:openR L (a+1)=(f,a+1+u.length):=by
  unfold openR
  simp only at hu
  cases f with
  |true=>
   obtain⟨z,u',rfl,⟨z1,z2,_⟩,hu'⟩:=same_cons hu
   have:u'=[]:=by cases u' with|nil=>rfl|cons _ _=>simp [sameL] at hu'
   subst this
   simp only at z1 z2
   rw [is_at hd1,z1,z2]
   simp
  |false=>
   have:u=[]:=by cases u with|nil=>rfl|cons _ _=>simp [sameL] at hu
   subst this
   rw [is_at (by simpa using hd1),s11]
   rfl
 unfold parseR
 rw [if_neg (by omega),Int.toNat_natCast,is_at hd0,s01,s02,eo]
 simp only [is_at hd2,s11,s12]
 rw [ops_back ops 13 (a+1+u.length+1) [] L v r hall hd3 hs3 (by simpa using h12) (by simpa using h0) (by omega)]
 simp
 omega
theorem arg1_may {L:List Wd} {a a1:Nat} {k x y:Int} (h:arg1R L a k= .ok (x,a1)):aMay (k,x,y)=true:=by
 unfold arg1R at h
 unfold aMay
 simp only
 split at h
 ·next hl=>
  simp only [Except.ok.injEq,Prod.mk.injEq] at h
  rw [if_neg (by omega), ←h.1];rfl
 ·next hl=>
  rw [if_pos (by omega)]
  unfold argR at h
  split at h
  ·split at h
   ·split at h
    ·cases h
    ·simp only [Except.ok.injEq,Prod.mk.injEq] at h
     simp only [Bool.and_eq_true,decide_eq_true_eq]
     omega
   ·cases h
  ·cases h
theorem arg2_may {L:List Wd} {a a1:Nat} {k x y:Int} (h:arg2R L a k= .ok (y,a1)):bMay (k,x,y)=true:=by
 unfold arg2R at h
 unfold bMay
 simp only
 split at h
 ·next hl=>
  rw [if_pos hl]
  unfold argR at h
  split at h
  ·split at h
   ·split at h
    ·cases h
    ·simp only [Except.ok.injEq,Prod.mk.injEq] at h
     simp only [Bool.and_eq_true,decide_eq_true_eq]
     omega
   ·cases h
  ·cases h
 ·next hl=>
  simp only [Except.ok.injEq,Prod.mk.injEq] at h
  rw [if_neg hl, ←h.1];rfl
theorem op_may {L:List Wd} {a a2:Nat} {k:Int} {o:Opn} (hk:nameR k≠[]) (h:opR L a k= .ok (o,a2)):opMay o=true:=by
 unfold opR at h
 cases h1:arg1R L a k with
 |error e=>rw [h1] at h;cases h
 |ok x1=>
  obtain⟨x,a1⟩:=x1
  rw [h1] at h
  simp only at h
  cases h2:arg2R L a1 k with
  |error e=>rw [h2] at h;cases h
  |ok y1=>
   obtain⟨y,a3⟩:=y1
   rw [h2] at h
   simp only at h
   split at h
   ·simp only [Except.ok.injEq,Prod.mk.injEq] at h
    rw [←h.1]
    unfold opMay
    rw [arg1_may h1,arg2_may h2]
    simp [hk]
   ·cases h
theorem ops_may:∀(n a:Nat) (done:List Opn) (L:List Wd) (ops:List Opn) (b:Nat),done.all opMay=true→done.length≤12→opsR L n a done= .ok (ops,b)→ops.all opMay=true∧ops.length≤12∧0 < ops.length
 |0,a,done,L,ops,b,_,_,h=>by cases h
 |n+1,a,done,L,ops,b,hd,hl,h=>by
  rw [opsR] at h
  split at h
  ·split at h
   ·cases h
   ·next hne=>
    simp only [Except.ok.injEq,Prod.mk.injEq] at h
    rw [←h.1]
    exact⟨hd,hl,by cases done with|nil=>exact absurd rfl hne|cons _ _=>simp⟩
  ·split at h
   ·cases h
   ·next hk=>
    split at h
    ·cases h
    ·next h12=>
     cases ho:opR L (a+1) (kindR L a) with
     |error e=>rw [ho] at h;cases h
     |ok x=>
      obtain⟨o,a2⟩:=x
      rw [ho] at h
      simp only at h
      exact ops_may n a2 (done++[o]) L ops b (by simp [hd,op_may (names_all hk (kind_le L a 11)) ho]) (by simp;omega) h
theorem arg_bad {L:List Wd} {a:Nat} {lo hi:Int} {e:Bad} (h:argR L a lo hi= .error e):e.2=1∨e.2=5:=by
 unfold argR at h
 split at h
 ·split at h
  ·split at h
   ·cases h;exact Or.inl rfl
   ·cases h
  ·cases h;exact Or.inr rfl
 ·cases h;exact Or.inr rfl
theorem op_bad {L:List Wd} {a:Nat} {k:Int} {e:Bad} (h:opR L a k= .error e):e.2=1∨e.2=5:=by
 unfold opR at h
 cases h1:arg1R L a k with
 |error e1=>
  rw [h1] at h;cases h
  unfold arg1R at h1
  split at h1
  ·cases h1
  ·exact arg_bad h1
 |ok x1=>
  obtain⟨x,a1⟩:=x1
  rw [h1] at h
  simp only at h
  cases h2:arg2R L a1 k with
  |error e2=>
   rw [h2] at h;cases h
   unfold arg2R at h2
   split at h2
   ·exact arg_bad h2
   ·cases h2
  |ok y1=>
   obtain⟨y,a3⟩:=y1
   rw [h2] at h
   simp only at h
   split at h
   ·cases h
   ·cases h;exact Or.inr rfl
theorem ops_bad:∀(n a:Nat) (done:List Opn) (L:List Wd) (e:Bad),opsR L n a done= .error e→e.2≠0
 |0,a,done,L,e,h=>by cases h;simp
 |n+1,a,done,L,e,h=>by
  rw [opsR] at h
  split at h
  ·split at h
   ·cases h;simp
   ·cases h
  ·split at h
   ·cases h;simp
   ·split at h
    ·cases h;simp
    ·cases ho:opR L (a+1) (kindR L a) with
     |error e1=>
      rw [ho] at h
      cases h
      rcases op_bad ho with h|h<;>rw [h]<;>decide
     |ok x=>
      obtain⟨o,a2⟩:=x
      rw [ho] at h
      exact ops_bad n a2 (done++[o]) L e h
theorem parse_may {L:List Wd} {a:Int} (h:(parseR L a).2.2=0):mayR (parseR L a).1=true:=by
 unfold parseR at h ⊢
 split at h
 ·cases h
 ·next h1=>
  rw [if_neg h1]
  split at h
  ·cases h
  ·next h2=>
   rw [if_neg h2]
   split at h
   ·cases h
   ·next h3=>
    rw [if_neg h3]
    cases ho:opsR L 13 ((openR L (a.toNat+1)).2+1) [] with
    |error e=>
     rw [ho] at h
     exact absurd h (ops_bad _ _ _ _ _ ho)
    |ok x=>
     obtain⟨ops,n⟩:=x
     obtain⟨k1,k2,k3⟩:=ops_may 13 _ [] L ops n (by rfl) (by simp) ho
     simp [mayR,k1,k2,k3]
abbrev Lk:=Bool×Int×Int×Int×Int
def takesR (o:Opn):Bool:=decide (2≤o.1)&&decide (o.1≤5)
def timeR (o:Opn):Bool:=decide (o.1=1)||(decide (o.1=7)||(decide (o.1=8)||decide (o.1=11)))
def endCr (lock:Int) (o:Opn):Bool:=decide (o.1=11)||(decide (o.1=6)&&decide (o.2.1=lock))
def secR (lock:Int):List Opn→Nat→Int→Nat×Int
 |[],j,t=>(j,t)
 |o::L,j,t=>if endCr lock o then (j,t) else secR lock L (j+1) (if o.1=1 then t+o.2.1 else t)
def lockR (locks:List Lk) (a:Int):Lk:=(locks[a.toNat]?).getD (false,0,0,0,0)
def metR (f:Bool) (n:Nat) (locks:List Lk) (progs:Int) (o:Opn) (rest:List Opn) (i:Nat):Int:=
 if ((takesR o||decide (o.1=6))&&decide ((locks.length:Int)≤o.2.1))||(decide (o.1=9)&&decide (progs≤o.2.1)) then 4
 else if o.1=3∧(lockR locks o.2.1).1=false then 1
 else if takesR o=true∧((secR o.2.1 rest (i+1) 0).2 < 1∨(lockR locks o.2.1).2.2.1 < (secR o.2.1 rest (i+1) 0).2∨(f=true∧(secR o.2.1 rest (i+1) 0).1=n)) then 13
 else 0
def goR (f:Bool) (n:Nat) (locks:List Lk) (progs:Int):List Opn→Nat→Bool→Nat×Int
 |[],_,time=>if f=true∧time=false then (0,1) else (0,0)
 |o::L,i,time=>if metR f n locks progs o L i=0 then goR f n locks progs L (i+1) (time||timeR o) else (i,metR f n locks progs o L i)
def checkR (p:Prg) (locks:List Lk) (progs:Int):Nat×Int:=if mayR p then goR p.1 p.2.length locks progs p.2 0 false else (0,1)
theorem sec_bound (lock:Int):∀(L:List Opn) (j:Nat) (t:Int),(∀o ∈ L,opMay o=true)→t≤(secR lock L j t).2∧(secR lock L j t).2≤t+16*L.length∧j≤(secR lock L j t).1∧(secR lock L j t).1≤j+L.length
 |[],j,t,_=>by simp [secR]
 |o::L,j,t,h=>by
  unfold secR
  split
  ·simp
   omega
  ·have ho:=h o (by simp)
   have hb:o.1=1→1≤o.2.1∧o.2.1≤16:=by
    intro h1
    simp only [opMay,Bool.and_eq_true] at ho
    have ha:=ho.2.1
    unfold aMay limR at ha
    rw [if_pos h1] at ha
    simpa using ha
   have ih:=sec_bound lock L (j+1) (if o.1=1 then t+o.2.1 else t) (fun x hx=>h x (by simp [hx]))
   simp only [List.length_cons]
   split at ih
   ·next h1=>
    have:=hb h1
    rw [if_pos h1]
    refine⟨?_,?_,?_,?_⟩<;>omega
   ·next h1=>
    rw [if_neg h1]
    refine⟨?_,?_,?_,?_⟩<;>omega
abbrev Stp:=Int×Int×List Int×List Lk×List Prg
abbrev coresB:List By:=[99,111,114,101,115]
abbrev grainB:List By:=[103,114,97,105,110]
abbrev groupB:List By:=[103,114,111,117,112]
abbrev sliceB:List By:=[115,108,105,99,101]
abbrev critB:List By:=[99,114,105,116]
abbrev readB:List By:=[114,101,97,100]
abbrev writeB:List By:=[119,114,105,116,101]
abbrev lockB:List By:=[108,111,99,107]
abbrev sharedB:List By:=[115,104,97,114,101,100]
abbrev semiW:Wd:=(3,[59],0,0)
def fieldW (name:List By) (n:Int):List Wd:=[(1,name,0,0),(2,[],n,0)]
def groupW (n:Int):List Wd:=fieldW groupB n++[semiW]
def lockW (x:Lk):List Wd:=(1,if x.1 then sharedB else lockB,0,0)::(fieldW sliceB x.2.1++(fieldW critB x.2.2.1++((if x.1 then fieldW readB x.2.2.2.1++fieldW writeB x.2.2.2.2 else [])++[semiW])))
def wordsS (s:Stp):List Wd:=fieldW coresB s.1++[semiW]++(fieldW grainB s.2.1++[semiW])++s.2.2.1.flatMap groupW++s.2.2.2.1.flatMap lockW++s.2.2.2.2.flatMap wordsR
def inS (n most:Int):Bool:=decide (1≤n)&&decide (n≤most)
def lkMay (x:Lk):Bool:=inS x.2.1 16&&inS x.2.2.1 32&&(if x.1 then inS x.2.2.2.1 16&&inS x.2.2.2.2 16 else decide (x.2.2.2.1=0)&&decide (x.2.2.2.2=0))
def fitS (locks:List Lk) (n:Int) (p:Prg):Bool:=decide ((checkR p locks n).2=0)
def mayS (s:Stp):Bool:=inS s.1 4&&inS s.2.1 8&&inS s.2.2.1.length 4&&decide (s.2.2.2.1.length≤8)&&inS s.2.2.2.2.length 8&&s.2.2.1.all (inS · 16)&&s.2.2.2.1.all lkMay&&s.2.2.2.2.all (fitS s.2.2.2.1 s.2.2.2.2.length)
abbrev Rd:=Nat×Int
def isS (L:List Wd) (s:Rd) (k:Int) (t:List By):Bool:=decide (s.2=0)&&isR L s.1 k t
def needS (L:List Wd) (s:Rd) (k:Int) (t:List By):Rd:=if isS L s k t then (s.1+1,s.2) else if s.2=0 then (s.1,5) else s
def numS (L:List Wd) (s:Rd) (most:Int):Int×Rd:=
 if s.2≠0 then (0,s) else match L[s.1]? with
 |none=>(0,(s.1,5))
 |some x=>if x.1=2 then (if x.2.2.1 < 1∨most < x.2.2.1 then (0,(s.1,1)) else (x.2.2.1,(s.1+1,s.2))) else (0,(s.1,5))
def fieldS (L:List Wd) (s:Rd) (name:List By) (most:Int):Int×Rd:=numS L (needS L s 1 name) most
def lockS (L:List Wd) (s:Rd) (sh:Bool):Lk×Rd:=
 let a:=fieldS L s sliceB 16
 let b:=fieldS L a.2 critB 32
 let c:=if sh then fieldS L b.2 readB 16 else (0,b.2)
 let d:=if sh then fieldS L c.2 writeB 16 else (0,c.2)
 ((sh,a.1,b.1,c.1,d.1),needS L d.2 3 [59])
def groupsS (L:List Wd):Nat→Rd→List Int→List Int×Rd
 |0,s,gs=>(gs,s)
 |n+1,s,gs=>
  if isS L s 1 groupB=true∨(gs.length=0∧s.2=0) then
   if isS L s 1 groupB=true∧4≤gs.length then (gs,(s.1,6))
   else groupsS L n (needS L (fieldS L s groupB 16).2 3 [59]) (gs++[(fieldS L s groupB 16).1])
  else (gs,s)
def locksS (L:List Wd):Nat→Rd→List Lk→List Lk×Rd
 |0,s,ls=>(ls,s)
 |n+1,s,ls=>
  if isS L s 1 lockB=true∨isS L s 1 sharedB=true then
   if 8≤ls.length then (ls,(s.1,6))
   else locksS L n (lockS L (s.1+1,s.2) (isS L s 1 sharedB)).2 (ls++[(lockS L (s.1+1,s.2) (isS L s 1 sharedB)).1])
  else (ls,s)
def progsS (L:List Wd):Nat→Rd→List (Prg×Nat)→List (Prg×Nat)×Rd
 |0,s,ps=>(ps,s)
 |n+1,s,ps=>
  if isS L s 1 progB=true∨(ps.length=0∧s.2=0) then
   if 8≤ps.length then (ps,(s.1,6))
   else progsS L n ((parseR L s.1).2.1.toNat,(parseR L s.1).2.2) (ps++[((parseR L s.1).1,s.1)])
  else (ps,s)
def unfitS (locks:List Lk) (n:Int):List (Prg×Nat)→Option Rd
 |[]=>none
 |x::ps=>if (checkR x.1 locks n).2=0 then unfitS locks n ps else some (x.2,(checkR x.1 locks n).2)
def noneS:Stp:=(0,0,[],[],[])
def headS (L:List Wd) (a:Nat):Int×Int×Rd:=
 let x:=fieldS L (a,0) coresB 4
 let y:=fieldS L (needS L x.2 3 [59]) grainB 8
 (x.1,y.1,needS L y.2 3 [59])
def restS (L:List Wd) (s:Rd):List Int×List Lk×List (Prg×Nat)×Rd:=
 let g:=groupsS L 6 s []
 let l:=locksS L 10 g.2 []
 let p:=progsS L 10 l.2 []
 (g.1,l.1,p.1,p.2)
def parseS (L:List Wd) (at_:Int):Stp×Int×Int:=
 if at_ < 0∨(L.length:Int) < at_ then (noneS,0,5)
 else
  let h:=headS L at_.toNat
  let r:=restS L h.2.2
  if r.2.2.2.2≠0 then (noneS,r.2.2.2.1,r.2.2.2.2)
  else match unfitS r.2.1 r.2.2.1.length r.2.2.1 with
   |some e=>(noneS,e.1,e.2)
   |none=>((h.1,h.2.1,r.1,r.2.1,r.2.2.1.map (·.1)),r.2.2.2.1,0)
theorem is_back {L:List Wd} {c:Nat} {y:Wd} {r:List Wd} (h:L.drop c=y::r) (k:Int) (t t':List By) (n p:Int) (hy:sameR y (k,t,n,p)) (k':Int):isS L (c,0) k' t'=(decide (k=k')&&decide (t=t')):=by
 unfold isS
 rw [is_at h,hy.1,hy.2.1]
 simp
theorem need_back {L:List Wd} {c:Nat} {y:Wd} {r:List Wd} (h:L.drop c=y::r) {k:Int} {t:List By} {n p:Int} (hy:sameR y (k,t,n,p)):needS L (c,0) k t=(c+1,0):=by
 unfold needS
 rw [is_back h k t t n p hy k]
 simp
theorem num_back {L:List Wd} {c:Nat} {y:Wd} {r:List Wd} (h:L.drop c=y::r) {n p most:Int} (hy:sameR y (2,[],n,p)) (hn:inS n most=true):numS L (c,0) most=(n,(c+1,0)):=by
 have e:L[c]?=some y:=by rw [←List.head?_drop,h];rfl
 simp only [inS,Bool.and_eq_true,decide_eq_true_eq] at hn
 unfold numS
 rw [if_neg (by simp)]
 simp only [e]
 have e3:y.2.2.1=n:=hy.2.2
 rw [if_pos (show y.1=2 from hy.1),if_neg (by rw [e3];omega),e3]
theorem field_back {L:List Wd} {c:Nat} {ws r:List Wd} {name:List By} {n most:Int} (h:L.drop c=ws++r) (hs:sameL ws (fieldW name n)) (hn:inS n most=true):fieldS L (c,0) name most=(n,(c+ws.length,0))∧L.drop (c+ws.length)=r:=by
 refine⟨?_,at_more h⟩
 obtain⟨y,ws1,rfl,hy,h1⟩:=same_cons hs
 obtain⟨z,ws2,rfl,hz,h2⟩:=same_cons h1
 have hw:ws2=[]:=by
  cases ws2 with
  |nil=>rfl
  |cons a b=>exact absurd h2 (by simp [sameL])
 subst hw
 have h3:L.drop c=y::(z::r):=h
 unfold fieldS
 rw [need_back h3 hy,num_back (at_next h3) hz hn]
 rfl
theorem semi_back {L:List Wd} {c:Nat} {ws r:List Wd} (h:L.drop c=ws++r) (hs:sameL ws [semiW]):needS L (c,0) 3 [59]=(c+ws.length,0)∧L.drop (c+ws.length)=r:=by
 refine⟨?_,at_more h⟩
 obtain⟨y,ws1,rfl,hy,h1⟩:=same_cons hs
 have hw:ws1=[]:=by
  cases ws1 with
  |nil=>rfl
  |cons a b=>exact absurd h1 (by simp [sameL])
 subst hw
 exact need_back h hy
theorem same_nil {ws:List Wd} (h:sameL ws []):ws=[]:=by
 cases ws with
 |nil=>rfl
 |cons a b=>exact absurd h (by simp [sameL])
theorem groups_back:∀(gs:List Int) (n c:Nat) (done:List Int) (L ws r:List Wd),gs.all (inS · 16)=true→L.drop c=ws++r→sameL ws (gs.flatMap groupW)→done.length+gs.length≤4→0 < done.length+gs.length→gs.length < n→isR L (c+ws.length) 1 groupB=false→
  groupsS L n (c,0) done=(done++gs,(c+ws.length,0))∧L.drop (c+ws.length)=r
 |[],n,c,done,L,ws,r,_,hd,hs,_,h0,hn,hg=>by
  have hw:=same_nil hs
  subst hw
  obtain⟨m,rfl⟩:∃m,n=m+1:=⟨n - 1,by simp at hn;omega⟩
  refine⟨?_,at_more hd⟩
  simp only [List.length_nil,Nat.add_zero] at h0 hg ⊢
  unfold groupsS
  rw [if_neg (by
   rintro (h|⟨h,_⟩)
   ·unfold isS at h
    rw [hg] at h
    simp at h
   ·omega),List.append_nil]
 |g::gs,n,c,done,L,ws,r,ha,hd,hs,h4,h0,hn,hg=>by
  simp only [List.all_cons,Bool.and_eq_true] at ha
  simp only [List.length_cons] at h4 h0 hn
  obtain⟨m,rfl⟩:∃m,n=m+1:=⟨n - 1,by omega⟩
  rw [List.flatMap_cons] at hs
  obtain⟨u,v,rfl,hu,hv⟩:=same_app hs
  obtain⟨u1,u2,rfl,hu1,hu2⟩:=same_app (show sameL u (fieldW groupB g++[semiW]) from hu)
  have hd1:L.drop c=u1++(u2++(v++r)):=by rw [hd];simp
  obtain⟨f1,d1⟩:=field_back hd1 hu1 ha.1
  obtain⟨f2,d2⟩:=semi_back d1 hu2
  have hi:isS L (c,0) 1 groupB=true:=by
   obtain⟨y,ws1,rfl,hy,_⟩:=same_cons (show sameL u1 ((1,groupB,0,0)::[(2,[],g,0)]) from hu1)
   rw [is_back (r:=ws1++(u2++(v++r))) (by rw [hd1];rfl) 1 groupB groupB 0 0 hy 1]
   simp
  have hlen:c+(u1++u2++v).length=c+u1.length+u2.length+v.length:=by simp;omega
  rw [hlen] at hg ⊢
  obtain⟨i1,i2⟩:=groups_back gs m (c+u1.length+u2.length) (done++[g]) L v r ha.2 d2 hv (by rw [List.length_append,List.length_singleton];omega) (by rw [List.length_append,List.length_singleton];omega) (by omega) hg
  refine⟨?_,i2⟩
  unfold groupsS
  rw [if_pos (.inl hi),if_neg (by rintro ⟨_,h⟩;omega),f1]
  simp only
  rw [f2,i1,List.append_assoc,List.singleton_append]
theorem lock_back {x:Lk} (hx:lkMay x=true) {L:List Wd} {c:Nat} {ws r:List Wd} (h:L.drop c=ws++r) (hs:sameL ws (fieldW sliceB x.2.1++(fieldW critB x.2.2.1++((if x.1 then fieldW readB x.2.2.2.1++fieldW writeB x.2.2.2.2 else [])++[semiW])))):
  lockS L (c,0) x.1=(x,(c+ws.length,0))∧L.drop (c+ws.length)=r:=by
 obtain⟨sh,sl,cr,rd,wr⟩:=x
 simp only [lkMay,Bool.and_eq_true] at hx
 obtain⟨⟨h1,h2⟩,h3⟩:=hx
 simp only at hs h1 h2 h3 ⊢
 obtain⟨u1,v1,rfl,hu1,hv1⟩:=same_app hs
 obtain⟨u2,v2,rfl,hu2,hv2⟩:=same_app hv1
 obtain⟨u3,u4,rfl,hu3,hu4⟩:=same_app hv2
 have hd1:L.drop c=u1++(u2++(u3++(u4++r))):=by rw [h];simp
 obtain⟨f1,d1⟩:=field_back hd1 hu1 h1
 obtain⟨f2,d2⟩:=field_back d1 hu2 h2
 cases sh with
 |true=>
  simp only [if_pos,Bool.and_eq_true] at hu3 h3
  obtain⟨w1,w2,rfl,hw1,hw2⟩:=same_app hu3
  have d2':L.drop (c+u1.length+u2.length)=w1++(w2++(u4++r)):=by rw [d2];simp
  obtain⟨f3,d3⟩:=field_back d2' hw1 h3.1
  obtain⟨f4,d4⟩:=field_back d3 hw2 h3.2
  obtain⟨f5,d5⟩:=semi_back d4 hu4
  have hlen:c+(u1++(u2++(w1++w2++u4))).length=c+u1.length+u2.length+w1.length+w2.length+u4.length:=by simp;omega
  rw [hlen]
  refine⟨?_,d5⟩
  unfold lockS
  simp only [f1,f2,if_pos,f3,f4,f5]
 |false=>
  simp only [Bool.false_eq_true,if_false,Bool.and_eq_true,decide_eq_true_eq] at hu3 h3
  have hw:=same_nil hu3
  subst hw
  simp only [List.nil_append] at d2
  obtain⟨f5,d5⟩:=semi_back d2 hu4
  have hlen:c+(u1++(u2++([]++u4))).length=c+u1.length+u2.length+u4.length:=by simp;omega
  rw [hlen]
  refine⟨?_,d5⟩
  unfold lockS
  simp only [f1,f2,Bool.false_eq_true,if_false,f5]
  rw [h3.1,h3.2]
theorem locks_back:∀(ls:List Lk) (n c:Nat) (done:List Lk) (L ws r:List Wd),ls.all lkMay=true→L.drop c=ws++r→sameL ws (ls.flatMap lockW)→done.length+ls.length≤8→ls.length < n→isR L (c+ws.length) 1 lockB=false→isR L (c+ws.length) 1 sharedB=false→
  locksS L n (c,0) done=(done++ls,(c+ws.length,0))∧L.drop (c+ws.length)=r
 |[],n,c,done,L,ws,r,_,hd,hs,_,hn,hg1,hg2=>by
  have hw:=same_nil hs
  subst hw
  obtain⟨m,rfl⟩:∃m,n=m+1:=⟨n - 1,by simp at hn;omega⟩
  refine⟨?_,at_more hd⟩
  simp only [List.length_nil,Nat.add_zero] at hg1 hg2 ⊢
  unfold locksS
  rw [if_neg (by
   unfold isS
   rw [hg1,hg2]
   simp),List.append_nil]
 |x::ls,n,c,done,L,ws,r,ha,hd,hs,h8,hn,hg1,hg2=>by
  simp only [List.all_cons,Bool.and_eq_true] at ha
  simp only [List.length_cons] at h8 hn
  obtain⟨m,rfl⟩:∃m,n=m+1:=⟨n - 1,by omega⟩
  rw [List.flatMap_cons] at hs
  obtain⟨u,v,rfl,hu,hv⟩:=same_app hs
  obtain⟨y,u2,rfl,hy,hu2⟩:=same_cons hu
  have hd1:L.drop c=y::(u2++(v++r)):=by rw [hd];simp
  obtain⟨f1,d1⟩:=lock_back ha.1 (at_next hd1) hu2
  have i1:=is_back hd1 1 (if x.1 then sharedB else lockB) lockB 0 0 hy 1
  have i2:=is_back hd1 1 (if x.1 then sharedB else lockB) sharedB 0 0 hy 1
  have hor:isS L (c,0) 1 lockB=true∨isS L (c,0) 1 sharedB=true:=by
   rw [i1,i2]
   cases x.1<;>simp
  have hsh:isS L (c,0) 1 sharedB=x.1:=by
   rw [i2]
   cases x.1<;>decide
  have hlen:c+(y::u2++v).length=c+1+u2.length+v.length:=by simp;omega
  rw [hlen] at hg1 hg2 ⊢
  obtain⟨j1,j2⟩:=locks_back ls m (c+1+u2.length) (done++[x]) L v r ha.2 d1 hv (by rw [List.length_append,List.length_singleton];omega) (by omega) hg1 hg2
  refine⟨?_,j2⟩
  unfold locksS
  rw [if_pos hor,if_neg (by omega),hsh]
  simp only
  rw [f1]
  simp only
  rw [j1,List.append_assoc,List.singleton_append]
theorem drop_le {L ws r:List Wd} {c:Nat} (hd:L.drop c=ws++r) (h:0 < ws.length):c≤L.length:=by
 by_cases h1:c≤L.length
 ·exact h1
 ·rw [List.drop_of_length_le (by omega)] at hd
  have h2:=congrArg List.length hd
  simp at h2
  omega
theorem words_pos (p:Prg):∃l,wordsR p=(1,progB,0,0)::l:=⟨_,rfl⟩
theorem progs_back:∀(ps:List Prg) (n c:Nat) (done:List (Prg×Nat)) (L ws r:List Wd),(∀p ∈ ps,mayR p=true)→L.drop c=ws++r→sameL ws (ps.flatMap wordsR)→done.length+ps.length≤8→0 < done.length+ps.length→ps.length < n→isR L (c+ws.length) 1 progB=false→
  ∃pl:List (Prg×Nat),pl.map (·.1)=ps∧progsS L n (c,0) done=(done++pl,(c+ws.length,0))∧L.drop (c+ws.length)=r
 |[],n,c,done,L,ws,r,_,hd,hs,_,h0,hn,hg=>by
  have hw:=same_nil hs
  subst hw
  obtain⟨m,rfl⟩:∃m,n=m+1:=⟨n - 1,by simp at hn;omega⟩
  refine⟨[],rfl,?_,at_more hd⟩
  simp only [List.length_nil,Nat.add_zero] at h0 hg ⊢
  unfold progsS
  rw [if_neg (by
   rintro (h|⟨h,_⟩)
   ·unfold isS at h
    rw [hg] at h
    simp at h
   ·omega),List.append_nil]
 |p::ps,n,c,done,L,ws,r,ha,hd,hs,h8,h0,hn,hg=>by
  simp only [List.length_cons] at h8 h0 hn
  obtain⟨m,rfl⟩:∃m,n=m+1:=⟨n - 1,by omega⟩
  rw [List.flatMap_cons] at hs
  obtain⟨u,v,rfl,hu,hv⟩:=same_app hs
  have hd1:L.drop c=u++(v++r):=by rw [hd];simp
  obtain⟨l,hl⟩:=words_pos p
  have hu':=hu
  rw [hl] at hu'
  obtain⟨y,u2,rfl,hy,_⟩:=same_cons hu'
  have hc:c≤L.length:=drop_le hd1 (by simp)
  have hp:=parse_back (ha p (by simp)) hd1 hu hc
  have hi:isS L (c,0) 1 progB=true:=by
   rw [is_back (r:=u2++(v++r)) (by rw [hd1];rfl) 1 progB progB 0 0 hy 1]
   simp
  have hlen:c+(y::u2++v).length=c+(y::u2).length+v.length:=by simp;omega
  rw [hlen] at hg ⊢
  obtain⟨pl,k1,k2,k3⟩:=progs_back ps m (c+(y::u2).length) (done++[(p,c)]) L v r (fun q hq=>ha q (by simp [hq])) (at_more hd1) hv (by rw [List.length_append,List.length_singleton];omega) (by rw [List.length_append,List.length_singleton];omega) (by omega) hg
  refine⟨(p,c)::pl,by simp [k1],?_,k3⟩
  unfold progsS
  rw [if_pos (.inl hi),if_neg (by omega),hp]
  simp only [Int.toNat_natCast]
  rw [k2,List.append_assoc,List.singleton_append]
theorem unfit_none {locks:List Lk} {n:Int} :∀ {ps:List (Prg×Nat)},(∀x ∈ ps,(checkR x.1 locks n).2=0)→unfitS locks n ps=none
 |[],_=>rfl
 |x::ps,h=>by
  unfold unfitS
  rw [if_pos (h x (by simp))]
  exact unfit_none fun y hy=>h y (by simp [hy])
theorem check_may {p:Prg} {locks:List Lk} {n:Int} (h:(checkR p locks n).2=0):mayR p=true:=by
 unfold checkR at h
 cases hq:mayR p with
 |true=>rfl
 |false=>
  rw [hq] at h
  simp at h
theorem setup_back {s:Stp} (hs:mayS s=true) {L ws r:List Wd} {a:Nat} (hd:L.drop a=ws++r) (hw:sameL ws (wordsS s)) (hL:a≤L.length) (hr:isR L (a+ws.length) 1 progB=false):parseS L a=(s,((a+ws.length:Nat):Int),0):=by
 obtain⟨cores,grain,groups,locks,progs⟩:=s
 simp only [mayS,Bool.and_eq_true] at hs
 obtain⟨⟨⟨⟨⟨⟨⟨m1,m2⟩,m3⟩,m4⟩,m5⟩,m6⟩,m7⟩,m8⟩:=hs
 simp only [inS,Bool.and_eq_true,decide_eq_true_eq] at m3 m4 m5
 unfold wordsS at hw
 simp only at hw m1 m2 m3 m4 m5 m6 m7 m8
 obtain⟨w14,w5,rfl,h14,h5⟩:=same_app hw
 obtain⟨w13,w4,rfl,h13,h4⟩:=same_app h14
 obtain⟨w12,w3,rfl,h12,h3⟩:=same_app h13
 obtain⟨w1,w2,rfl,h1,h2⟩:=same_app h12
 obtain⟨w1a,w1b,rfl,h1a,h1b⟩:=same_app h1
 obtain⟨w2a,w2b,rfl,h2a,h2b⟩:=same_app h2
 have hd1:L.drop a=w1a++(w1b++(w2a++(w2b++(w3++(w4++(w5++r)))))):=by rw [hd];simp
 obtain⟨f1,d1⟩:=field_back hd1 h1a m1
 obtain⟨f2,d2⟩:=semi_back d1 h1b
 obtain⟨f3,d3⟩:=field_back d2 h2a m2
 obtain⟨f4,d4⟩:=semi_back d3 h2b
 obtain⟨c0,hc0⟩:∃c,a+w1a.length+w1b.length+w2a.length+w2b.length=c:=⟨_,rfl⟩
 rw [hc0] at f4 d4
 have hlen:a+(w1a++w1b++(w2a++w2b)++w3++w4++w5).length=c0+w3.length+w4.length+w5.length:=by simp;omega
 rw [hlen] at hr ⊢
 have hfirst:∀ {c:Nat} {u v:List Wd} {t t':List By} {l:List Wd},L.drop c=u++v→sameL u ((1,t,0,0)::l)→t≠t'→isR L c 1 t'=false:=by
  intro c u v t t' l hdc hsu hne
  obtain⟨y,u2,rfl,hy,_⟩:=same_cons hsu
  rw [is_at (r:=u2++v) (by rw [hdc];rfl),hy.1,hy.2.1]
  simp [hne]
 have hp5:∃l,progs.flatMap wordsR=(1,progB,0,0)::l:=by
  cases progs with
  |nil=>simp at m5
  |cons p ps=>exact⟨_,rfl⟩
 obtain⟨l5,hl5⟩:=hp5
 have d3':L.drop (c0+w3.length)=w4++(w5++r):=at_more d4
 have d4':L.drop (c0+w3.length+w4.length)=w5++r:=at_more d3'
 have n5:∀t',progB≠t'→isR L (c0+w3.length+w4.length) 1 t'=false:=fun t' ht=>hfirst (t:=progB) d4' (by rw [←hl5];exact h5) ht
 have n4:isR L (c0+w3.length) 1 groupB=false:=by
  cases locks with
  |nil=>
   have hw4:=same_nil (show sameL w4 [] from h4)
   subst hw4
   simpa using n5 groupB (by decide)
  |cons x ls=>
   obtain⟨u,v,rfl,hu,hv⟩:=same_app (show sameL w4 (lockW x++ls.flatMap lockW) from h4)
   refine hfirst (t:=if x.1 then sharedB else lockB) (u:=u) (v:=v++(w5++r)) (by rw [d3'];simp) hu ?_
   cases x.1<;>decide
 obtain⟨g1,g2⟩:=groups_back groups 6 c0 [] L w3 (w4++(w5++r)) m6 d4 h3 (by simp;omega) (by simp;omega) (by omega) n4
 obtain⟨k1,k2⟩:=locks_back locks 10 (c0+w3.length) [] L w4 (w5++r) m7 g2 h4 (by simp;omega) (by omega) (n5 lockB (by decide)) (n5 sharedB (by decide))
 have hmay:∀p ∈ progs,mayR p=true:=by
  intro p hp
  have h8:=List.all_eq_true.1 m8 p hp
  exact check_may (of_decide_eq_true h8)
 obtain⟨pl,q1,q2,q3⟩:=progs_back progs 10 (c0+w3.length+w4.length) [] L w5 r hmay k2 h5 (by simp;omega) (by simp;omega) (by omega) hr
 have hun:unfitS locks pl.length pl=none:=by
  apply unfit_none
  intro x hx
  have hxp:x.1 ∈ progs:=by rw [←q1];exact List.mem_map_of_mem hx
  have h8:=List.all_eq_true.1 m8 x.1 hxp
  have hl:pl.length=progs.length:=by rw [←q1,List.length_map]
  rw [hl]
  exact of_decide_eq_true h8
 have hhead:headS L a=(cores,grain,(c0,0)):=by
  unfold headS
  simp only [f1,f2,f3,f4]
 have hrest:restS L (c0,0)=(groups,locks,pl,(c0+w3.length+w4.length+w5.length,0)):=by
  unfold restS
  simp only [g1,k1,q2,List.nil_append]
 unfold parseS
 rw [if_neg (by omega)]
 simp only [Int.toNat_natCast,hhead,hrest]
 rw [if_neg (by simp),hun]
 simp only [q1]
theorem need_ok {L:List Wd} {s:Rd} {k:Int} {t:List By} (h:(needS L s k t).2=0):s.2=0:=by
 unfold needS at h
 split at h
 ·exact h
 ·split at h
  ·simp at h
  ·exact h
theorem snum_ok {L:List Wd} {s:Rd} {most:Int} (h:(numS L s most).2.2=0):s.2=0∧inS (numS L s most).1 most=true:=by
 unfold numS at h ⊢
 split at h
 ·next h0=>exact absurd h h0
 ·next h0=>
  have h1:s.2=0:=by simpa using h0
  rw [if_neg h0]
  split at h
  ·simp at h
  ·next x hx=>
   (try simp only [hx])
   split at h
   ·next h2=>
    split at h
    ·simp at h
    ·next h3=>
     rw [if_pos h2,if_neg h3]
     refine⟨h1,?_⟩
     simp only [inS,Bool.and_eq_true,decide_eq_true_eq]
     omega
   ·simp at h
theorem field_ok {L:List Wd} {s:Rd} {name:List By} {most:Int} (h:(fieldS L s name most).2.2=0):s.2=0∧inS (fieldS L s name most).1 most=true:=by
 unfold fieldS at h ⊢
 obtain⟨h1,h2⟩:=snum_ok h
 exact⟨need_ok h1,h2⟩
theorem lock_ok {L:List Wd} {s:Rd} {sh:Bool} (h:(lockS L s sh).2.2=0):s.2=0∧lkMay (lockS L s sh).1=true:=by
 unfold lockS at h ⊢
 simp only at h ⊢
 have h1:=need_ok h
 cases sh with
 |true=>
  simp only [if_pos] at h1 ⊢
  obtain⟨a1,a2⟩:=field_ok h1
  obtain⟨b1,b2⟩:=field_ok a1
  obtain⟨c1,c2⟩:=field_ok b1
  obtain⟨d1,d2⟩:=field_ok c1
  exact⟨d1,by simp only [lkMay,if_pos,Bool.and_eq_true];exact⟨⟨d2,c2⟩,b2,a2⟩⟩
 |false=>
  simp only [Bool.false_eq_true,if_false] at h1 ⊢
  obtain⟨c1,c2⟩:=field_ok h1
  obtain⟨d1,d2⟩:=field_ok c1
  exact⟨d1,by simp only [lkMay,Bool.false_eq_true,if_false,Bool.and_eq_true,decide_eq_true_eq];exact⟨⟨d2,c2⟩,trivial,trivial⟩⟩
theorem groups_ok {L:List Wd} :∀(n:Nat) (s:Rd) (gs:List Int),gs.length≤4→6≤n+gs.length→gs.all (inS · 16)=true→(groupsS L n s gs).2.2=0→s.2=0∧1≤(groupsS L n s gs).1.length∧(groupsS L n s gs).1.length≤4∧(groupsS L n s gs).1.all (inS · 16)=true
 |0,s,gs,h4,h6,_,_=>by omega
 |n+1,s,gs,h4,h6,ha,h=>by
  unfold groupsS at h ⊢
  by_cases hc:isS L s 1 groupB=true∨(gs.length=0∧s.2=0)
  ·rw [if_pos hc] at h ⊢
   by_cases hl:isS L s 1 groupB=true∧4≤gs.length
   ·rw [if_pos hl] at h
    simp at h
   ·rw [if_neg hl] at h ⊢
    have hlt:gs.length < 4:=by
     rcases hc with hc|hc
     ·have:¬4≤gs.length:=fun h=>hl ⟨hc,h⟩
      omega
     ·omega
    have key:(needS L (fieldS L s groupB 16).2 3 [59]).2=0:=by
     cases hn:(needS L (fieldS L s groupB 16).2 3 [59]).2 == 0 with
     |true=>simpa using hn
     |false=>
      exfalso
      have hne:(needS L (fieldS L s groupB 16).2 3 [59]).2≠0:=by simpa using hn
      obtain⟨m,rfl⟩:∃m,n=m+1:=⟨n - 1,by omega⟩
      unfold groupsS at h
      rw [if_neg (by
       rintro (h1|⟨h1,_⟩)
       ·unfold isS at h1
        simp only [Bool.and_eq_true,decide_eq_true_eq] at h1
        exact hne h1.1
       ·simp at h1)] at h
      exact hne h
    obtain⟨f1,f2⟩:=field_ok (need_ok key)
    obtain⟨_,i2,i3,i4⟩:=groups_ok n _ (gs++[(fieldS L s groupB 16).1]) (by simp;omega) (by simp;omega) (by rw [List.all_append,ha];simp [f2]) h
    exact⟨f1,i2,i3,i4⟩
  ·rw [if_neg hc] at h ⊢
   simp only at h ⊢
   refine⟨h,?_,h4,ha⟩
   have:¬gs.length=0:=fun h1=>hc (.inr ⟨h1,h⟩)
   omega
theorem locks_ok {L:List Wd} :∀(n:Nat) (s:Rd) (ls:List Lk),ls.length≤8→10≤n+ls.length→ls.all lkMay=true→(locksS L n s ls).2.2=0→s.2=0∧(locksS L n s ls).1.length≤8∧(locksS L n s ls).1.all lkMay=true
 |0,s,ls,h4,h6,_,_=>by omega
 |n+1,s,ls,h4,h6,ha,h=>by
  unfold locksS at h ⊢
  by_cases hc:isS L s 1 lockB=true∨isS L s 1 sharedB=true
  ·rw [if_pos hc] at h ⊢
   by_cases hl:8≤ls.length
   ·rw [if_pos hl] at h
    simp at h
   ·rw [if_neg hl] at h ⊢
    have key:(lockS L (s.1+1,s.2) (isS L s 1 sharedB)).2.2=0:=by
     cases hn:(lockS L (s.1+1,s.2) (isS L s 1 sharedB)).2.2 == 0 with
     |true=>simpa using hn
     |false=>
      exfalso
      have hne:(lockS L (s.1+1,s.2) (isS L s 1 sharedB)).2.2≠0:=by simpa using hn
      obtain⟨m,rfl⟩:∃m,n=m+1:=⟨n - 1,by omega⟩
      unfold locksS at h
      rw [if_neg (by
       rintro (h1|h1)<;>
       ·unfold isS at h1
        simp only [Bool.and_eq_true,decide_eq_true_eq] at h1
        exact hne h1.1)] at h
      exact hne h
    obtain⟨f1,f2⟩:=lock_ok key
    obtain⟨_,i3,i4⟩:=locks_ok n _ (ls++[(lockS L (s.1+1,s.2) (isS L s 1 sharedB)).1]) (by simp;omega) (by simp;omega) (by rw [List.all_append,ha];simp [f2]) h
    exact⟨f1,i3,i4⟩
  ·rw [if_neg hc] at h ⊢
   exact⟨h,h4,ha⟩
theorem progs_ok {L:List Wd} :∀(n:Nat) (s:Rd) (ps:List (Prg×Nat)),ps.length≤8→10≤n+ps.length→(progsS L n s ps).2.2=0→(s.2=0∨0 < ps.length)∧1≤(progsS L n s ps).1.length∧(progsS L n s ps).1.length≤8
 |0,s,ps,h4,h6,_=>by omega
 |n+1,s,ps,h4,h6,h=>by
  unfold progsS at h ⊢
  by_cases hc:isS L s 1 progB=true∨(ps.length=0∧s.2=0)
  ·rw [if_pos hc] at h ⊢
   have h0:s.2=0:=by
    rcases hc with hc|hc
    ·unfold isS at hc
     simp only [Bool.and_eq_true,decide_eq_true_eq] at hc
     exact hc.1
    ·exact hc.2
   by_cases hl:8≤ps.length
   ·rw [if_pos hl] at h
    simp at h
   ·rw [if_neg hl] at h ⊢
    obtain⟨_,i2,i3⟩:=progs_ok n _ (ps++[((parseR L s.1).1,s.1)]) (by simp;omega) (by simp;omega) h
    exact⟨.inl h0,i2,i3⟩
  ·rw [if_neg hc] at h ⊢
   simp only at h ⊢
   have:¬ps.length=0:=fun h1=>hc (.inr ⟨h1,h⟩)
   exact⟨.inl h,by omega,h4⟩
theorem unfit_ok {locks:List Lk} {n:Int} :∀ {ps:List (Prg×Nat)},unfitS locks n ps=none→∀x ∈ ps,(checkR x.1 locks n).2=0
 |[],_,x,hx=>by cases hx
 |y::ps,h,x,hx=>by
  unfold unfitS at h
  split at h
  ·next h0=>
   rcases List.mem_cons.1 hx with rfl|hx
   ·exact h0
   ·exact unfit_ok h x hx
  ·simp at h
theorem unfit_bad {locks:List Lk} {n:Int} {e:Rd} :∀ {ps:List (Prg×Nat)},unfitS locks n ps=some e→e.2≠0
 |[],h=>by simp [unfitS] at h
 |y::ps,h=>by
  unfold unfitS at h
  split at h
  ·exact unfit_bad h
  ·next h0=>
   simp only [Option.some.injEq] at h
   rw [←h]
   exact h0
theorem setup_may {L:List Wd} {a:Int} (h:(parseS L a).2.2=0):mayS (parseS L a).1=true:=by
 unfold parseS at h ⊢
 by_cases ho:a < 0∨(L.length:Int) < a
 ·rw [if_pos ho] at h
  simp at h
 ·rw [if_neg ho] at h ⊢
  simp only at h ⊢
  by_cases he:(restS L (headS L a.toNat).2.2).2.2.2.2≠0
  ·rw [if_pos he] at h
   exact absurd h he
  ·rw [if_neg he] at h ⊢
   have he0:(restS L (headS L a.toNat).2.2).2.2.2.2=0:=by simpa using he
   cases hu:unfitS (restS L (headS L a.toNat).2.2).2.1 (restS L (headS L a.toNat).2.2).2.2.1.length (restS L (headS L a.toNat).2.2).2.2.1 with
   |some e=>
    rw [hu] at h
    exact absurd h (unfit_bad hu)
   |none=>
    rw [hu] at h
    simp only at h ⊢
    have hfit:=unfit_ok hu
    obtain⟨s0,hs0⟩:∃s,headS L a.toNat=s:=⟨_,rfl⟩
    rw [hs0] at he0 hfit ⊢
    unfold restS at he0 hfit ⊢
    simp only at he0 hfit ⊢
    obtain⟨p1,p2,p3⟩:=progs_ok 10 _ [] (by simp) (by simp) he0
    have q0:(locksS L 10 (groupsS L 6 s0.2.2 []).2 []).2.2=0:=by
     rcases p1 with p1|p1
     ·exact p1
     ·simp at p1
    obtain⟨l1,l2,l3⟩:=locks_ok 10 _ [] (by simp) (by simp) rfl q0
    obtain⟨g1,g2,g3,g4⟩:=groups_ok 6 _ [] (by simp) (by simp) rfl l1
    have hh:s0.2.2.2=0∧inS s0.1 4=true∧inS s0.2.1 8=true:=by
     refine⟨g1,?_⟩
     rw [←hs0] at g1 ⊢
     unfold headS at g1 ⊢
     simp only at g1 ⊢
     obtain⟨y1,y2⟩:=field_ok (need_ok g1)
     obtain⟨x1,x2⟩:=field_ok (need_ok y1)
     exact⟨x2,y2⟩
    unfold mayS
    simp only [Bool.and_eq_true,decide_eq_true_eq,List.length_map]
    refine⟨⟨⟨⟨⟨⟨⟨hh.2.1,hh.2.2⟩,?_⟩,l2⟩,?_⟩,g4⟩,l3⟩,?_⟩
    ·simp only [inS,Bool.and_eq_true,decide_eq_true_eq]
     omega
    ·simp only [inS,Bool.and_eq_true,decide_eq_true_eq]
     omega
    ·rw [List.all_eq_true]
     intro p hp
     obtain⟨x,hx,rfl⟩:=List.mem_map.1 hp
     unfold fitS
     exact decide_eq_true (hfit x hx)
abbrev Ac:=Int×Int×Int×Int×Int
def acNames:List (List By):=[[],[116,105,99,107],[102,105,114,101],[98,97,108,97,110,99,101],[115,112,97,119,110],[107,105,108,108],[103,114,111,117,112],[109,111,118,101],[114,111,117,110,100]]
def acName (k:Int):List By:=if 0≤k∧k≤8 then acNames.getD k.toNat [] else []
def acMany (k:Int):Nat:=if k=1∨k=5∨k=8 then 1 else if k=4 then 4 else if k=6∨k=7 then 2 else 0
def acNums (a:Ac):List Int:=[a.2.1,a.2.2.1,a.2.2.2.1,a.2.2.2.2]
def in9 (n:Int):Bool:=decide (0≤n)&&decide (n≤999999999)
def acMay (a:Ac):Bool:=!decide (acName a.1=[])&&((acNums a).all in9&&((acNums a).drop (acMany a.1)).all (fun n=>decide (n=0)))
def numW (n:Int):Wd:=(2,[],n,0)
def acTail (a:Ac):List Wd:=((acNums a).take (acMany a.1)).map numW++[semiW]
def acW (a:Ac):List Wd:=(1,acName a.1,0,0)::acTail a
def acsMay (acs:List Ac):Bool:=acs.all acMay
def acUp (L:List Wd) (c:Nat):Nat→Nat
 |0=>0
 |n+1=>if isR L c 1 (acName ((n+1:Nat):Int)) then n+1 else acUp L c n
def acKind (L:List Wd) (c:Nat):Nat:=acUp L c 8
def numsP (L:List Wd):Nat→Nat→List Int→Except Bad (List Int×Nat)
 |0,c,out=> .ok (out,c)
 |n+1,c,out=>match L[c]? with
  |some x=>if x.1=2 then numsP L n (c+1) (out++[x.2.2.1]) else .error (c,5)
  |none=> .error (c,5)
def mkAc (k:Int) (ns:List Int):Ac:=(k,ns.getD 0 0,ns.getD 1 0,ns.getD 2 0,ns.getD 3 0)
def acP (L:List Wd) (c:Nat) (k:Int):Except Bad (Ac×Nat):=match numsP L (acMany k) c [] with
 | .error e=> .error e
 | .ok (ns,c1)=>if isR L c1 3 [59] then .ok (mkAc k ns,c1+1) else .error (c1,5)
def acsP (L:List Wd):Nat→Nat→List Ac→Except Bad (List Ac×Nat)
 |0,c,out=> .ok (out,c)
 |n+1,c,out=>
  if L.length≤c then .ok (out,c)
  else if acKind L c=0 then .error (c,5)
  else if out.length=4000 then .error (c,6)
  else match acP L (c+1) (acKind L c) with
   | .error e=> .error e
   | .ok (a,c2)=>acsP L n c2 (out++[a])
def parseAc (L:List Wd) (at_:Int):List Ac×Int×Int:=
 if at_ < 0∨(L.length:Int) < at_ then ([],0,5)
 else match acsP L (L.length+1) at_.toNat [] with
  | .error e=>([],e.1,e.2)
  | .ok (acs,c)=>(acs,c,0)
def wordsAc (acs:List Ac):List Wd×Int:=if acsMay acs then (if 4000 < acs.length then ([],6) else (acs.flatMap acW,0)) else ([],1)
theorem ac_kinds {k:Int} (h:acName k≠[]):k=1∨k=2∨k=3∨k=4∨k=5∨k=6∨k=7∨k=8:=by
 by_cases h1:1≤k∧k≤8
 ·omega
 ·exfalso
  apply h
  unfold acName
  split
  ·have:k=0:=by omega
   subst this
   rfl
  ·rfl
def acT (t:List By):Nat→Nat
 |0=>0
 |n+1=>if t=acName ((n+1:Nat):Int) then n+1 else acT t n
theorem acup_at {L:List Wd} {c:Nat} {y:Wd} {r:List Wd} (h:L.drop c=y::r) (hy:y.1=1):∀n,acUp L c n=acT y.2.1 n
 |0=>rfl
 |n+1=>by rw [acUp,acT,is_at h,hy,acup_at h hy n];simp
theorem act_name {k:Int} (h:acName k≠[]):((acT (acName k) 8:Nat):Int)=k∧acT (acName k) 8≠0:=by
 rcases ac_kinds h with h|h|h|h|h|h|h|h<;>subst h<;>decide
theorem acup_le (L:List Wd) (c:Nat):∀n,acUp L c n≤n
 |0=>Nat.le_refl _
 |n+1=>by
  unfold acUp
  split
  ·exact Nat.le_refl _
  ·exact Nat.le_succ_of_le (acup_le L c n)
theorem nums_back:∀(ns:List Int) (c:Nat) (out:List Int) (L ws r:List Wd),L.drop c=ws++r→sameL ws (ns.map numW)→numsP L ns.length c out= .ok (out++ns,c+ws.length)∧L.drop (c+ws.length)=r
 |[],c,out,L,ws,r,hd,hs=>by
  have hw:=same_nil hs
  subst hw
  exact⟨by simp [numsP],at_more hd⟩
 |n::ns,c,out,L,ws,r,hd,hs=>by
  obtain⟨y,u,rfl,hy,hu⟩:=same_cons (show sameL ws (numW n::ns.map numW) from hs)
  have hd1:L.drop c=y::(u++r):=hd
  have e:L[c]?=some y:=by rw [←List.head?_drop,hd1];rfl
  obtain⟨i1,i2⟩:=nums_back ns (c+1) (out++[n]) L u r (at_next hd1) hu
  have hlen:c+(y::u).length=c+1+u.length:=by simp;omega
  rw [hlen]
  refine⟨?_,i2⟩
  rw [List.length_cons,numsP,e]
  simp only
  rw [if_pos (show y.1=2 from hy.1),show y.2.2.1=n from hy.2.2,i1,List.append_assoc,List.singleton_append]
theorem mk_back {a:Ac} (h:acMay a=true):mkAc a.1 ((acNums a).take (acMany a.1))=a:=by
 obtain⟨k,x0,x1,x2,x3⟩:=a
 simp only [acMay,Bool.and_eq_true,Bool.not_eq_true',decide_eq_false_iff_not] at h
 obtain⟨hn,_,hz⟩:=h
 simp only at hn hz ⊢
 rcases ac_kinds hn with h|h|h|h|h|h|h|h<;>subst h<;>simp [acMany,acNums,mkAc] at hz ⊢ <;>simp [hz]
theorem many_le (a:Ac):acMany a.1≤(acNums a).length:=by
 unfold acMany acNums
 simp only [List.length_cons,List.length_nil]
 split
 ·omega
 ·split
  ·omega
  ·split<;>omega
theorem ac_back {a:Ac} (h:acMay a=true) {L:List Wd} {c:Nat} {ws r:List Wd} (hd:L.drop c=ws++r) (hs:sameL ws (acTail a)):acP L c a.1= .ok (a,c+ws.length)∧L.drop (c+ws.length)=r:=by
 unfold acTail at hs
 obtain⟨u,v,rfl,hu,hv⟩:=same_app hs
 have hd1:L.drop c=u++(v++r):=by rw [hd];simp
 obtain⟨n1,n2⟩:=nums_back _ c [] L u (v++r) hd1 hu
 have hl:((acNums a).take (acMany a.1)).length=acMany a.1:=by rw [List.length_take,Nat.min_eq_left (many_le a)]
 rw [hl] at n1
 obtain⟨y,v2,rfl,hy,hv2⟩:=same_cons hv
 have hw:=same_nil hv2
 subst hw
 have hi:isR L (c+u.length) 3 [59]=true:=by
  rw [is_at (r:=r) n2,hy.1,hy.2.1]
  simp
 have hlen:c+(u++[y]).length=c+u.length+1:=by simp;omega
 rw [hlen]
 refine⟨?_,at_next n2⟩
 unfold acP
 rw [n1]
 simp only [List.nil_append]
 rw [if_pos hi,mk_back h]
theorem acs_back:∀(acs:List Ac) (n c:Nat) (out:List Ac) (L ws:List Wd),acs.all acMay=true→L.drop c=ws→sameL ws (acs.flatMap acW)→c≤L.length→out.length+acs.length≤4000→acs.length < n→acsP L n c out= .ok (out++acs,L.length)
 |[],n,c,out,L,ws,_,hd,hs,hc,_,hn=>by
  have hw:=same_nil hs
  subst hw
  obtain⟨m,rfl⟩:∃m,n=m+1:=⟨n - 1,by simp at hn;omega⟩
  have hl:L.length≤c:=by simpa [List.drop_eq_nil_iff] using hd
  unfold acsP
  rw [if_pos hl,List.append_nil,show c=L.length by omega]
 |a::acs,n,c,out,L,ws,ha,hd,hs,hc,h4,hn=>by
  simp only [List.all_cons,Bool.and_eq_true] at ha
  simp only [List.length_cons] at h4 hn
  obtain⟨m,rfl⟩:∃m,n=m+1:=⟨n - 1,by omega⟩
  rw [List.flatMap_cons] at hs
  obtain⟨u,v,rfl,hu,hv⟩:=same_app hs
  obtain⟨y,u2,rfl,hy,hu2⟩:=same_cons (show sameL u ((1,acName a.1,0,0)::acTail a) from hu)
  have hd1:L.drop c=y::(u2++v):=by rw [hd];simp
  have hname:acName a.1≠[]:=by
   have h:=ha.1
   simp only [acMay,Bool.and_eq_true,Bool.not_eq_true',decide_eq_false_iff_not] at h
   exact h.1
  have hk:acKind L c=acT (acName a.1) 8:=by
   unfold acKind
   rw [acup_at hd1 hy.1 8,show y.2.1=acName a.1 from hy.2.1]
  obtain⟨k1,k2⟩:=act_name hname
  rw [←hk] at k1 k2
  obtain⟨b1,b2⟩:=ac_back ha.1 (at_next hd1) hu2
  have hlt:c < L.length:=by
   have:=congrArg List.length hd1
   simp at this
   omega
  have hc2:c+1+u2.length≤L.length:=by
   have:=congrArg List.length hd1
   simp at this
   omega
  have ih:=acs_back acs m (c+1+u2.length) (out++[a]) L v ha.2 b2 hv hc2 (by rw [List.length_append,List.length_singleton];omega) (by omega)
  unfold acsP
  rw [if_neg (by omega),if_neg k2,if_neg (by omega),k1,b1]
  simp only
  rw [ih,List.append_assoc,List.singleton_append]
theorem acw_pos (a:Ac):1≤(acW a).length:=by unfold acW;simp
theorem acws_len:∀acs:List Ac,acs.length≤(acs.flatMap acW).length
 |[]=>Nat.le_refl _
 |a::acs=>by
  have:=acws_len acs
  have:=acw_pos a
  rw [List.flatMap_cons,List.length_append,List.length_cons]
  omega
theorem drop_len {L ws:List Wd} {c:Nat} (h:L.drop c=ws):ws.length=L.length - c:=by rw [←h,List.length_drop]
theorem acts_back {acs:List Ac} (ha:acsMay acs=true) (h4:acs.length≤4000) {L ws:List Wd} {c:Nat} (hc:c≤L.length) (hd:L.drop c=ws) (hs:sameL ws (acs.flatMap acW)):parseAc L c=(acs,(L.length:Int),0):=by
 have h1:=acws_len acs
 have h2:=drop_len hd
 have h3:=sameL_len hs
 unfold parseAc
 rw [if_neg (by omega),Int.toNat_natCast,acs_back acs (L.length+1) c [] L ws ha hd hs hc (by simpa using h4) (by omega)]
 simp
def nameB (l:List By):Bool:=decide (1≤l.length)&&decide (l.length≤12)&&decide ((l.takeWhile isLet).length=l.length)
def numB (l:List By):Bool:=decide (l.length=1)||(decide (1 < l.length)&&decide (l.length≤9)&&!decide ((l.headD 0).toNat=48))
def markB (l:List By):Bool:=l == [123]||(l == [125]||(l == [59]||(l == [46]||l == [61])))
def cutP (l:List By):Wd×Nat:=
 if nameB (l.take (l.takeWhile isLet).length) then ((1,l.take (l.takeWhile isLet).length,0,0),(l.takeWhile isLet).length)
 else if numB (l.take (l.takeWhile isDig).length) then ((2,[],numR (l.take (l.takeWhile isDig).length),0),(l.takeWhile isDig).length)
 else if markB (l.take 1) then ((3,l.take 1,0,0),1)
 else ((0,[],0,0),0)
theorem take_takeWhile {q:By→Bool} (l:List By):l.take (l.takeWhile q).length=l.takeWhile q:=by
 have e:l.takeWhile q++l.dropWhile q=l:=List.takeWhile_append_dropWhile
 have h:=List.take_left (l₁:=l.takeWhile q) (l₂:=l.dropWhile q)
 rw [e] at h
 exact h
theorem takeWhile_twice {q:By→Bool} (l:List By):(l.takeWhile q).takeWhile q=l.takeWhile q:=by
 induction l with
 |nil=>rfl
 |cons c t ih=>
  simp only [List.takeWhile_cons]
  split
  ·next h=>rw [List.takeWhile_cons,if_pos h,ih]
  ·rfl
theorem mark_one (c:By):markB [c]=isMk c:=by
 unfold markB isMk
 have e:∀k:By,([c] == [k])=decide (c.toNat=k.toNat):=fun k=>by
  rw [Bool.eq_iff_iff]
  simp [UInt8.toNat_inj]
 rw [e,e,e,e,e]
 rfl
theorem let_mark {c:By} (h:isLet c=true):isMk c=false:=by
 simp [isLet] at h
 simp [isMk]
 omega
theorem dig_mark {c:By} (h:isDig c=true):isMk c=false:=by
 simp [isDig] at h
 simp [isMk]
 omega
theorem let_dig {c:By} (h:isLet c=true):isDig c=false:=by
 simp [isLet] at h
 simp [isDig]
 omega
theorem name_nil:nameB []=false:=rfl
theorem num_nil:numB []=false:=rfl
theorem num_form (n:Nat) (b:Bool):(decide (n+1=1)||(decide (1 < n+1)&&decide (n+1≤9)&&!b))=(decide (n < 9)&&(!b||decide (n=0))):=by
 cases b<;>(rw [Bool.eq_iff_iff];simp;try omega)
theorem cut_one (c:By) (t:List By):cutP (c::t)=if (oneR c t 0).2.2 then ((oneR c t 0).1,1+(oneR c t 0).2.1) else ((0,[],0,0),0):=by
 unfold cutP
 rw [take_takeWhile,take_takeWhile,show List.take 1 (c::t)=[c] from rfl,mark_one]
 by_cases hl:isLet c=true
 ·have e:oneR c t 0=((1,c::t.takeWhile isLet,0,((0:Nat):Int)),(t.takeWhile isLet).length,decide ((t.takeWhile isLet).length < 12)):=by unfold oneR;rw [if_pos hl]
  have t1:(c::t).takeWhile isLet=c::t.takeWhile isLet:=by rw [List.takeWhile_cons,if_pos hl]
  have t2:(c::t).takeWhile isDig=[]:=by rw [List.takeWhile_cons,if_neg (by simp [let_dig hl])]
  rw [e,t1,t2,let_mark hl,num_nil]
  have hn:nameB (c::t.takeWhile isLet)=decide ((t.takeWhile isLet).length < 12):=by
   unfold nameB
   rw [List.takeWhile_cons,if_pos hl,takeWhile_twice]
   simp only [List.length_cons,decide_true,Bool.and_true]
   rw [Bool.eq_iff_iff]
   simp
   omega
  rw [hn]
  simp only [List.length_cons]
  by_cases h:(t.takeWhile isLet).length < 12
  ·simp [h,Nat.add_comm]
  ·simp [h]
 ·by_cases hd:isDig c=true
  ·have e:oneR c t 0=((2,[],((numR ((c::t.takeWhile isDig).take 9):Nat):Int),((0:Nat):Int)),(t.takeWhile isDig).length,decide ((t.takeWhile isDig).length < 9)&&(!decide (c.toNat=48)||decide ((t.takeWhile isDig).length=0))):=by unfold oneR;rw [if_neg hl,if_pos hd]
   have t1:(c::t).takeWhile isLet=[]:=by rw [List.takeWhile_cons,if_neg hl]
   have t2:(c::t).takeWhile isDig=c::t.takeWhile isDig:=by rw [List.takeWhile_cons,if_pos hd]
   rw [e,t1,t2,dig_mark hd,name_nil]
   have hn:numB (c::t.takeWhile isDig)=(decide ((t.takeWhile isDig).length < 9)&&(!decide (c.toNat=48)||decide ((t.takeWhile isDig).length=0))):=by
    unfold numB
    exact num_form _ _
   rw [hn]
   by_cases h:(decide ((t.takeWhile isDig).length < 9)&&(!decide (c.toNat=48)||decide ((t.takeWhile isDig).length=0)))=true
   ·have h9:(t.takeWhile isDig).length < 9:=by simp at h;exact h.1
    rw [h,List.take_of_length_le (by simp;omega)]
    simp [Nat.add_comm]
   ·rw [Bool.not_eq_true] at h
    rw [h]
    simp
  ·have e:oneR c t 0=((3,[c],0,((0:Nat):Int)),0,isMk c):=by unfold oneR;rw [if_neg hl,if_neg hd]
   have t1:(c::t).takeWhile isLet=[]:=by rw [List.takeWhile_cons,if_neg hl]
   have t2:(c::t).takeWhile isDig=[]:=by rw [List.takeWhile_cons,if_neg hd]
   rw [e,t1,t2,name_nil,num_nil]
   cases isMk c<;>simp
theorem dec_digits:∀(l:List By) (a:Nat),(∀c ∈ l,isDig c=true)→Lib.decFrom a l=some (l.foldl (fun n c=>n*10+(c.toNat - 48)) a)
 |[],a,_=>rfl
 |c::t,a,h=>by
  have hc:=h c (by simp)
  simp [isDig] at hc
  have hv:Lib.digitVal c=some (c.toNat - 48):=by unfold Lib.digitVal;rw [if_pos hc]
  simp only [Lib.decFrom,hv,List.foldl_cons]
  exact dec_digits t _ (fun x hx=>h x (by simp [hx]))
theorem atoi_digits {l:List By} (h:∀c ∈ l,isDig c=true) (hne:l≠[]):Lib.atoi l=some (numR l:Int):=by
 cases l with
 |nil=>exact absurd rfl hne
 |cons c t=>
  have hc:=h c (by simp)
  simp [isDig] at hc
  have h45:(c == 45)=false:=by rw [beq_eq_false_iff_ne];intro e;subst e;simp at hc
  have h43:(c == 43)=false:=by rw [beq_eq_false_iff_ne];intro e;subst e;simp at hc
  simp only [Lib.atoi,h45,h43,Lib.decNat,List.isEmpty_cons,dec_digits _ _ h]
  rfl
theorem num_bound:∀(l:List By),(∀c ∈ l,isDig c=true)→numR l < 10 ^ l.length:=by
 intro l h
 have:=Lib.decFrom_lt l 0 _ (dec_digits l 0 h)
 simpa [numR] using this
theorem scan_all {Q:Wd→Prop} (hQ:∀(c:By) (t:List By) (p:Nat),Q (oneR c t p).1):∀(n:Nat) (l:List By) (p:Nat) (adj:Bool) (ws:List Wd),l.length≤n→scanR l p adj= .ok ws→∀x ∈ ws,Q x
 |_,[],p,adj,ws,_,h,x,hx=>by
  rw [scan_nil] at h
  cases h
  cases hx
 |0,_::_,_,_,_,hl,_,_,_=>by simp at hl
 |n+1,c::t,p,adj,ws,hl,h,x,hx=>by
  simp only [List.length_cons] at hl
  cases h0:isBl c with
  |true=>
   rw [scan_blank h0] at h
   exact scan_all hQ n t _ _ ws (by omega) h x hx
  |false=>
   by_cases h1:c.toNat=35
   ·rw [scan_remark h0 h1] at h
    refine scan_all hQ n _ _ _ ws ?_ h x hx
    have:=(List.dropWhile_sublist not10 (l:=t)).length_le
    omega
   ·cases hb:(!(oneR c t p).2.2||(adj&&!decide ((oneR c t p).1.1=3))) with
    |true=>
     rw [scan_bad h0 h1 t p adj hb] at h
     cases h
    |false=>
     rw [scan_word h0 h1 t p adj hb] at h
     cases hr:scanR (t.drop (oneR c t p).2.1) (p+1+(oneR c t p).2.1) (!decide ((oneR c t p).1.1=3)) with
     |error q=>
      rw [hr] at h
      cases h
     |ok l2=>
      rw [hr] at h
      simp only [prepR,Except.ok.injEq] at h
      subst h
      rcases List.mem_append.1 hx with hx|hx
      ·simp at hx
       subst hx
       exact hQ c t p
      ·exact scan_all hQ n _ _ _ l2 (by rw [List.length_drop];omega) hr x hx
theorem one_in9 (c:By) (t:List By) (p:Nat):(oneR c t p).1.1=2→in9 (oneR c t p).1.2.2.1=true:=by
 unfold oneR
 split
 ·intro h
  simp at h
 ·split
  ·next hc hd=>
   intro _
   have hall:∀x ∈ (c::t.takeWhile isDig).take 9,isDig x=true:=by
    intro x hx
    have h1:=List.mem_of_mem_take hx
    rcases List.mem_cons.1 h1 with rfl|h2
    ·exact hd
    ·exact List.all_eq_true.1 List.all_takeWhile x h2
   have hb:=num_bound _ hall
   have hl:((c::t.takeWhile isDig).take 9).length≤9:=by
    rw [List.length_take]
    omega
   have hp:10 ^ ((c::t.takeWhile isDig).take 9).length≤10 ^ 9:=Nat.pow_le_pow_right (by omega) hl
   simp only [in9,Bool.and_eq_true,decide_eq_true_eq]
   omega
  ·intro h
   simp at h
theorem scana_in9 (l:List By):∀x ∈ (scanA l).1,x.1=2→in9 x.2.2.1=true:=by
 unfold scanA
 split
 ·intro x hx
  cases hx
 cases h:scanR l 0 false with
 |ok ws=>exact scan_all (Q:=fun x=>x.1=2→in9 x.2.2.1=true) one_in9 l.length l 0 false ws (Nat.le_refl _) h
 |error p=>
  intro x hx
  cases hx
theorem nums_may {L:List Wd} (hL:∀x ∈ L,x.1=2→in9 x.2.2.1=true):∀(n c:Nat) (out ns:List Int) (c1:Nat),out.all in9=true→numsP L n c out= .ok (ns,c1)→ns.all in9=true∧ns.length=out.length+n
 |0,c,out,ns,c1,ho,h=>by
  simp only [numsP,Except.ok.injEq,Prod.mk.injEq] at h
  obtain⟨rfl,_⟩:=h
  exact⟨ho,rfl⟩
 |n+1,c,out,ns,c1,ho,h=>by
  unfold numsP at h
  cases hx:L[c]? with
  |none=>
   rw [hx] at h
   cases h
  |some x=>
   rw [hx] at h
   simp only at h
   split at h
   ·next h2=>
    have hm:=hL x (List.mem_of_getElem? hx) h2
    obtain⟨i1,i2⟩:=nums_may hL n (c+1) (out++[x.2.2.1]) ns c1 (by rw [List.all_append,ho];simp [hm]) h
    refine⟨i1,?_⟩
    rw [i2,List.length_append,List.length_singleton]
    omega
   ·cases h
theorem mk_may {k:Int} (hk:acName k≠[]) {ns:List Int} (hl:ns.length=acMany k) (hn:ns.all in9=true):acMay (mkAc k ns)=true:=by
 have hz:in9 0=true:=by decide
 unfold acMay mkAc acNums
 simp only [Bool.and_eq_true,Bool.not_eq_true',decide_eq_false_iff_not]
 refine⟨hk,?_⟩
 rcases ns with _|⟨x,_|⟨y,_|⟨z,_|⟨u,_|⟨v,r⟩⟩⟩⟩⟩<;>rcases ac_kinds hk with h|h|h|h|h|h|h|h<;>subst h<;>
  first
   |(exfalso
     simp [acMany] at hl
     done)
   |(simp only [List.all_cons,List.all_nil,Bool.and_true,Bool.and_eq_true] at hn
     simp [acMany,hn,hz]
     done)
   |decide
theorem kind_name_ne {k:Nat} (h0:k≠0) (h:k≤8):acName (k:Int)≠[]:=by
 have:∀j:Fin 9,j.1≠0→acName (j.1:Int)≠[]:=by decide
 exact this ⟨k,by omega⟩ h0
theorem acs_may {L:List Wd} (hL:∀x ∈ L,x.1=2→in9 x.2.2.1=true):∀(n c:Nat) (out acs:List Ac) (c1:Nat),out.all acMay=true→out.length≤4000→acsP L n c out= .ok (acs,c1)→acs.all acMay=true∧acs.length≤4000
 |0,c,out,acs,c1,ho,h4,h=>by
  simp only [acsP,Except.ok.injEq,Prod.mk.injEq] at h
  obtain⟨rfl,_⟩:=h
  exact⟨ho,h4⟩
 |n+1,c,out,acs,c1,ho,h4,h=>by
  unfold acsP at h
  split at h
  ·simp only [Except.ok.injEq,Prod.mk.injEq] at h
   obtain⟨rfl,_⟩:=h
   exact⟨ho,h4⟩
  ·split at h
   ·cases h
   ·next hk=>
    split at h
    ·cases h
    ·next h40=>
     cases ha:acP L (c+1) (acKind L c) with
     |error e=>
      rw [ha] at h
      cases h
     |ok x=>
      obtain⟨a,c2⟩:=x
      rw [ha] at h
      simp only at h
      have hm:acMay a=true:=by
       unfold acP at ha
       cases hn:numsP L (acMany (acKind L c)) (c+1) [] with
       |error e=>
        rw [hn] at ha
        cases ha
       |ok y=>
        obtain⟨ns,c3⟩:=y
        rw [hn] at ha
        simp only at ha
        obtain⟨n1,n2⟩:=nums_may hL _ _ [] ns c3 rfl hn
        split at ha
        ·simp only [Except.ok.injEq,Prod.mk.injEq] at ha
         rw [←ha.1]
         exact mk_may (kind_name_ne hk (acup_le L c 8)) (by simpa using n2) n1
        ·cases ha
      exact acs_may hL n c2 (out++[a]) acs c1 (by rw [List.all_append,ho];simp [hm]) (by rw [List.length_append,List.length_singleton];omega) h
theorem acts_may {L:List Wd} (hL:∀x ∈ L,x.1=2→in9 x.2.2.1=true) {a:Int} (h:(parseAc L a).2.2=0):acsMay (parseAc L a).1=true∧(parseAc L a).1.length≤4000:=by
 unfold parseAc at h ⊢
 split at h
 ·simp at h
 ·next h0=>
  rw [if_neg h0]
  cases hp:acsP L (L.length+1) a.toNat [] with
  |error e=>exact⟨rfl,by simp⟩
  |ok x=>
   obtain⟨acs,c⟩:=x
   exact acs_may hL _ _ [] acs c rfl (by simp) hp
abbrev Scr:=Stp×List Ac
def wordsSc (x:Scr):List Wd:=wordsS x.1++x.2.flatMap acW
def scMay (x:Scr):Bool:=mayS x.1&&(decide (x.2.length≤4000)&&acsMay x.2)
def printSc (x:Scr):List By×Int:=if scMay x then joinA (wordsSc x) else ([],1)
def placeSc (s:List By) (L:List Wd) (c:Int):Int:=match L[c.toNat]? with
 |some x=>x.2.2.2
 |none=>s.length
def parseSc (s:List By):Scr×Int×Int:=
 let l:=scanA s
 if l.2.2≠0 then ((noneS,[]),l.2.1,l.2.2)
 else
  let x:=parseS l.1 0
  if x.2.2≠0 then ((noneS,[]),placeSc s l.1 x.2.1,x.2.2)
  else
   let a:=parseAc l.1 x.2.1
   if a.2.2≠0 then ((noneS,[]),placeSc s l.1 a.2.1,a.2.2)
   else ((x.1,a.1),0,0)
theorem acname_prog {k:Int} :acName k≠progB:=by
 intro h
 have hne:acName k≠[]:=by rw [h];simp
 rcases ac_kinds hne with h1|h1|h1|h1|h1|h1|h1|h1<;>subst h1<;>revert h<;>decide
theorem script_back {x:Scr} (hx:scMay x=true) {t:List By} (h:joinA (wordsSc x)=(t,0)):parseSc t=(x,0,0):=by
 obtain⟨s,acs⟩:=x
 simp only [scMay,Bool.and_eq_true,decide_eq_true_eq] at hx
 obtain⟨hs,h4,ha⟩:=hx
 have hj:joinF (wordsSc (s,acs)) []=some t∧t.length≤8000:=by
  unfold joinA at h
  cases hf:joinF (wordsSc (s,acs)) [] with
  |none=>
   rw [hf] at h
   simp at h
  |some r=>
   rw [hf] at h
   simp only at h
   split at h
   ·simp at h
   ·next hl=>
    simp only [Prod.mk.injEq,and_true] at h
    subst h
    exact⟨rfl,by omega⟩
 obtain⟨ws,hsc,hsame⟩:=scan_join hj.1
 have hscan:scanA t=(ws,0,0):=by
  unfold scanA
  rw [if_neg (by have:=hj.2;omega),hsc]
 unfold wordsSc at hsame
 obtain⟨u,v,rfl,hu,hv⟩:=same_app hsame
 have hr:isR (u++v) (0+u.length) 1 progB=false:=by
  rw [Nat.zero_add]
  cases acs with
  |nil=>
   have hw:=same_nil hv
   subst hw
   unfold isR
   rw [List.getElem?_eq_none (by simp)]
  |cons a acs=>
   obtain⟨y,v2,rfl,hy,_⟩:=same_cons (show sameL v ((1,acName a.1,0,0)::(acTail a++acs.flatMap acW)) from hv)
   rw [is_at (x:=y) (r:=v2) (by rw [List.drop_left]),hy.1,hy.2.1]
   simp [acname_prog]
 have hset:=setup_back hs (L:=u++v) (ws:=u) (r:=v) (a:=0) rfl hu (Nat.zero_le _) hr
 rw [Nat.zero_add] at hset
 have hact:=acts_back ha h4 (L:=u++v) (ws:=v) (c:=u.length) (by simp) (by rw [List.drop_left]) hv
 unfold parseSc
 simp only [hscan]
 rw [if_neg (by simp)]
 simp only [show parseS (u++v) 0=(s,(u.length:Int),0) from hset]
 rw [if_neg (by simp)]
 simp only [hact]
 rw [if_neg (by simp)]
theorem script_may {t:List By} (h:(parseSc t).2.2=0):scMay (parseSc t).1=true:=by
 unfold parseSc at h ⊢
 simp only at h ⊢
 split at h
 ·next h0=>exact absurd h h0
 ·next h0=>
  rw [if_neg h0]
  split at h
  ·next h1=>exact absurd h h1
  ·next h1=>
   rw [if_neg h1]
   split at h
   ·next h2=>exact absurd h h2
   ·next h2=>
    rw [if_neg h2]
    have e1:(parseS (scanA t).1 0).2.2=0:=by simpa using h1
    have e2:(parseAc (scanA t).1 (parseS (scanA t).1 0).2.1).2.2=0:=by simpa using h2
    have m1:=setup_may e1
    obtain⟨m2,m3⟩:=acts_may (scana_in9 t) e2
    simp only [scMay,Bool.and_eq_true,decide_eq_true_eq]
    exact⟨m1,m3,m2⟩
def scanF:Nat→List By→Nat→Bool→Option (List Wd)
 |0,_,_,_=>none
 |_+1,[],_,_=>some []
 |n+1,c::t,p,adj=>
  if isBl c then scanF n t (p+1) false
  else if c.toNat=35 then none
  else if (!(oneR c t p).2.2||(adj&&!decide ((oneR c t p).1.1=3))) then none
  else match scanF n (t.drop (oneR c t p).2.1) (p+1+(oneR c t p).2.1) (!decide ((oneR c t p).1.1=3)) with
   |some l=>some ((oneR c t p).1::l)
   |none=>none
theorem scanf_ok:∀(n:Nat) (l:List By) (p:Nat) (adj:Bool) (r:List Wd),scanF n l p adj=some r→scanR l p adj= .ok r
 |0,_,_,_,_,h=>by cases h
 |_+1,[],_,_,_,h=>by
  injection h with h
  subst h
  exact scan_nil _ _
 |n+1,c::t,p,adj,r,h=>by
  unfold scanF at h
  split at h
  ·next h0=>rw [scan_blank h0];exact scanf_ok n _ _ _ _ h
  ·next h0=>
   split at h
   ·cases h
   ·next h1=>
    split at h
    ·cases h
    ·next h2=>
     rw [scan_word (by simpa using h0) h1 _ _ _ (by simpa using h2)]
     cases hm:scanF n (t.drop (oneR c t p).2.1) (p+1+(oneR c t p).2.1) (!decide ((oneR c t p).1.1=3)) with
     |none=>rw [hm] at h;cases h
     |some l=>
      rw [hm] at h
      injection h with h
      subst h
      rw [scanf_ok n _ _ _ _ hm]
      rfl
def cw0:List Wd:=[(1,[99,111,114,101,115],0,0),(2,[],1,6),(3,[59],0,7),(1,[103,114,97,105,110],0,9),(2,[],1,15),(3,[59],0,16),(1,[103,114,111,117,112],0,18),(2,[],1,24),(3,[59],0,25),(1,[112,114,111,103],0,27),(3,[123],0,32),(1,[101,120,105,116],0,34),(3,[59],0,38),(3,[125],0,40),(1,[115,112,97,119,110],0,42),(2,[],0,48),(2,[],0,50),(2,[],1,52),(2,[],0,54),(3,[59],0,55),(1,[116,105,99,107],0,57),(2,[],0,62),(3,[59],0,63)]
def cw1:List Wd:=cw0++[(1,[120],0,65)]
def cs0:Stp:=(1,1,[1],[],[(false,[(11,0,0)])])
def ca0:List Ac:=[(4,0,0,1,0),(1,0,0,0,0)]
abbrev ct0:List By:=[99,111,114,101,115,32,49,59,32,103,114,97,105,110,32,49,59,32,103,114,111,117,112,32,49,59,32,112,114,111,103,32,123,32,101,120,105,116,59,32,125,32,115,112,97,119,110,32,48,32,48,32,49,32,48,59,32,116,105,99,107,32,48,59]
abbrev ct1:List By:=[99,111,114,101,115,32,49,59,32,103,114,97,105,110,32,49,59,32,103,114,111,117,112,32,49,59,32,112,114,111,103,32,123,32,101,120,105,116,59,32,125,32,115,112,97,119,110,32,48,32,48,32,49,32,48,59,32,116,105,99,107,32,48,59,32,120]
instance:DecidableEq Lk:=inferInstanceAs (DecidableEq (Bool×Int×Int×Int×Int))
instance:DecidableEq Prg:=inferInstanceAs (DecidableEq (Bool×List (Int×Int×Int)))
instance:DecidableEq (List Lk×List Prg):=instDecidableEqProd
instance:DecidableEq (List Int×List Lk×List Prg):=instDecidableEqProd
instance:DecidableEq (Int×List Int×List Lk×List Prg):=instDecidableEqProd
instance:DecidableEq Stp:=instDecidableEqProd
theorem cw_scan0:scanA ct0=(cw0,0,0):=by
 unfold scanA
 rw [if_neg (by decide),scanf_ok 100 ct0 0 false cw0 (by decide+kernel)]
theorem cw_scan1:scanA ct1=(cw1,0,0):=by
 unfold scanA
 rw [if_neg (by decide),scanf_ok 100 ct1 0 false cw1 (by decide+kernel)]
theorem cs_parse0:parseS cw0 0=(cs0,14,0):=by decide+kernel
theorem cs_parse1:parseS cw1 0=(cs0,14,0):=by decide+kernel
theorem ca_parse0:parseAc cw0 14=(ca0,23,0):=by decide+kernel
theorem ca_parse1:parseAc cw1 14=([],23,5):=by decide+kernel
theorem csc_parse0:parseSc ct0=((cs0,ca0),0,0):=by
 unfold parseSc
 simp only [cw_scan0,cs_parse0,ca_parse0]
 rfl
theorem csc_parse1:parseSc ct1=((noneS,[]),65,5):=by
 unfold parseSc
 simp only [cw_scan1,cs_parse1,ca_parse1]
 rw [show placeSc ct1 cw1 23=65 by decide+kernel]
 rfl
theorem csc_may:scMay (cs0,ca0)=true:=by decide+kernel
theorem csc_words:wordsSc (cs0,ca0)=[(1,[99,111,114,101,115],0,0),(2,[],1,0),(3,[59],0,0),(1,[103,114,97,105,110],0,0),(2,[],1,0),(3,[59],0,0),(1,[103,114,111,117,112],0,0),(2,[],1,0),(3,[59],0,0),(1,[112,114,111,103],0,0),(3,[123],0,0),(1,[101,120,105,116],0,0),(3,[59],0,0),(3,[125],0,0),(1,[115,112,97,119,110],0,0),(2,[],0,0),(2,[],0,0),(2,[],1,0),(2,[],0,0),(3,[59],0,0),(1,[116,105,99,107],0,0),(2,[],0,0),(3,[59],0,0)]:=by decide+kernel
theorem csc_join:joinA (wordsSc (cs0,ca0))=(ct0,0):=by
 have t1:textR (1,[99,111,114,101,115],0,0)=some [99,111,114,101,115]:=by decide+kernel
 have t2:textR (2,[],1,0)=some [49]:=by
  unfold textR
  rw [if_pos rfl,if_pos (by decide),show (1:Int).toNat=1 from rfl,digits_small (by decide)]
  rfl
 have t3:textR (3,[59],0,0)=some [59]:=by decide+kernel
 have t4:textR (1,[103,114,97,105,110],0,0)=some [103,114,97,105,110]:=by decide+kernel
 have t5:textR (1,[103,114,111,117,112],0,0)=some [103,114,111,117,112]:=by decide+kernel
 have t6:textR (1,[112,114,111,103],0,0)=some [112,114,111,103]:=by decide+kernel
 have t7:textR (3,[123],0,0)=some [123]:=by decide+kernel
 have t8:textR (1,[101,120,105,116],0,0)=some [101,120,105,116]:=by decide+kernel
 have t9:textR (3,[125],0,0)=some [125]:=by decide+kernel
 have t10:textR (1,[115,112,97,119,110],0,0)=some [115,112,97,119,110]:=by decide+kernel
 have t11:textR (2,[],0,0)=some [48]:=by
  unfold textR
  rw [if_pos rfl,if_pos (by decide),show (0:Int).toNat=0 from rfl,digits_small (by decide)]
  rfl
 have t12:textR (1,[116,105,99,107],0,0)=some [116,105,99,107]:=by decide+kernel
 have h:joinF (wordsSc (cs0,ca0)) []=some ct0:=by
  rw [csc_words]
  simp only [joinF,t1,t2,t3,t4,t5,t6,t7,t8,t9,t10,t11,t12]
  decide+kernel
 unfold joinA
 rw [h]
 decide
theorem csc_print:printSc (cs0,ca0)=(ct0,0):=by
 unfold printSc
 rw [csc_may,csc_join]
 rfl
end Go.Proofs.YtbnhnnccioljhaaGreatDoor
namespace Go.Proofs.YtbnhnnccioljhaaGreatDoor
open Go.RowKit
structure Turned (X:List Nat) (w w':World):Prop where
 os:w'.os=w.os
 tape:w'.tape=w.tape
 output:w'.output=w.output
 size:w.heap.size≤w'.heap.size
 block:∀k,k < w.heap.size→k ∉ X→w'.heap[k]?=w.heap[k]?
def Newer (X:List Nat) (n:Nat) (Y:List Nat):Prop:=∀k ∈ Y,k ∈ X∨n≤k
theorem Newer.refl (X:List Nat) (n:Nat):Newer X n X:=fun _ h=> .inl h
theorem Newer.trans {X Y Z:List Nat} {n m:Nat} (h:Newer X n Y) (g:Newer Y m Z) (hn:n≤m):Newer X n Z:=fun k hk=>by
 rcases g k hk with h1|h1
 ·exact h k h1
 ·exact .inr (by omega)
theorem Newer.mono {X Y:List Nat} {n m:Nat} (h:Newer X n Y) (hn:m≤n):Newer X m Y:=fun k hk=>by
 rcases h k hk with h1|h1
 ·exact .inl h1
 ·exact .inr (by omega)
theorem Turned.refl (X:List Nat) (w:World):Turned X w w:=⟨rfl,rfl,rfl,Nat.le_refl _,fun _ _ _=>rfl⟩
theorem Turned.trans {X Y:List Nat} {a b c:World} (h:Turned X a b) (g:Turned Y b c) (hs:Newer X a.heap.size Y):Turned X a c:=
 ⟨g.os.trans h.os,g.tape.trans h.tape,g.output.trans h.output,Nat.le_trans h.size g.size,fun k hk hx=>
   (g.block k (Nat.lt_of_lt_of_le hk h.size) (fun hy=>by rcases hs k hy with h1|h1;exact hx h1;omega)).trans (h.block k hk hx)⟩
theorem Turned.mono {X Y:List Nat} {a b:World} (h:Turned Y a b) (hs:Newer X a.heap.size Y):Turned X a b:=(Turned.refl X a).trans h hs
theorem Turned.drewN {X:List Nat} {a b:World} (h:Turned X a b) (n:Nat):Turned X a (b.drewN n):=⟨h.os,h.tape,h.output,h.size,h.block⟩
theorem Turned.drew {X:List Nat} {a b:World} (h:Turned X a b):Turned X a b.drew:=⟨h.os,h.tape,h.output,h.size,h.block⟩
theorem Turned.alloc {X:List Nat} {a b:World} (h:Turned X a b) (o:Obj):Turned X a (b.alloc o):=
 ⟨h.os,h.tape,h.output,Nat.le_trans h.size (by simp),fun k hk hx=>(Below.heap_alloc b o k (Nat.lt_of_lt_of_le hk h.size)).trans (h.block k hk hx)⟩
theorem Turned.setCell {X:List Nat} {a b:World} (h:Turned X a b) {p:Addr} (hp:p.block ∈ X∨a.heap.size≤p.block) (u:Value):Turned X a (b.setCell p u):=
 ⟨h.os,h.tape,h.output,Nat.le_trans h.size (by simp [World.setCell]),fun k hk hx=>
   (Below.heap_setCell b p u k (fun e=>by subst e;rcases hp with h1|h1;exact hx h1;omega)).trans (h.block k hk hx)⟩
theorem Turned.grown {X:List Nat} {a b c:World} {row:Option Nat} (h:Turned X a b) (hg:b.grownBy c row) (hr:∀k,row=some k→k ∈ X∨a.heap.size≤k):Turned X a c:=
 ⟨hg.os.trans h.os,hg.tape.trans h.tape,hg.output.trans h.output,Nat.le_trans h.size hg.size,fun k hk hx=>
   (hg.block k (Nat.lt_of_lt_of_le hk h.size) (fun e=>by rcases hr k e.symm with h1|h1;exact hx h1;omega)).trans (h.block k hk hx)⟩
theorem Turned.below {X:List Nat} {a b:World} {B:Nat} (h:Turned X a b) (hX:∀k ∈ X,B≤k) (hB:B≤a.heap.size):Below B a b:=
 ⟨h.os,h.tape,h.output,h.size,fun k hk=>h.block k (by omega) (fun hx=>by have:=hX k hx;omega)⟩
theorem Turned.same {X:List Nat} {a b:World} (h:Turned X a b) {k:Nat} {o:Obj} (ho:a.heap[k]?=some o) (hx:k ∉ X):b.heap[k]?=some o:=
 (h.block k (lt_of_block ho) hx).trans ho
theorem ownsRow_same {w w':World} {base:Nat} {e:TypeId} {size:Nat} {v:Value} {n:Nat} {xs:List Value} (h:w.ownsRow base e size v n xs)
  (hs:∀k ∈ v.ownBlock.toList,k < w.heap.size→w'.heap[k]?=w.heap[k]?):w'.ownsRow base e size v n xs:=by
 refine⟨h.1,?_⟩
 rcases h.2 with h2|⟨g,cap,cur,rfl,hb,hg,rest⟩
 ·exact .inl h2
 ·exact .inr ⟨g,cap,cur,rfl,hb,(hs g (by simp [Value.ownBlock]) (lt_of_block hg)).trans hg,rest⟩
theorem ownsRow_lt {w:World} {base:Nat} {e:TypeId} {size:Nat} {v:Value} {n:Nat} {xs:List Value} (h:w.ownsRow base e size v n xs):∀k ∈ v.ownBlock.toList,k < w.heap.size:=by
 intro k hk
 exact (h.lt k (by simpa using hk)).2
theorem ownsRow_type {w:World} {base:Nat} {e:TypeId} {size:Nat} {v:Value} {n:Nat} {xs:List Value} (h:w.ownsRow base e size v n xs):∀k ∈ v.ownBlock.toList,∃cur,w.heap[k]?=some (.cells cur e (0,0)):=by
 intro k hk
 rcases h.2 with⟨rfl,_⟩ |⟨g,cap,cur,rfl,hb,hg,_⟩
 ·simp [Value.ownBlock] at hk
 ·simp [Value.ownBlock] at hk
  subst hk
  exact⟨cur,hg⟩
theorem ownsRow_shape {w:World} {base:Nat} {e:TypeId} {size:Nat} {v:Value} {n:Nat} {xs:List Value} (h:w.ownsRow base e size v n xs):∃a cap,v= .slice a n cap∧n≤cap∧cap≤maxLen:=by
 rcases h.2 with⟨rfl,rfl⟩ |⟨g,cap,cur,rfl,_,_,h1,h2,_⟩
 ·exact⟨none,0,rfl,Nat.le_refl _,by simp [maxLen]⟩
 ·exact⟨_,cap,rfl,h1,h2⟩
theorem ownsRow_pos {w:World} {base:Nat} {e:TypeId} {size:Nat} {v:Value} {n:Nat} {xs:List Value} (h:w.ownsRow base e size v n xs) (hn:0 < n):∃g cap,v= .slice (some ⟨g,0,none⟩) n cap∧n≤cap∧cap≤maxLen:=by
 rcases h.2 with⟨rfl,rfl⟩ |⟨g,cap,cur,rfl,_,_,h1,h2,_⟩
 ·omega
 ·exact⟨g,cap,rfl,h1,h2⟩
end Go.Proofs.YtbnhnnccioljhaaGreatDoor
namespace Go.Proofs.YtbnhnnccioljhaaGreatDoor
def skipN (l:List By):Nat:=
 match l with
 |[]=>0
 |c::t=>if isBl c then 1+skipN t else if c.toNat=35 then 1+(t.takeWhile not10).length+skipN (t.dropWhile not10) else 0
termination_by l.length
decreasing_by
 all_goals simp_wf
 have:=(List.dropWhile_sublist (l:=t) not10).length_le
 omega
theorem skip_nil:skipN []=0:=by rw [skipN]
theorem skip_blank {c:By} (h:isBl c=true) (t:List By):skipN (c::t)=1+skipN t:=by rw [skipN,if_pos h]
theorem skip_rem {c:By} (h0:isBl c=false) (h:c.toNat=35) (t:List By):skipN (c::t)=1+(t.takeWhile not10).length+skipN (t.dropWhile not10):=by rw [skipN,if_neg (by simp [h0]),if_pos h]
theorem skip_stop {c:By} (h0:isBl c=false) (h:¬c.toNat=35) (t:List By):skipN (c::t)=0:=by rw [skipN,if_neg (by simp [h0]),if_neg h]
theorem drop_take_len {q:By→Bool} (t:List By):t.drop (t.takeWhile q).length=t.dropWhile q:=by
 induction t with
 |nil=>rfl
 |cons c t ih=>
  simp only [List.takeWhile_cons,List.dropWhile_cons]
  split
  ·simpa using ih
  ·rfl
theorem skip_le:∀(n:Nat) (l:List By),l.length≤n→skipN l≤l.length
 |_,[],_=>by rw [skip_nil];omega
 |0,_::_,h=>by simp at h
 |n+1,c::t,h=>by
  simp only [List.length_cons] at h ⊢
  cases h0:isBl c with
  |true=>
   rw [skip_blank h0]
   have:=skip_le n t (by omega)
   omega
  |false=>
   by_cases h1:c.toNat=35
   ·rw [skip_rem h0 h1]
    have e:t.takeWhile not10++t.dropWhile not10=t:=List.takeWhile_append_dropWhile
    have e2:=congrArg List.length e
    rw [List.length_append] at e2
    have:=skip_le n (t.dropWhile not10) (by omega)
    omega
   ·rw [skip_stop h0 h1];omega
theorem scan_skip:∀(n:Nat) (l:List By) (p:Nat) (adj:Bool),l.length≤n→scanR l p adj=scanR (l.drop (skipN l)) (p+skipN l) (adj&&decide (skipN l=0))
 |_,[],p,adj,_=>by rw [skip_nil];simp [scan_nil]
 |0,_::_,_,_,h=>by simp at h
 |n+1,c::t,p,adj,h=>by
  simp only [List.length_cons] at h
  cases h0:isBl c with
  |true=>
   rw [skip_blank h0,scan_blank h0,scan_skip n t _ _ (by omega),show 1+skipN t=skipN t+1 by omega,List.drop_succ_cons,show p+1+skipN t=p+(skipN t+1) by omega]
   simp
  |false=>
   by_cases h1:c.toNat=35
   ·have e:t.takeWhile not10++t.dropWhile not10=t:=List.takeWhile_append_dropWhile
    have e2:=congrArg List.length e
    rw [List.length_append] at e2
    rw [skip_rem h0 h1,scan_remark h0 h1,scan_skip n _ _ _ (by omega),show 1+(t.takeWhile not10).length+skipN (t.dropWhile not10)=((t.takeWhile not10).length+skipN (t.dropWhile not10))+1 by omega,List.drop_succ_cons, ←List.drop_drop,drop_take_len,show p+1+(t.takeWhile not10).length+skipN (t.dropWhile not10)=p+((t.takeWhile not10).length+skipN (t.dropWhile not10)+1) by omega]
    simp
   ·rw [skip_stop h0 h1];simp
theorem skip_at:∀(n:Nat) (l:List By),l.length≤n→l.drop (skipN l)=[]∨∃c t,l.drop (skipN l)=c::t∧isBl c=false∧¬c.toNat=35
 |_,[],_=>by rw [skip_nil];exact .inl rfl
 |0,_::_,h=>by simp at h
 |n+1,c::t,h=>by
  simp only [List.length_cons] at h
  cases h0:isBl c with
  |true=>rw [skip_blank h0,show 1+skipN t=skipN t+1 by omega,List.drop_succ_cons];exact skip_at n t (by omega)
  |false=>
   by_cases h1:c.toNat=35
   ·have e:t.takeWhile not10++t.dropWhile not10=t:=List.takeWhile_append_dropWhile
    have e2:=congrArg List.length e
    rw [List.length_append] at e2
    rw [skip_rem h0 h1,show 1+(t.takeWhile not10).length+skipN (t.dropWhile not10)=((t.takeWhile not10).length+skipN (t.dropWhile not10))+1 by omega,List.drop_succ_cons, ←List.drop_drop,drop_take_len]
    exact skip_at n _ (by omega)
   ·rw [skip_stop h0 h1];exact .inr ⟨c,t,rfl,h0,h1⟩
def lastB (ws:List Wd):Bool:=match ws.getLast? with
 |none=>false
 |some x=>!decide (x.1=3)
theorem lastB_snoc (ws:List Wd) (x:Wd):lastB (ws++[x])=!decide (x.1=3):=by simp [lastB]
theorem lastB_nil:lastB []=false:=rfl
theorem one_place (c:By) (t:List By) (p:Nat):oneR c t p=(placed (oneR c t 0).1 p,(oneR c t 0).2.1,(oneR c t 0).2.2):=by
 unfold oneR placed
 split
 ·rfl
 ·split
  ·rfl
  ·rfl
theorem scan_len (l:List By) (h:l.length≤8000):(scanA l).1.length≤8000:=by
 have key:∀(n:Nat) (m:List By) (p:Nat) (adj:Bool) (ws:List Wd),m.length≤n→scanR m p adj= .ok ws→ws.length≤m.length:=by
  intro n
  induction n with
  |zero=>
   intro m p adj ws hm hs
   have:m=[]:=List.eq_nil_of_length_eq_zero (by omega)
   subst this
   rw [scan_nil] at hs
   cases hs
   simp
  |succ n ih=>
   intro m p adj ws hm hs
   cases m with
   |nil=>
    rw [scan_nil] at hs
    cases hs
    simp
   |cons c t=>
    simp only [List.length_cons] at hm ⊢
    cases h0:isBl c with
    |true=>
     rw [scan_blank h0] at hs
     have:=ih t _ _ ws (by omega) hs
     omega
    |false=>
     by_cases h35:c.toNat=35
     ·rw [scan_remark h0 h35] at hs
      have hd:=(List.dropWhile_sublist (l:=t) not10).length_le
      have:=ih _ _ _ ws (by omega) hs
      omega
     ·cases hb:(!(oneR c t p).2.2||(adj&&!decide ((oneR c t p).1.1=3))) with
      |true=>
       rw [scan_bad h0 h35 t p adj hb] at hs
       cases hs
      |false=>
       rw [scan_word h0 h35 t p adj hb] at hs
       cases hr:scanR (t.drop (oneR c t p).2.1) (p+1+(oneR c t p).2.1) (!decide ((oneR c t p).1.1=3)) with
       |error q=>
        rw [hr] at hs
        cases hs
       |ok ws'=>
        rw [hr] at hs
        have e:ws=(oneR c t p).1::ws':=by
         simp only [prepR,Except.ok.injEq,List.cons_append,List.nil_append] at hs
         exact hs.symm
        have:=ih _ _ _ ws' (by rw [List.length_drop];omega) hr
        rw [List.length_drop] at this
        rw [e,List.length_cons]
        omega
 unfold scanA
 rw [if_neg (by omega)]
 cases hs:scanR l 0 false with
 |ok ws=>
  have:=key _ l 0 false ws (Nat.le_refl _) hs
  simp only
  omega
 |error p=>simp
end Go.Proofs.YtbnhnnccioljhaaGreatDoor
namespace Go.Proofs.YtbnhnnccioljhaaGreatDoor
open Go.RowKit
theorem geb (c:By) (k:Nat):decide ((k:Int)≤(c.toNat:Int))=decide (k≤c.toNat):=by rw [Bool.eq_iff_iff];simp
theorem leb (c:By) (k:Nat):decide ((c.toNat:Int)≤(k:Int))=decide (c.toNat≤k):=by rw [Bool.eq_iff_iff];simp
theorem eqb (c:By) (k:Nat):(((c.toNat:Nat):Int) == (k:Int))=decide (c.toNat=k):=by rw [Bool.eq_iff_iff];simp;omega
theorem neb (c:By) (k:Nat):(((c.toNat:Nat):Int) != (k:Int))=!decide (c.toNat=k):=by rw [bne,eqb]
theorem ne3 (k:Int):(k != 3)=!decide (k=3):=by rw [Bool.eq_iff_iff];simp
theorem byte_drop (s:ByteArray) (k:Nat) (h:k < s.size):s.data.toList.drop k=s[k]::s.data.toList.drop (k+1):=by
 rw [List.drop_eq_getElem_cons (by rw [←Lib.size_eq];exact h)]
 rfl
theorem drop_end (s:ByteArray) (k:Nat) (h:s.size≤k):s.data.toList.drop k=[]:=List.drop_eq_nil_of_le (by rw [←Lib.size_eq];exact h)
theorem head_at (s:ByteArray) (h:0 < s.size):s.data.toList.headD 0=s[0]:=by
 have:=byte_drop s 0 h
 rw [List.drop_zero] at this
 rw [this]
 rfl
theorem bl_from (s:ByteArray) (k:Nat):(s.extract k s.size).data.toList=s.data.toList.drop k:=by
 rw [Lib.extract_data]
 exact List.take_of_length_le (by rw [List.length_drop, ←Lib.size_eq];omega)
theorem size_from (s:ByteArray) (k:Nat):(s.extract k s.size).size=s.size - k:=by
 rw [Lib.size_eq,bl_from,List.length_drop, ←Lib.size_eq]
theorem bl_to (s:ByteArray) (k:Nat):(s.extract 0 k).data.toList=s.data.toList.take k:=by
 rw [Lib.extract_data,List.drop_zero,Nat.sub_zero]
theorem size_to (s:ByteArray) (k:Nat) (h:k≤s.size):(s.extract 0 k).size=k:=by
 rw [Lib.size_eq,bl_to,List.length_take, ←Lib.size_eq];omega
theorem mk_to (s:ByteArray) (k:Nat):(⟨(s.data.toList.take k).toArray⟩:ByteArray)=s.extract 0 k:=by
 rw [←bl_to,Lib.mk_data]
theorem bcell {W w1:World} (hb:Below W.heap.size W w1):(∀b o,b < W.heap.size→w1.cell? ⟨b,o,none⟩=W.cell? ⟨b,o,none⟩)∧(∀b o,b < W.heap.size→w1.frozen? ⟨b,o,none⟩=W.frozen? ⟨b,o,none⟩):=
 ⟨fun b o h=>hb.cell (p:=⟨b,o,none⟩) h,fun b o h=>hb.frozen (p:=⟨b,o,none⟩) h⟩
theorem row_below {w W:World} {base:Nat} {e:TypeId} {size:Nat} {v:Value} {n:Nat} {xs:List Value} (h:w.ownsRow base e size v n xs) (hb:Below w.heap.size w W):W.ownsRow base e size v n xs:=
 ownsRow_same h fun k _ hk=>hb.block k hk
theorem app_below {n₀:Nat} {wr w1 w2:World} {base:Nat} {e:TypeId} {size:Nat} {v:Value} {k:Nat} {xs:List Value} {w:World} (hb:Below n₀ w w1) (hn:n₀≤w.heap.size) (hbase:n₀≤base) (hown:wr.ownsRow base e size v k xs) (hg:w1.grownBy w2 v.ownBlock):Below n₀ w w2:=
 hb.grown hg (Nat.le_trans hn hb.size) (fun j hj=>by
  have:=(hown.lt j hj).1
  omega)
theorem below_drewN {B:Nat} {a b:World} (h:Below B a b) (n:Nat):Below B a (b.drewN n):=⟨h.os,h.tape,h.output,h.size,h.block⟩
theorem bytes_below (w:World) (e:TypeId) (s:ByteArray):Below w.heap.size w (Lib.bytesWorld w e s):=
 ⟨rfl,rfl,rfl,by rw [Lib.bytesWorld_size];omega,fun k hk=>Lib.bytesWorld_at_old w e s k hk⟩
theorem grow_below (w:World) (k:Nat) (os:Array Obj):Below w.heap.size w (Go.Sort.grow (w.drewN k) os):=by
 refine⟨rfl,rfl,rfl,?_,fun j hj=>?_⟩
 ·show w.heap.size≤(w.heap++os).size
  rw [Array.size_append];omega
 ·show (w.heap++os)[j]?=w.heap[j]?
  rw [Array.getElem?_append_left hj]
theorem one_cell (W:World) (v:Value) (t:TypeId):(W.alloc (Obj.cells #[v] t)).cell? ⟨W.heap.size,0,none⟩=some v:=by simp
theorem ba_add (a b:ByteArray):(a++b).data.toList=a.data.toList++b.data.toList∧(a++b).size=a.size+b.size:=by
 constructor
 ·simp [ByteArray.data_append]
 ·simp
theorem str_add (x y:List By) (h:x.length+y.length≤1000000) (W:World):(Op.stringOp .add ⟨x.toArray⟩ ⟨y.toArray⟩).run Tryz.prog W= .ok (.string ⟨(x++y).toArray⟩) W:=by
 rw [run_string_add_sum W _ _ (by simp only [ByteArray.size,List.size_toArray];omega),ByteArray.mk_append_mk]
section
variable (s:ByteArray)
theorem run_le (q:By→Bool):(s.data.toList.takeWhile q).length≤s.size:=by
 rw [Lib.size_eq];exact (List.takeWhile_sublist _).length_le
end
end Go.Proofs.YtbnhnnccioljhaaGreatDoor
namespace Go.Proofs.YtbnhnnccioljhaaGreatDoor
open Go.RowKit
def wdC (w:Wd):List Value:=[.int .i64 w.1, .string ⟨w.2.1.toArray⟩, .int .i64 w.2.2.1, .int .i64 w.2.2.2]
def wdV (w:Wd):Value:= .agg #[.int .i64 w.1, .string ⟨w.2.1.toArray⟩, .int .i64 w.2.2.1, .int .i64 w.2.2.2]
theorem word_cells {w:World} {B:Nat} {a b c d:Value} {t:TypeId} (h:w.heap[B]?=some (.cells #[a,b,c,d] t (0,0))):
  w.cell? ⟨B,0,none⟩=some a∧w.cell? ⟨B,1,none⟩=some b∧w.cell? ⟨B,2,none⟩=some c∧w.cell? ⟨B,3,none⟩=some d:=by
 refine⟨?_,?_,?_,?_⟩<;>simp [World.cell?,h]
theorem word_stored {w:World} {B:Nat} {a b c d a' b' c' d':Value} {t:TypeId} (h:w.heap[B]?=some (.cells #[a,b,c,d] t (0,0))):
  ((((w.setCell ⟨B,0,none⟩ a').setCell ⟨B,1,none⟩ b').setCell ⟨B,2,none⟩ c').setCell ⟨B,3,none⟩ d').heap[B]?=some (.cells #[a',b',c',d'] t (0,0)):=by
 rw [heap_setCell_same _ _ _ _ _ _ (heap_setCell_same _ _ _ _ _ _ (heap_setCell_same _ _ _ _ _ _ (heap_setCell_same _ _ _ _ _ _ h)))]
 rfl
theorem word_result {fn:Func} {p u:Tmp} (hf:fn.results= #[.cell p 95, .tmp u]) {tmps:Array Value} {w:World} {B:Nat} {a b c d v:Value} (hp:tmps.getD p undef= .pointer (some ⟨B,0,none⟩)) (hu:tmps.getD u undef=v) (h:w.heap[B]?=some (.cells #[a,b,c,d] 95 (0,0))):
  (results fn tmps).run Tryz.prog w= .ok (.tuple #[.agg #[a,b,c,d],v]) w:=by
 obtain⟨h0,h1,h2,h3⟩:=word_cells h
 rw [results_cell_tmp hf,hp,hu]
 simp [loadVar,go_sem,h0,h1,h2,h3]
theorem results_cell_tmp2 {fn:Func} {p u v:Tmp} {ty:TypeId} (h:fn.results= #[.cell p ty, .tmp u, .tmp v]) (tmps:Array Value) (P:Program) (w:World):
  (results fn tmps).run P w=
    ((asAddr (tmps.getD p undef)).run P w).andThen fun a w₁=>((loadVar ty a).run P w₁).andThen fun x w₂=> .ok (.tuple #[x,tmps.getD u undef,tmps.getD v undef]) w₂:=by
 simp only [results,h]
 simp [Sem.run_bind,Result.andThen]
theorem word_result2 {fn:Func} {p u v:Tmp} (hf:fn.results= #[.cell p 95, .tmp u, .tmp v]) {tmps:Array Value} {w:World} {B:Nat} {a b c d x y:Value} (hp:tmps.getD p undef= .pointer (some ⟨B,0,none⟩)) (hu:tmps.getD u undef=x) (hv:tmps.getD v undef=y) (h:w.heap[B]?=some (.cells #[a,b,c,d] 95 (0,0))):
  (results fn tmps).run Tryz.prog w= .ok (.tuple #[.agg #[a,b,c,d],x,y]) w:=by
 obtain⟨h0,h1,h2,h3⟩:=word_cells h
 rw [results_cell_tmp2 hf,hp,hu,hv]
 simp [loadVar,go_sem,h0,h1,h2,h3]
abbrev zeroW:Obj:= .cells #[.int .i64 0, .string ⟨#[]⟩, .int .i64 0, .int .i64 0] 95
theorem word_kept {w w2:World} (hb:Below (w.alloc zeroW).heap.size (w.alloc zeroW) w2):w2.heap[w.heap.size]?=some zeroW∧Below w.heap.size w w2:=by
 refine⟨(hb.block _ (by simp)).trans (heap_alloc_new w _),((Below.refl _ w).alloc (Nat.le_refl _) _).trans (hb.mono (by simp))⟩
theorem word_below {w w2:World} {B:Nat} (hb:Below w.heap.size w w2) (hB:w.heap.size≤B) (a b c d:Value):
  Below w.heap.size w ((((w2.setCell ⟨B,0,none⟩ a).setCell ⟨B,1,none⟩ b).setCell ⟨B,2,none⟩ c).setCell ⟨B,3,none⟩ d):=
 (((hb.setCell hB _).setCell hB _).setCell hB _).setCell hB _
theorem wdC_len (x:Wd):(wdC x).length=4:=rfl
abbrev wdsC (L:List Wd):List Value:=L.flatMap wdC
theorem wdsC_len:∀L:List Wd,(wdsC L).length=L.length*4
 |[]=>rfl
 |x::L=>by
  have:=wdsC_len L
  simp only [wdsC,List.flatMap_cons,List.length_append,wdC_len,List.length_cons] at this ⊢
  omega
theorem wdsC_get:∀(L:List Wd) (j i:Nat) (hj:j < L.length),i < 4→(wdsC L)[j*4+i]?=(wdC L[j])[i]?
 |x::L,0,i,_,hi=>by
  simp only [wdsC,List.flatMap_cons,Nat.zero_mul,Nat.zero_add,List.getElem_cons_zero]
  rw [List.getElem?_append_left (by rw [wdC_len];exact hi)]
 |x::L,j+1,i,hj,hi=>by
  have ih:=wdsC_get L j i (by simpa using hj) hi
  have e:(j+1)*4+i=(wdC x).length+(j*4+i):=by rw [wdC_len];omega
  simp only [wdsC,List.flatMap_cons,List.getElem_cons_succ] at ih ⊢
  rw [e,List.getElem?_append_right (by omega),Nat.add_sub_cancel_left]
  exact ih
theorem wdsC_snoc (L:List Wd) (x:Wd):wdsC (L++[x])=wdsC L++wdC x:=by simp [wdsC]
abbrev WRow (base:Nat) (w:World) (v:Value) (L:List Wd):Prop:=w.ownsRow base 95 4 v L.length (wdsC L)
theorem row_word {base:Nat} {w:World} {g n cap:Nat} {L:List Wd} (h:WRow base w (.slice (some ⟨g,0,none⟩) n cap) L) (j:Nat) (hj:j < L.length):
  w.cell? ⟨g,j*4,none⟩=some (.int .i64 L[j].1)∧w.cell? ⟨g,j*4+1,none⟩=some (.string ⟨L[j].2.1.toArray⟩)∧w.cell? ⟨g,j*4+2,none⟩=some (.int .i64 L[j].2.2.1)∧w.cell? ⟨g,j*4+3,none⟩=some (.int .i64 L[j].2.2.2):=by
 obtain⟨_,_,h1,_⟩:=ownsRow_shape h
 simp only [Value.slice.injEq] at h1
 obtain⟨_,rfl,_⟩:=h1
 refine⟨?_,?_,?_,?_⟩
 ·rw [h.cellAt _ (by omega)];exact wdsC_get L j 0 hj (by omega)
 ·rw [h.cellAt _ (by omega)];exact wdsC_get L j 1 hj (by omega)
 ·rw [h.cellAt _ (by omega)];exact wdsC_get L j 2 hj (by omega)
 ·rw [h.cellAt _ (by omega)];exact wdsC_get L j 3 hj (by omega)
theorem word_info:(Tryz.prog.info? 95).map (fun i=>(i.zero,i.size,i.bytes))=some (some (.agg #[.int .i64 0, .string ⟨#[]⟩, .int .i64 0, .int .i64 0]),4,40):=by kernel_rfl
theorem word_new (W:World) (a b c d:Value) (t:TypeId):∀(j:Nat) (u:Value),[a,b,c,d][j]?=some u→(W.alloc (.cells #[a,b,c,d] t)).cell? ((⟨W.heap.size,0,none⟩:Addr).add j)=some u:=by
 intro j u hj
 rw [Addr.add_lit]
 match j,hj with
 |0,hj=>simp at hj;subst hj;simp
 |1,hj=>simp at hj;subst hj;simp
 |2,hj=>simp at hj;subst hj;simp
 |3,hj=>simp at hj;subst hj;simp
def ScanPost (l:List By) (w:World) (e:Ending) (w':World):Prop:=
 ∃v,e= .returned (.tuple #[v, .int .i64 (scanA l).2.1, .int .i64 (scanA l).2.2])∧WRow w.heap.size w' v (scanA l).1∧Below w.heap.size w w'
theorem post_err {l:List By} {k:Nat} (h:scanA l=([],(k:Int),5)) {w w':World} (hb:Below w.heap.size w w'):ScanPost l w (.returned (.tuple #[.slice none 0 0, .int .i64 k, .int .i64 5])) w':=by
 unfold ScanPost
 rw [h]
 exact⟨_,rfl,World.ownsRow_nil _ _ _ _,hb⟩
theorem post_ok {l:List By} {ws:List Wd} (h:scanA l=(ws,0,0)) {w w':World} {v:Value} (hr:WRow w.heap.size w' v ws) (hb:Below w.heap.size w w'):ScanPost l w (.returned (.tuple #[v, .int .i64 0, .int .i64 0])) w':=by
 unfold ScanPost
 rw [h]
 exact⟨_,rfl,hr,hb⟩
structure WArg (w:World) (ao:Option Addr) (b off:Nat) (L:List Wd):Prop where
 at_:0 < L.length→ao=some ⟨b,off,none⟩∧b < w.heap.size
 cells:∀i (hi:i < L.length),w.cell? ⟨b,off+i*4,none⟩=some (.int .i64 L[i].1)∧w.cell? ⟨b,off+i*4+1,none⟩=some (.string ⟨L[i].2.1.toArray⟩)∧w.cell? ⟨b,off+i*4+2,none⟩=some (.int .i64 L[i].2.2.1)∧w.cell? ⟨b,off+i*4+3,none⟩=some (.int .i64 L[i].2.2.2)
theorem WArg.below {w w':World} {ao:Option Addr} {b off:Nat} {L:List Wd} (h:WArg w ao b off L) (hb:Below w.heap.size w w'):WArg w' ao b off L:=by
 refine⟨fun h0=>⟨(h.at_ h0).1,Nat.lt_of_lt_of_le (h.at_ h0).2 hb.size⟩,fun i hi=>?_⟩
 have hl:=(h.at_ (by omega)).2
 obtain⟨h0,h1,h2,h3⟩:=h.cells i hi
 exact⟨(hb.cell (p:=⟨b,off+i*4,none⟩) hl).trans h0,(hb.cell (p:=⟨b,off+i*4+1,none⟩) hl).trans h1,(hb.cell (p:=⟨b,off+i*4+2,none⟩) hl).trans h2,(hb.cell (p:=⟨b,off+i*4+3,none⟩) hl).trans h3⟩
theorem WArg.of_row {base:Nat} {w:World} {v:Value} {L:List Wd} (h:WRow base w v L):∃ao b cap,v= .slice ao L.length cap∧WArg w ao b 0 L:=by
 by_cases h0:0 < L.length
 ·obtain⟨g,cap,rfl,_,_⟩:=ownsRow_pos h h0
  refine⟨_,g,cap,rfl,fun _=>⟨rfl,(h.lt g (by simp [Value.ownBlock])).2⟩,fun i hi=>?_⟩
  have hr:=row_word h i hi
  simpa using hr
 ·obtain⟨a,cap,rfl,_,_⟩:=ownsRow_shape h
  exact⟨a,0,cap,rfl,fun h=>absurd h h0,fun i hi=>by omega⟩
theorem textR_len {x:Wd} {s:List By} (h:textR x=some s) (hx:x.2.1.length≤40):s.length≤40:=by
 unfold textR at h
 split at h
 ·split at h
  ·next hc=>
   obtain⟨_,h0,h9⟩:=hc
   simp only [Option.some.injEq] at h
   rw [←h]
   have:=digits_len 8 x.2.2.1.toNat (by omega)
   omega
  ·cases h
 ·split at h
  ·cases h
  ·split at h
   ·cases h
   ·next c t e=>
    split at h
    ·simp only [Option.some.injEq] at h
     rw [←h, ←e]
     exact hx
    ·cases h
def addR (out s:List By):List By:=(if out≠[]∧s≠[59] then out++[32] else out)++s
theorem addR_len (out s:List By):(addR out s).length≤out.length+s.length+1:=by
 unfold addR
 split<;>simp<;>omega
theorem joinF_cons (x:Wd) (L:List Wd) (out:List By):joinF (x::L) out=match textR x with|some s=>joinF L (addR out s) |none=>none:=rfl
def JoinPost (L:List Wd) (w:World) (e:Ending) (w':World):Prop:=e= .returned (.tuple #[.string ⟨(joinA L).1.toArray⟩, .int .i64 (joinA L).2])∧Below w.heap.size w w'
theorem join_none {L:List Wd} (h:joinF L []=none) {w w':World} (hb:Below w.heap.size w w'):JoinPost L w (.returned (.tuple #[.string ⟨#[]⟩, .int .i64 1])) w':=by
 unfold JoinPost joinA
 rw [h]
 exact⟨rfl,hb⟩
theorem join_some {L:List Wd} {out:List By} (h:joinF L []=some out) (hl:out.length≤8000) {w w':World} (hb:Below w.heap.size w w'):JoinPost L w (.returned (.tuple #[.string ⟨out.toArray⟩, .int .i64 0])) w':=by
 unfold JoinPost joinA
 rw [h]
 simp only
 rw [if_neg (by omega)]
 exact⟨rfl,hb⟩
def opC (o:Opn):List Value:=[.int .i64 o.1, .int .i64 o.2.1, .int .i64 o.2.2]
def opV (o:Opn):Value:= .agg #[.int .i64 o.1, .int .i64 o.2.1, .int .i64 o.2.2]
abbrev opsC (L:List Opn):List Value:=L.flatMap opC
theorem opC_len (x:Opn):(opC x).length=3:=rfl
theorem opsC_len:∀L:List Opn,(opsC L).length=L.length*3
 |[]=>rfl
 |x::L=>by
  have:=opsC_len L
  simp only [opsC,List.flatMap_cons,List.length_append,opC_len,List.length_cons] at this ⊢
  omega
theorem opsC_get:∀(L:List Opn) (j i:Nat) (hj:j < L.length),i < 3→(opsC L)[j*3+i]?=(opC L[j])[i]?
 |x::L,0,i,_,hi=>by
  simp only [opsC,List.flatMap_cons,Nat.zero_mul,Nat.zero_add,List.getElem_cons_zero]
  rw [List.getElem?_append_left (by rw [opC_len];exact hi)]
 |x::L,j+1,i,hj,hi=>by
  have ih:=opsC_get L j i (by simpa using hj) hi
  have e:(j+1)*3+i=(opC x).length+(j*3+i):=by rw [opC_len];omega
  simp only [opsC,List.flatMap_cons,List.getElem_cons_succ] at ih ⊢
  rw [e,List.getElem?_append_right (by omega),Nat.add_sub_cancel_left]
  exact ih
theorem opsC_snoc (L:List Opn) (x:Opn):opsC (L++[x])=opsC L++opC x:=by simp [opsC]
abbrev ORow (base:Nat) (w:World) (v:Value) (L:List Opn):Prop:=w.ownsRow base 142 3 v L.length (opsC L)
theorem row_op {base:Nat} {w:World} {g n cap:Nat} {L:List Opn} (h:ORow base w (.slice (some ⟨g,0,none⟩) n cap) L) (j:Nat) (hj:j < L.length):
  w.cell? ⟨g,j*3,none⟩=some (.int .i64 L[j].1)∧w.cell? ⟨g,j*3+1,none⟩=some (.int .i64 L[j].2.1)∧w.cell? ⟨g,j*3+2,none⟩=some (.int .i64 L[j].2.2):=by
 obtain⟨_,_,h1,_⟩:=ownsRow_shape h
 simp only [Value.slice.injEq] at h1
 obtain⟨_,rfl,_⟩:=h1
 refine⟨?_,?_,?_⟩
 ·rw [h.cellAt _ (by omega)];exact opsC_get L j 0 hj (by omega)
 ·rw [h.cellAt _ (by omega)];exact opsC_get L j 1 hj (by omega)
 ·rw [h.cellAt _ (by omega)];exact opsC_get L j 2 hj (by omega)
theorem op_info:(Tryz.prog.info? 142).map (fun i=>(i.zero,i.size,i.bytes))=some (some (.agg #[.int .i64 0, .int .i64 0, .int .i64 0]),3,24):=by kernel_rfl
structure OArg (w:World) (ao:Option Addr) (b off:Nat) (L:List Opn):Prop where
 at_:0 < L.length→ao=some ⟨b,off,none⟩∧b < w.heap.size
 cells:∀i (hi:i < L.length),w.cell? ⟨b,off+i*3,none⟩=some (.int .i64 L[i].1)∧w.cell? ⟨b,off+i*3+1,none⟩=some (.int .i64 L[i].2.1)∧w.cell? ⟨b,off+i*3+2,none⟩=some (.int .i64 L[i].2.2)
theorem OArg.below {w w':World} {ao:Option Addr} {b off:Nat} {L:List Opn} (h:OArg w ao b off L) (hb:Below w.heap.size w w'):OArg w' ao b off L:=by
 refine⟨fun h0=>⟨(h.at_ h0).1,Nat.lt_of_lt_of_le (h.at_ h0).2 hb.size⟩,fun i hi=>?_⟩
 have hl:=(h.at_ (by omega)).2
 obtain⟨h0,h1,h2⟩:=h.cells i hi
 exact⟨(hb.cell (p:=⟨b,off+i*3,none⟩) hl).trans h0,(hb.cell (p:=⟨b,off+i*3+1,none⟩) hl).trans h1,(hb.cell (p:=⟨b,off+i*3+2,none⟩) hl).trans h2⟩
theorem OArg.of_row {base:Nat} {w:World} {v:Value} {L:List Opn} (h:ORow base w v L):∃ao b cap,v= .slice ao L.length cap∧OArg w ao b 0 L:=by
 by_cases h0:0 < L.length
 ·obtain⟨g,cap,rfl,_,_⟩:=ownsRow_pos h h0
  refine⟨_,g,cap,rfl,fun _=>⟨rfl,(h.lt g (by simp [Value.ownBlock])).2⟩,fun i hi=>?_⟩
  have hr:=row_op h i hi
  simpa using hr
 ·obtain⟨a,cap,rfl,_,_⟩:=ownsRow_shape h
  exact⟨a,0,cap,rfl,fun h=>absurd h h0,fun i hi=>by omega⟩
abbrev prgV (f:Bool) (ao:Option Addr) (n cap:Nat):Value:= .agg #[.bool f, .slice ao n cap]
end Go.Proofs.YtbnhnnccioljhaaGreatDoor
