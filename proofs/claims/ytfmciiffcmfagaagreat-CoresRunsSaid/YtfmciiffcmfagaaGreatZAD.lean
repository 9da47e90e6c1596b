/-
  The document's Remove.
  Who is ready, in order, as far as the list has been gone over. No program.
-/
import Derived.Test.YtfmciiffcmfagaaGreatZAC
import Derived.Deep.RegionLaw
import Derived.Test.YtfmciiffcmfagaaGreatZAA
import Derived.Test.YtfmciiffcmfagaaGreatZAl
set_option maxRecDepth 100000
set_option maxHeartbeats 25600000
namespace Go.Proofs.YtfmciiffcmfagaaGreat
open Go.RowKit
def remV (q:Rq) (id:Int):Int:=((findQ q.l id).map (·.1)).getD 0
theorem filter_erase {l:List Tk} {id:Int} (hu:(l.map (·.1)).Nodup) {k:Nat} (hk:k < l.length) (he:l[k].1=id):l.filter (fun x=>decide (x.1≠id))=l.eraseIdx k:=by
 have e:l=l.take k++(l[k]::l.drop (k+1)):=by rw [←List.drop_eq_getElem_cons hk,List.take_append_drop]
 rw [List.eraseIdx_eq_take_drop_succ]
 have hne:∀i (hi:i < l.length),i≠k→l[i].1≠id:=fun i hi hik h=>by
  have h3:(l.map (·.1))[i]'(by simpa using hi)=(l.map (·.1))[k]'(by simpa using hk):=by
   rw [List.getElem_map,List.getElem_map,h,he]
  exact hik ((List.getElem_inj hu).1 h3)
 have a1:(l.take k).filter (fun x=>decide (x.1≠id))=l.take k:=by
  rw [List.filter_eq_self]
  intro x hx
  obtain⟨i,hi,rfl⟩:=List.getElem_of_mem hx
  rw [List.length_take] at hi
  rw [List.getElem_take]
  simpa using hne i (by omega) (by omega)
 have a2:(l.drop (k+1)).filter (fun x=>decide (x.1≠id))=l.drop (k+1):=by
  rw [List.filter_eq_self]
  intro x hx
  obtain⟨i,hi,rfl⟩:=List.getElem_of_mem hx
  rw [List.length_drop] at hi
  rw [List.getElem_drop]
  simpa using hne (k+1+i) (by omega) (by omega)
 conv=>lhs;rw [e]
 rw [List.filter_append,List.filter_cons,if_neg (by simp [he]),a1,a2]
theorem encTk_one (x:Tk):∀u ∈ encTk x,u.oneCell'=true:=by
 intro u hu
 simp at hu
 rcases hu with rfl|rfl|rfl<;>rfl
theorem rremove_any {w:World} {b:Nat} {X:List Nat} {q:Rq} (h:R16 w b X q) (hu:(q.l.map (·.1)).Nodup) (hL:q.l.length≤1000) (id:Int):
  Calls Tryz.prog 40 #[.pointer (some ⟨b,0,none⟩), .int .i64 id] w fun e w'=>e= .returned (.tuple #[.int .u64 (remV q id), .bool (findQ q.l id).isSome])∧∃X',R16 w' b X' (q.remove id)∧Turned X w w'∧Newer X w.heap.size X':=by
 have HAT:=xhd (rat_any h id)
 rcases atQ_cases q.l id with⟨hat,hno⟩ |⟨j,hj,hat,hid⟩
 ·rw [hat] at HAT
  have hn:findQ q.l id=none:=by
   cases he:findQ q.l id with
   |none=>rfl
   |some x=>exact absurd rfl (hno _ (findQ_mem he))
  have e:q.remove id=q:=by
   unfold Rq.remove
   rw [hn]
   rfl
  rw [e]
  unfold remV
  rw [hn]
  have H:=xhd h
  clear h hu hat hno hn e
  go_enter Tryz.func40,Tryz.ntmps40
  go_wp2_with fail
  with_reducible refine HAT.out.mono ?_
  rintro e w2 ⟨rfl,rfl⟩
  go_wp2
  go_ret2
  exact⟨rfl,X,H.out,Turned.refl _ _,Newer.refl _ _⟩
 ·rw [hat] at HAT
  have hrem:q.remove id= { q with l:=q.l.eraseIdx j,cur:=if q.cur=id then -1 else q.cur,ran:=if q.cur=id then 0 else q.ran } :=by
   unfold Rq.remove
   rw [find_at hu hj hid,filter_erase hu hj hid]
   rfl
  have hrv:remV q id=q.l[j].2.1:=by
   unfold remV
   rw [find_at hu hj hid]
   rfl
  rw [hrem,hrv,find_at hu hj hid,Option.isSome_some]
  have hb:=LAt.lt h b (LAt.head h)
  obtain⟨a,cap,h1,h2,h3,hc1,hc2,hg⟩:=LAt.view h
  obtain⟨g,hg|hg⟩:=hg j hj
  case inr=>exact absurd hg (by decide)
  obtain⟨rfl,hbg⟩:=hg
  have hgl:g < w.heap.size:=ownsRow_lt h2 g (by simp [Value.ownBlock])
  have r:=row_cells encTk_len h2 hj
  have r1:=(r 1 (by omega)).1
  simp only [encTk,List.getElem?_cons_zero,List.getElem?_cons_succ] at r1
  have e1:=(cells5q h1).2.2.1
  have g1:=(cells5q h1).2.2.2.2.2 2
  have H1:=xhd h1
  have H2:=xhd h2
  have H3:=xhd h3
  obtain⟨v,hv⟩:∃v,q.l[j].2.1=v:=⟨_,rfl⟩
  rw [hv] at r1 ⊢
  obtain⟨cur,hcur⟩:∃c,q.cur=c:=⟨_,rfl⟩
  obtain⟨ran,hran⟩:∃c,q.ran=c:=⟨_,rfl⟩
  obtain⟨gr,hgr⟩:∃c,q.g=c:=⟨_,rfl⟩
  obtain⟨fl,hfl⟩:∃c,q.f=c:=⟨_,rfl⟩
  have hq:q=⟨gr,fl,q.l,cur,ran⟩:=by rw [←hcur, ←hran, ←hgr, ←hfl]
  rw [hcur,hran,hgr,hfl] at H1 ⊢
  obtain⟨L,hLL⟩:∃L,q.l=L:=⟨_,rfl⟩
  rw [hLL] at e1 H1 H2 H3 hj hL hc1 ⊢
  have j0:(0:Int)≤j:=by omega
  have j1:(j:Int) < L.length:=by omega
  obtain⟨ii,hi,hz0,hz1,hz2⟩:=info_parts infoTk
  have hw1:IntKind.i64.wrap ((j:Int)+1)=(j:Int)+1:=by rw [IntKind.wrap_i64];omega
  have n7:(0:Int)≤(j:Int)+1:=by omega
  have n2:j≤cap:=by omega
  have n3:(j:Int)+1≤L.length:=by omega
  have n4:j+1≤L.length:=by omega
  have n5:j+1≤cap:=by omega
  have n6:L.length≤cap:=hc1
  clear h h1 h2 h3 r hg hu hat hid hrem hrv hv hcur hran hgr hfl hq hLL
  go_enter Tryz.func40,Tryz.ntmps40
  go_wp2_with fail
  with_reducible refine HAT.out.mono ?_
  rintro e w9 ⟨rfl,rfl⟩
  go_wp2_with fail
  clear r1
  go_region_law (first
   |(refine step_append_any _ rfl (.tmp 22) (.tmp 28) 69 rfl tT16 ii (.agg #[.int .i64 0, .int .u64 0, .int .i64 0]) 3 24 Tryz.underlying69 hi hz0 hz1 hz2 rfl (by decide) (.slice (some ⟨w.heap.size,0,none⟩) 0 0) 0 [] rfl (ownsRow_empty w tT16 3) (some ⟨g,0,none⟩) j cap (cellsOf encTk (L.take j)) rfl (by rw [cellsOf_len encTk_len,List.length_take,Nat.min_eq_left (by omega)]) (by intro h;cases h) (by intro ad had;cases had;exact cells_take encTk_len H2.out (((Turned.refl [] w).alloc _).drew) j) (cells_one encTk_one _) (by unfold maxLen;omega) (by omega) ?_
     intro a1 cap1 W1 hown1 hgrow1 hnew1
     rw [Nat.zero_add,List.nil_append] at hown1
     rw [Nat.zero_add] at hnew1
     have t1:Turned [] w W1:=Turned.grown (((Turned.refl [] w).alloc _).drew) hgrow1 (fun k hk=> .inr (by simp [Value.ownBlock] at hk;omega))
     have e1':W1.cell? ⟨b,2,none⟩=some (.slice (some ⟨g,0,none⟩) L.length cap):=(cells5q (t1.same H1.out (by simp))).2.2.1
     have HO1:=xhd hown1
     have hn1:∀q ∈ (Value.slice a1 j cap1).ownBlock.toList,w.heap.size≤q:=fun q hq=>by
      rcases hnew1 q hq with h|h
      ·simp [Value.ownBlock] at h
       omega
      ·have h':w.heap.size+1≤q:=by simpa using h
       omega
     have HN1:=xhd hn1
     have HT1:=xhd t1
     clear hown1 hgrow1 hnew1 t1 hn1)
   |(refine step_append_any _ rfl (.tmp 29) (.tmp 36) 69 rfl tT16 ii (.agg #[.int .i64 0, .int .u64 0, .int .i64 0]) 3 24 Tryz.underlying69 hi hz0 hz1 hz2 rfl (by decide) _ _ _ rfl HO1.out (if cap=j+1 then some ⟨g,0,none⟩ else some ⟨g,(j+1)*3,none⟩) (L.length - (j+1)) (cap - (j+1)) (cellsOf encTk (L.drop (j+1))) rfl (by rw [cellsOf_len encTk_len,List.length_drop]) (by intro h;split at h<;>cases h) (cells_tail encTk_len H2.out HT1.out (j+1) n6) (cells_one encTk_one _) (by unfold maxLen;omega) (by omega) ?_
     intro a2 cap2 W2 hown2 hgrow2 hnew2
     have t2:Turned [] w W2:=Turned.grown HT1.out hgrow2 (fun k hk=> .inr (HN1.out k (by rw [Option.mem_toList];exact hk)))
     have hn2:∀q ∈ (Value.slice a2 (j+(L.length - (j+1))) cap2).ownBlock.toList,w.heap.size≤q:=fun q hq=>by
      rcases hnew2 q hq with h|h
      ·exact HN1.out q h
      ·have:=HT1.out.size
       omega
     have e2':W2.cell? ⟨b,2,none⟩=some (.slice (some ⟨g,0,none⟩) L.length cap):=(cells5q (t2.same H1.out (by simp))).2.2.1
     have e3':W2.frozen? ⟨b,2,none⟩=false:=(cells5q (t2.same H1.out (by simp))).2.2.2.2.2 2
     have HO2:=xhd hown2
     have HN2:=xhd hn2
     have HT2:=xhd t2
     clear hown2 hgrow2 hnew2 t2 hn2))
  all_goals
   have hM:cellsOf encTk (L.take j)++cellsOf encTk (L.drop (j+1))=cellsOf encTk (L.eraseIdx j):=by rw [←cellsOf_append,take_drop_erase]
   have hl:j+(L.length - (j+1))=(L.eraseIdx j).length:=by rw [List.length_eraseIdx,if_pos hj];omega
   have R:=LAt.stored (w:=w) (tS:=tQ16) (tE:=tT16) (k:=3) (enc:=encTk) (cs:=fun v=> #[.int .i64 gr, .int .u64 fl,v, .int .i64 cur, .int .i64 ran]) (i:=2) (v':= .slice a2 (j+(L.length - (j+1))) cap2) (M:=L.eraseIdx j) (by decide) rfl (HT2.out.same H1.out (by simp)) (by rw [←hl, ←hM];exact HO2.out) (X:=X) (by rw [H3.out];simp) (HT2.out.mono (fun k hk=>by simp at hk)) (fun q hq=> .inr (HN2.out q hq))
   obtain⟨q1,q2,q3⟩:=R
   have Q1:Hid (R16 (W2.setCell ⟨b,2,none⟩ (.slice a2 (j+(L.length - (j+1))) cap2)) b (b::(Value.slice a2 (j+(L.length - (j+1))) cap2).ownBlock.toList) ⟨gr,fl,L.eraseIdx j,cur,ran⟩):=xhd q1
   have Q2:=xhd q2
   have Q3:=xhd q3
   clear hM hl q1 q2 q3
   generalize W2.setCell ⟨b,2,none⟩ (.slice a2 (j+(L.length - (j+1))) cap2)=V at Q1 Q2 ⊢
   generalize b::(Value.slice a2 (j+(L.length - (j+1))) cap2).ownBlock.toList=X2 at Q1 Q3
   obtain⟨v5,p1,p2,p3⟩:=Q1.out
   obtain⟨z0,z1,z2,c3,c4,cf⟩:=cells5q p1
   have f3:=cf 3
   have f4:=cf 4
   clear z0 z1 z2 p2 p1 cf e1 g1
   have HX3:=xhd p3
   clear p3
   by_cases hc:cur=id
   ·subst hc
    have S1:=Q1.out.setCur (-1)
    have S2:=S1.1.setRan 0
    have HS2:=xhd S2
    have HS1:=xhd S1.2
    have hbx:b ∈ X:=by rw [H3.out];simp
    have HTT:Hid (Turned X w ((V.setCell ⟨b,3,none⟩ (.int .i64 (-1))).setCell ⟨b,4,none⟩ (.int .i64 0))):=xhd ((Q2.out.setCell (.inl hbx) _).setCell (.inl hbx) _)
    clear S1 S2
    go_wp2
    all_goals
     go_ret2
     exact⟨rfl,X2,HS2.out.1,HTT.out,Q3.out⟩
   ·have HC:=xhd hc
    have tc:(cur == id)=false:=by simpa using hc
    go_wp2
    all_goals
     go_ret2
     exact⟨rfl,X2,Q1.out,Q2.out,Q3.out⟩
end Go.Proofs.YtfmciiffcmfagaaGreat
namespace Go.Proofs.YtfmciiffcmfagaaGreat
theorem ins_at {x:Int×Int×Int} :∀ {l:List (Int×Int×Int)} {k:Nat},k≤l.length→(∀j (hj:j < l.length),j < k→ltQ l[j] x=true)→(∀hk:k < l.length,ltQ l[k] x=false)→insQ x l=l.take k++x::l.drop k
 |[],k,h,_,_=>by
  have:k=0:=by simpa using h
  subst this
  rfl
 |y::l,0,_,_,h2=>by
  have h3:ltQ y x=false:=h2 (by simp)
  unfold insQ
  rw [h3]
  rfl
 |y::l,k+1,h,h1,h2=>by
  have h3:ltQ y x=true:=h1 0 (by simp) (by omega)
  have ih:=ins_at (x:=x) (l:=l) (k:=k) (by simpa using h) (fun j hj hjk=>by
   have:=h1 (j+1) (by simp;omega) (by omega)
   rwa [List.getElem_cons_succ] at this) (fun hk=>by
   have:=h2 (by simp;omega)
   rwa [List.getElem_cons_succ] at this)
  unfold insQ
  rw [h3,if_pos rfl,ih]
  rfl
theorem sort_snoc (l:List (Int×Int×Int)) (x:Int×Int×Int):sortQ (l++[x])=insQ x (sortQ l):=by simp [sortQ,List.foldl_append]
def readyTo (q:Rq) (i:Nat):List (Int×Int×Int):=(q.l.take i).filter (fun x=>decide (x.1≠q.cur))
theorem ready_end (q:Rq):readyTo q q.l.length=q.ready:=by
 unfold readyTo Rq.ready
 rw [List.take_length]
theorem ready_on {q:Rq} {i:Nat} (hi:i < q.l.length) (h:q.l[i].1≠q.cur):sortQ (readyTo q (i+1))=insQ q.l[i] (sortQ (readyTo q i)):=by
 unfold readyTo
 rw [List.take_succ_eq_append_getElem hi,List.filter_append,List.filter_cons,if_pos (by simpa using h),List.filter_nil,sort_snoc]
theorem ready_past {q:Rq} {i:Nat} (hi:i < q.l.length) (h:q.l[i].1=q.cur):sortQ (readyTo q (i+1))=sortQ (readyTo q i):=by
 unfold readyTo
 rw [List.take_succ_eq_append_getElem hi,List.filter_append,List.filter_cons,if_neg (by simpa using h),List.filter_nil,List.append_nil]
theorem readyTo_len (q:Rq) (i:Nat):(sortQ (readyTo q i)).length≤q.l.length:=by
 rw [len_sort]
 unfold readyTo
 refine Nat.le_trans (List.length_filter_le _ _) ?_
 rw [List.length_take]
 omega
end Go.Proofs.YtfmciiffcmfagaaGreat
