/- KHist: what is reached of them. -/
import Derived.Test.YtmimfkhkilijcaaGreatDoorPq11
import Derived.Laws.IdiomCopy
import Derived.Lib.SliceRun
import Derived.Lib.AppendZerosOnto
import Derived.Lib.Overlaps
import Derived.Laws.Externs
import Derived.Deep.LoopGhost
import Derived.BigRegion
set_option linter.unusedVariables false
set_option linter.unusedSimpArgs false
set_option maxRecDepth 100000
set_option maxHeartbeats 8000000
namespace Go.Proofs.YtmimfkhkilijcaaGreatDoor
namespace PHist
def cnt (l : List Int) (n : Int) : Nat:=(l.filter fun x=>decide (x≤n)).length
def ins (x : Int) : List Int→List Int
  | []=>[x]
  | y::l=>if x≤y then x::y::l else y::ins x l
def srt : List Int→List Int
  | []=>[]
  | x::l=>ins x (srt l)
def lstep (P : Int→Bool) (acc : Int×Bool) (x : Int) : Int×Bool:=if P x=true∧(acc.2=false∨x<acc.1) then (x,true) else acc
def least (P : Int→Bool) (l : List Int) : Int×Bool:=l.foldl (lstep P) (0,false)
theorem ins_perm (x : Int) : ∀ l : List Int,(ins x l).Perm (x::l)
  | []=>List.Perm.refl _
  | y::l=>by
    unfold ins
    split
    · exact List.Perm.refl _
    · exact ((ins_perm x l).cons y).trans (List.Perm.swap x y l)
theorem srt_perm : ∀ l : List Int,(srt l).Perm l
  | []=>List.Perm.refl _
  | x::l=>(ins_perm x (srt l)).trans ((srt_perm l).cons x)
theorem ins_mem (x y : Int) (l : List Int) : y∈ins x l↔y=x∨y∈l:=by rw [(ins_perm x l).mem_iff];simp
theorem srt_mem (y : Int) (l : List Int) : y∈srt l↔y∈l:=(srt_perm l).mem_iff
theorem ins_sorted (x : Int) : ∀ l : List Int,l.Pairwise (·≤·)→(ins x l).Pairwise (·≤·)
  | [],_=>by simp [ins]
  | y::l,h=>by
    have hc:=List.pairwise_cons.1 h
    unfold ins
    split
    · rename_i hxy
      refine List.pairwise_cons.2 ⟨fun z hz=>?_,h⟩
      rcases List.mem_cons.1 hz with rfl|hz
      · exact hxy
      · exact Int.le_trans hxy (hc.1 z hz)
    · rename_i hxy
      refine List.pairwise_cons.2 ⟨fun z hz=>?_,ins_sorted x l hc.2⟩
      rcases (ins_mem x z l).1 hz with rfl|hz
      · omega
      · exact hc.1 z hz
theorem srt_sorted : ∀ l : List Int,(srt l).Pairwise (·≤·)
  | []=>List.Pairwise.nil
  | x::l=>ins_sorted x _ (srt_sorted l)
theorem cnt_perm {a b : List Int} (h : a.Perm b) (n : Int) : cnt a n=cnt b n:=(h.filter _).length_eq
theorem cnt_le (l : List Int) (n : Int) : cnt l n≤l.length:=List.length_filter_le _ _
theorem cnt_cons (x : Int) (l : List Int) (n : Int) : cnt (x::l) n=(if x≤n then 1 else 0)+cnt l n:=by
  unfold cnt
  by_cases h : x≤n
  · rw [List.filter_cons_of_pos (by simpa using h),if_pos h,List.length_cons];omega
  · rw [List.filter_cons_of_neg (by simpa using h),if_neg h];omega
theorem cnt_append (a b : List Int) (n : Int) : cnt (a++b) n=cnt a n+cnt b n:=by
  unfold cnt
  rw [List.filter_append,List.length_append]
theorem cnt_all {l : List Int} {n : Int} (h : ∀ x∈l,x≤n) : cnt l n=l.length:=by
  unfold cnt
  rw [List.filter_eq_self.2 (fun x hx=>by simpa using h x hx)]
theorem cnt_none {l : List Int} {n : Int} (h : ∀ x∈l,n<x) : cnt l n=0:=by
  unfold cnt
  rw [List.filter_eq_nil_iff.2 (fun x hx=>by have:=h x hx;simp;omega)]
  rfl
theorem cnt_snoc (l : List Int) (k : Nat) (h : k<l.length) (n : Int) : cnt (l.take (k+1)) n=cnt (l.take k) n+if l[k]≤n then 1 else 0:=by
  rw [List.take_succ_eq_append_getElem h,cnt_append,cnt_cons]
  rfl
theorem sorted_le {s : List Int} (hs : s.Pairwise (·≤·)) (i j : Nat) (hij : i≤j) (hj : j<s.length) : s[i]≤s[j]:=by
  rcases Nat.lt_or_ge i j with h|h
  · exact List.pairwise_iff_getElem.1 hs i j (by omega) hj h
  · have : i=j:=by omega
    subst this
    exact Int.le_refl _
theorem cnt_rank {s : List Int} (hs : s.Pairwise (·≤·)) (k : Nat) (hk : k<s.length) : k+1≤cnt s s[k]:=by
  have e : s=s.take (k+1)++s.drop (k+1):=(List.take_append_drop _ _).symm
  have h1 : cnt (s.take (k+1)) s[k]=(s.take (k+1)).length:=cnt_all (fun x hx=>by
    obtain ⟨i,hi,rfl⟩:=List.mem_iff_getElem.1 hx
    rw [List.getElem_take]
    rw [List.length_take] at hi
    exact sorted_le hs i k (by omega) hk)
  have h2 : cnt s s[k]=cnt (s.take (k+1)) s[k]+cnt (s.drop (k+1)) s[k]:=by rw [← cnt_append,List.take_append_drop]
  rw [List.length_take] at h1
  omega
theorem rank_of_cnt {s : List Int} (hs : s.Pairwise (·≤·)) (n : Int) (m : Nat) (hm : 1≤m) (hc : m≤cnt s n) : ∃ h : m - 1<s.length,s[m - 1]≤n:=by
  have hl:=cnt_le s n
  refine ⟨by omega,?_⟩
  refine Decidable.byContradiction fun hgt=>?_
  have h2 : cnt s n=cnt (s.take (m - 1)) n+cnt (s.drop (m - 1)) n:=by rw [← cnt_append,List.take_append_drop]
  have h3 : cnt (s.drop (m - 1)) n=0:=cnt_none (fun x hx=>by
    obtain ⟨i,hi,rfl⟩:=List.mem_iff_getElem.1 hx
    rw [List.getElem_drop]
    rw [List.length_drop] at hi
    have:=sorted_le hs (m - 1) (m - 1+i) (by omega) (by omega)
    omega)
  have h4:=cnt_le (s.take (m - 1)) n
  rw [List.length_take] at h4
  omega
theorem least_spec (P : Int→Bool) : ∀ (l : List Int) (acc : Int×Bool),acc.2=true∨acc=(0,false) →
    let r:=l.foldl (lstep P) acc
    (r.2=true∧((acc.2=true∧r.1=acc.1)∨(r.1∈l∧P r.1=true))∧(acc.2=true→r.1≤acc.1)∧∀ x∈l,P x=true→r.1≤x)∨(r=(0,false)∧acc=(0,false)∧∀ x∈l,P x=false)
  | [],acc,h=>by
    rcases h with h|h
    · left;exact ⟨h,.inl ⟨h,rfl⟩,fun _=>Int.le_refl _,by simp⟩
    · right;subst h;exact ⟨rfl,rfl,by simp⟩
  | y :: l, acc, h => by
    intro r
    by_cases hy : P y=true∧(acc.2=false∨y<acc.1)
    · have hst : lstep P acc y=(y,true):=if_pos hy
      have ih:=least_spec P l (y,true) (.inl rfl)
      have hr : r=l.foldl (lstep P) (y,true):=by show l.foldl (lstep P) (lstep P acc y)=_;rw [hst]
      simp only [← hr] at ih
      rcases ih with ⟨h1,h2,h3,h4⟩|⟨_,h2,_⟩
      · left
        have hry : r.1≤y:=h3 trivial
        refine ⟨h1,.inr ?_,fun ha=>?_,fun x hx hp=>?_⟩
        · rcases h2 with ⟨_,h2⟩|⟨h2,h2'⟩
          · rw [h2];exact ⟨List.mem_cons_self ..,hy.1⟩
          · exact ⟨List.mem_cons_of_mem _ h2,h2'⟩
        · rcases hy.2 with h' | h'
          · rw [ha] at h';cases h'
          · omega
        · rcases List.mem_cons.1 hx with rfl|hx
          · exact hry
          · exact h4 x hx hp
      · cases h2
    · have hst : lstep P acc y=acc:=if_neg hy
      have ih:=least_spec P l acc h
      have hr : r=l.foldl (lstep P) acc:=by show l.foldl (lstep P) (lstep P acc y)=_;rw [hst]
      simp only [← hr] at ih
      rcases ih with ⟨h1,h2,h3,h4⟩|⟨h1,h2,h3⟩
      · left
        refine ⟨h1,?_,h3,fun x hx hp=>?_⟩
        · rcases h2 with h2|⟨h2,h2'⟩
          · exact .inl h2
          · exact .inr ⟨List.mem_cons_of_mem _ h2,h2'⟩
        · rcases List.mem_cons.1 hx with rfl|hx
          · rcases h with ha|ha
            · have:=h3 ha
              have hn : ¬ x<acc.1:=fun hlt=>hy ⟨hp,.inr hlt⟩
              omega
            · subst ha
              exact absurd ⟨hp,.inl rfl⟩ hy
          · exact h4 x hx hp
      · right
        refine ⟨h1,h2,fun x hx=>?_⟩
        rcases List.mem_cons.1 hx with rfl|hx
        · cases hp : P x with
          | false=>rfl
          | true=>exact absurd ⟨hp,.inl (by rw [h2])⟩ hy
        · exact h3 x hx
theorem least_rank (l : List Int) (m : Nat) (hm : 1≤m) : least (fun x=>decide (m≤cnt l x)) l=if h : m - 1<(srt l).length then ((srt l)[m - 1],true) else (0,false):=by
  have hs:=srt_sorted l
  have hc : ∀ n,cnt l n=cnt (srt l) n:=fun n=>(cnt_perm (srt_perm l) n).symm
  rcases least_spec (fun x=>decide (m≤cnt l x)) l (0,false) (.inr rfl) with ⟨h1,h2,_,h4⟩|⟨h1,_,h3⟩
  · have h2' : (least (fun x=>decide (m≤cnt l x)) l).1∈l∧m≤cnt l (least (fun x=>decide (m≤cnt l x)) l).1:=by
      rcases h2 with ⟨h,_⟩|⟨ha,hb⟩
      · cases h
      · exact ⟨ha,of_decide_eq_true hb⟩
    have h2c:=h2'.2
    rw [hc] at h2c
    obtain ⟨hlt,hle⟩:=rank_of_cnt hs _ m hm h2c
    rw [dif_pos hlt]
    have hr:=cnt_rank hs (m - 1) hlt
    have h5:=h4 (srt l)[m - 1] ((srt_mem _ _).1 (List.getElem_mem hlt)) (by rw [hc];simp;omega)
    have e : (least (fun x=>decide (m≤cnt l x)) l).1=(srt l)[m - 1]:=Int.le_antisymm h5 hle
    exact Prod.ext e h1
  · by_cases hlt : m - 1<(srt l).length
    · have hr:=cnt_rank hs (m - 1) hlt
      have:=h3 (srt l)[m - 1] ((srt_mem _ _).1 (List.getElem_mem hlt))
      rw [hc] at this
      simp at this
      omega
    · rw [dif_neg hlt]
      exact h1
theorem least_congr (P Q : Int→Bool) (l : List Int) (h : ∀ x∈l,P x=Q x) : least P l=least Q l:=by
  have : ∀ (l : List Int) (acc : Int×Bool),(∀ x∈l,P x=Q x)→l.foldl (lstep P) acc=l.foldl (lstep Q) acc:=by
    intro l
    induction l with
    | nil=>intro acc _;rfl
    | cons y l ih =>
      intro acc h
      have e : lstep P acc y=lstep Q acc y:=by unfold lstep;rw [h y (List.mem_cons_self ..)]
      show l.foldl (lstep P) (lstep P acc y)=l.foldl (lstep Q) (lstep Q acc y)
      rw [e]
      exact ih _ (fun x hx=>h x (List.mem_cons_of_mem _ hx))
  exact this l _ h
theorem cnt_self {l : List Int} {x : Int} (h : x∈l) : 1≤cnt l x:=by
  unfold cnt
  have : x∈l.filter fun y=>decide (y≤x):=List.mem_filter.2 ⟨h,by simp⟩
  exact List.length_pos_of_mem this
def prank (n p : Nat) : Nat:=max 1 ((p*n+99) / 100)
theorem percent_rank (l : List Int) (p : Nat) : least (fun x=>decide (p*l.length≤cnt l x*100)) l=if h : prank l.length p - 1<(srt l).length then ((srt l)[prank l.length p - 1],true) else (0,false):=by
  rw [← least_rank l (prank l.length p) (by unfold prank;omega)]
  refine least_congr _ _ l (fun x hx=>?_)
  have:=cnt_self hx
  rw [decide_eq_decide]
  unfold prank
  omega
theorem sorted_eq : ∀ {a b : List Int},a.Pairwise (·≤·)→b.Pairwise (·≤·)→a.Perm b→a=b
  | [],b,_,_,h=>(List.nil_perm.1 h).symm
  | x::a,b,ha,hb,h=>by
    cases b with
    | nil=>exact absurd (List.perm_nil.1 h) (by simp)
    | cons y b =>
      have hax:=List.pairwise_cons.1 ha
      have hby:=List.pairwise_cons.1 hb
      have hxy : x=y:=by
        have h1 : x∈y::b:=h.mem_iff.1 (List.mem_cons_self ..)
        have h2 : y∈x::a:=h.mem_iff.2 (List.mem_cons_self ..)
        rcases List.mem_cons.1 h1 with e|h1
        · exact e
        · rcases List.mem_cons.1 h2 with e|h2
          · exact e.symm
          · exact Int.le_antisymm (hax.1 y h2) (hby.1 x h1)
      subst hxy
      rw [sorted_eq hax.2 hby.2 ((List.perm_cons x).1 h)]
end PHist
open Go.ChangeShapes Go.WideShapes Go.ChangeAt Go.RowKit
theorem Sl.over {B : Nat} {w : World} {size g off n cap : Nat} {xs : List Value} (h : Sl B w size (.slice (some ⟨g,off,none⟩) n cap) n xs) (p : Nat) (news : List Value) (hp : p+news.length≤n*size) :
    Sl B (w.setCells g (off+p) news) size (.slice (some ⟨g,off,none⟩) n cap) n (xs.take p++news++xs.drop (p+news.length)):=by
  have hl:=h.1
  have hu:=upd_setCells g (off+p) news w
  refine ⟨by simp only [List.length_append,List.length_take,List.length_drop];omega,.inr ?_⟩
  rcases h.2 with ⟨h0,_⟩|⟨g',off',cap',e0,hb,hg,hn,hm,h3,h4⟩
  · cases h0
  · cases e0
    have hsm : n*size≤cap*size:=Nat.mul_le_mul_right _ hn
    refine ⟨g,off,cap,rfl,hb,Nat.lt_of_lt_of_le hg hu.size,hn,hm,fun j hj=>?_,fun j hj=>⟨?_,by rw [frozen_setCells];exact (h4 j hj).2⟩⟩
    · by_cases h1 : j<p
      · rw [World.cell?_setCells_out g news _ w _ (fun _ _=>.inl (by simp;omega)),h3 j hj,List.append_assoc,List.getElem?_append_left (by simp;omega),List.getElem?_take_of_lt h1]
      · by_cases h2 : j<p+news.length
        · have:=cell_setCells_in g news (off+p) w (fun i' hi'=>by rw [Nat.add_assoc];exact (h4 _ (by omega)).1) (j - p) (by omega)
          rw [show off+p+(j - p)=off+j by omega] at this
          rw [this,List.append_assoc,List.getElem?_append_right (by simp;omega),List.length_take,Nat.min_eq_left (by omega),List.getElem?_append_left (by omega)]
        · rw [World.cell?_setCells_out g news _ w _ (fun _ _=>by simp;omega),h3 j hj,List.append_assoc,List.getElem?_append_right (by simp;omega),List.length_take,Nat.min_eq_left (by omega),List.getElem?_append_right (by omega),List.getElem?_drop]
          congr 1
          omega
    · by_cases hjo : p≤j∧j<p+news.length
      · have:=cell_setCells_in g news (off+p) w (fun i' hi'=>by rw [Nat.add_assoc];exact (h4 _ (by omega)).1) (j - p) (by omega)
        rw [show off+p+(j - p)=off+j by omega] at this
        rw [this,List.getElem?_eq_getElem (by omega)]
        rfl
      · rw [World.cell?_setCells_out g news _ w _ (fun _ _=>by simp;omega)]
        exact (h4 j hj).1
theorem Sl.put {B : Nat} {w : World} {size g off n cap : Nat} {xs : List Value} (h : Sl B w size (.slice (some ⟨g,off,none⟩) n cap) n xs) (p : Nat) (u : Value) (hp : p<n*size) :
    Sl B (w.setCell ⟨g,off+p,none⟩ u) size (.slice (some ⟨g,off,none⟩) n cap) n (xs.set p u):=by
  have:=h.over p [u] (by simp;omega)
  have hl:=h.1
  have e : xs.take p++[u]++xs.drop (p+1)=xs.set p u:=by
    rw [List.set_eq_take_append_cons_drop,if_pos (by omega)]
    simp
  rw [← e]
  exact this
theorem Sl.wide {B : Nat} {w : World} {size g off n cap : Nat} {xs : List Value} (h : Sl B w size (.slice (some ⟨g,off,none⟩) n cap) n xs) (k : Nat) (hk : n+k≤cap) : ∃ ys : List Value,ys.length=k*size∧Sl B w size (.slice (some ⟨g,off,none⟩) (n+k) cap) (n+k) (xs++ys):=by
  have hl:=h.1
  rcases h.2 with ⟨h0,_⟩|⟨g',off',cap',e0,hb,hg,hn,hm,h3,h4⟩
  · cases h0
  · cases e0
    have hle : (n+k)*size≤cap*size:=Nat.mul_le_mul_right _ hk
    rw [Nat.add_mul] at hle
    obtain ⟨ys,hy1,hy2⟩:=list_of_fun (n:=k*size) (p:=fun j (y : Value)=>w.cell? ⟨g,off+(n*size+j),none⟩=some y) (fun j hj=>Option.isSome_iff_exists.1 (h4 _ (by omega)).1)
    refine ⟨ys,hy1,by rw [List.length_append,hl,hy1,Nat.add_mul],.inr ⟨g,off,cap,rfl,hb,hg,hk,hm,fun j hj=>?_,h4⟩⟩
    rw [Nat.add_mul] at hj
    by_cases h1 : j<n*size
    · rw [List.getElem?_append_left (by omega)]
      exact h3 j h1
    · rw [List.getElem?_append_right (by omega),hl]
      have:=hy2 (j - n*size) (ys[j - n*size]'(by omega)) (List.getElem?_eq_getElem (by omega))
      rw [show n*size+(j - n*size)=j by omega] at this
      rw [this,List.getElem?_eq_getElem (by omega)]
theorem Sl.head {B : Nat} {w : World} {size g off n cap : Nat} {xs : List Value} (h : Sl B w size (.slice (some ⟨g,off,none⟩) n cap) n xs) (k : Nat) (hk : k≤n) : Sl B w size (.slice (some ⟨g,off,none⟩) k cap) k (xs.take (k*size)):=by
  have hl:=h.1
  have hle : k*size≤n*size:=Nat.mul_le_mul_right _ hk
  rcases h.2 with ⟨h0,_⟩|⟨g',off',cap',e0,hb,hg,hn,hm,h3,h4⟩
  · cases h0
  · cases e0
    exact ⟨by rw [List.length_take];omega,.inr ⟨g,off,cap,rfl,hb,hg,by omega,hm,fun j hj=>by rw [List.getElem?_take_of_lt hj];exact h3 j (by omega),h4⟩⟩
section
variable {P : Program}
theorem run_copy_cellsN (w : World) (dT sT ty elem : TypeId) (b o dLen dCap : Nat) (a : Addr) (sLen sCap s m : Nat) (cs : List Value)
    (hu : P.underlying dT=some (.slice elem)) (hs : (P.info? elem).map (·.size)=some s) (hm : m=Nat.min sLen dLen) (hn : cs.length=m*s)
    (hsrc : ∀ j v,cs[j]? = some v→w.cell? (a.add j)=some v) (hc : ∀ j,j<cs.length→(w.cell? ⟨b,o+j,none⟩).isSome=true) (hf : ∀ j,j<cs.length→w.frozen? ⟨b,o+j,none⟩=false) (h1 : ∀ v∈cs,v.oneCell'=true) :
    (Builtin.copy_ #[dT,sT] ty #[.slice (some ⟨b,o,none⟩) dLen dCap,.slice (some a) sLen sCap]).run P w = .ok (goInt m) (w.setCells b o cs):=by
  have hl:=run_loadCells_list (P:=P) w a cs hsrc
  have hst:=run_storeCells_cells (P:=P) b o cs 0 w (by simpa using hc) (by simpa using hf) h1
  cases hq : P.info? elem with
  | none=>simp [hq] at hs
  | some i =>
    have hi : i.size=s:=by simpa [hq] using hs
    rw [hn] at hl
    simp [Builtin.copy_,run_underlying hu,Builtin.lenOf,Builtin.firstCells,sizeOf,typeInfo,hq,hi,← hm,hl,hst]
theorem run_copy_over {B : Nat} {w : World} {size g off n cap : Nat} {xs : List Value} (h : Sl B w size (.slice (some ⟨g,off,none⟩) n cap) n xs) (dT sT ty elem : TypeId) (o dLen dCap p m : Nat) (a : Addr) (sLen sCap : Nat) (cs : List Value)
    (hu : P.underlying dT=some (.slice elem)) (hs : (P.info? elem).map (·.size)=some size) (ho : o=off+p) (hm : m=Nat.min sLen dLen) (hn : cs.length=m*size) (hp : p+cs.length≤n*size)
    (hsrc : ∀ j v,cs[j]? = some v→w.cell? (a.add j)=some v) (h1 : ∀ v∈cs,v.oneCell'=true) :
    (Builtin.copy_ #[dT,sT] ty #[.slice (some ⟨g,o,none⟩) dLen dCap,.slice (some a) sLen sCap]).run P w = .ok (goInt m) (w.setCells g o cs):=by
  subst ho
  rcases h.2 with ⟨h0,_⟩|⟨g',off',cap',e0,hb,hg,hn',hm',h3,h4⟩
  · cases h0
  · cases e0
    have hsm : n*size≤cap*size:=Nat.mul_le_mul_right _ hn'
    exact run_copy_cellsN w dT sT ty elem g (off+p) dLen dCap a sLen sCap size m cs hu hs hm hn hsrc (fun j hj=>by rw [Nat.add_assoc];exact (h4 _ (by omega)).1) (fun j hj=>by rw [Nat.add_assoc];exact (h4 _ (by omega)).2) h1
theorem Sl.reads {B : Nat} {w : World} {size g off n cap : Nat} {xs : List Value} (h : Sl B w size (.slice (some ⟨g,off,none⟩) n cap) n xs) (p o : Nat) (ho : o=off+p) : ∀ j v,(xs.drop p)[j]? = some v→w.cell? ((Addr.mk g o none).add j)=some v:=by
  intro j v hj
  subst ho
  rw [List.getElem?_drop] at hj
  have hl:=h.1
  have:=(List.getElem?_eq_some_iff.1 hj).1
  rcases h.2 with ⟨h0,_⟩|⟨g',off',cap',e0,hb,hg,hn',hm',h3,h4⟩
  · cases h0
  · cases e0
    rw [Addr.add_lit,← hj,Nat.add_assoc]
    exact h3 _ (by omega)
end
abbrev NR:=Int×Nat
def hv : List NR→List Value
  | []=>[]
  | r::rs=>.int .i64 r.1 :: .int .i64 (r.2 : Int)::hv rs
theorem hv_len : ∀ rs : List NR,(hv rs).length=rs.length*2
  | []=>rfl
  | r::rs=>by show (hv rs).length+1+1=(rs.length+1)*2;rw [hv_len rs];omega
theorem hv_append : ∀ a b : List NR,hv (a++b)=hv a++hv b
  | [],_=>rfl
  | r::a,b=>by show _::_::hv (a++b)=_;rw [hv_append a b];rfl
theorem hv_take : ∀ (rs : List NR) (i : Nat),(hv rs).take (i*2)=hv (rs.take i)
  | [],i=>by cases i <;> simp [hv]
  | r::rs,0=>by simp [hv]
  | r::rs,i+1=>by
    rw [show (i+1)*2=i*2+1+1 by omega]
    show ((.int .i64 r.1 :: .int .i64 (r.2 : Int)::hv rs) : List Value).take (i*2+1+1)=hv (r::rs.take i)
    rw [List.take_succ_cons,List.take_succ_cons,hv_take rs i]
    rfl
theorem hv_drop : ∀ (rs : List NR) (i : Nat),(hv rs).drop (i*2)=hv (rs.drop i)
  | [],i=>by cases i <;> simp [hv]
  | r::rs,0=>by simp [hv]
  | r::rs,i+1=>by
    rw [show (i+1)*2=i*2+1+1 by omega]
    show ((.int .i64 r.1 :: .int .i64 (r.2 : Int)::hv rs) : List Value).drop (i*2+1+1)=hv (rs.drop i)
    rw [List.drop_succ_cons,List.drop_succ_cons,hv_drop rs i]
theorem hv_at : ∀ (rs : List NR) (i : Nat) (h : i<rs.length),(hv rs)[i*2]? = some (.int .i64 rs[i].1)∧(hv rs)[i*2+1]? = some (.int .i64 (rs[i].2 : Int))
  | r::rs,0,_=>⟨rfl,rfl⟩
  | r::rs,i+1,h=>by
    have:=hv_at rs i (by simpa using h)
    rw [show (i+1)*2=i*2+1+1 by omega]
    exact this
theorem hv_set : ∀ (rs : List NR) (i : Nat) (h : i<rs.length) (t : Nat),(hv rs).set (i*2+1) (.int .i64 (t : Int))=hv (rs.set i (rs[i].1,t))
  | r::rs,0,_,t=>rfl
  | r::rs,i+1,h,t=>by
    have:=hv_set rs i (by simpa using h) t
    rw [show (i+1)*2+1=i*2+1+1+1 by omega]
    show (.int .i64 r.1 :: .int .i64 (r.2 : Int)::(hv rs).set (i*2+1) _ : List Value)=_
    rw [this]
    rfl
theorem hv_one : ∀ (rs : List NR),∀ u∈hv rs,u.oneCell'=true
  | [],u,h=>by cases h
  | r::rs,u,h=>by
    have h' : u = .int .i64 r.1∨u = .int .i64 (r.2 : Int)∨u∈hv rs:=by simpa [hv] using h
    rcases h' with rfl|rfl|h'
    · rfl
    · rfl
    · exact hv_one rs u h'
structure HistC (w : World) (F : Nat→Prop) (g : Nat) (v : Value) (m : Nat) (rs : List NR) : Prop where
  at_ : At w g [v,.int .i64 m]
  sl : Sl 0 w 2 v rs.length (hv rs)
  own : F g∧(∀ k,F k→k<w.heap.size)∧∀ k,v.ownBlock=some k→F k∧k≠g
def Place (rs : List NR) (n : Int) (i : Nat) : Prop:=i≤rs.length∧(∀ t (h : t<rs.length),t<i→rs[t].1<n)∧∀ t (h : t<rs.length),i≤t→n≤rs[t].1
theorem info_row : (Tryz.prog.info? 367).map (fun i=>(i.zero,i.size,i.bytes))=some (some (.agg #[.int .i64 0,.int .i64 0]),2,16):=by kernel_rfl
theorem row_size : (Tryz.prog.info? 367).map (·.size)=some 2:=by kernel_rfl
theorem row_sizeOf (w : World) : (Go.sizeOf 367).run Tryz.prog w = .ok 2 w:=by kernel_rfl
theorem cells_in (rs : List NR) (i : Nat) (n : Int) (Z : List Value) (hZ1 : Z.length=(rs.length+1)*2) (hZ2 : Z.take (i*2)=hv (rs.take i)) (hi : i≤rs.length) :
    ((Z.take (i*2)++[Value.int .i64 n,Value.int .i64 0]++Z.drop (i*2+2)).take ((i+1)*2)++(hv rs).drop (i*2)++(Z.take (i*2)++[Value.int .i64 n,Value.int .i64 0]++Z.drop (i*2+2)).drop ((i+1)*2+(rs.length - i)*2))=hv (rs.take i++(n,0)::rs.drop i):=by
  have hlt : (hv (rs.take i)++[Value.int .i64 n,Value.int .i64 0]).length=(i+1)*2:=by rw [List.length_append,hv_len,List.length_take];simp only [List.length_cons,List.length_nil];omega
  have hd : (hv (rs.take i)++[Value.int .i64 n,Value.int .i64 0]++Z.drop (i*2+2)).drop ((i+1)*2+(rs.length - i)*2)=[]:=List.drop_of_length_le (by rw [List.length_append,hlt,List.length_drop,hZ1];omega)
  rw [hZ2,hd,List.take_left' hlt,List.append_nil,hv_append,hv_drop,List.append_assoc]
  rfl
theorem cells_in2 (rs : List NR) (i : Nat) (n : Int) (ys : List Value) (hy : ys.length=2) (hi : i≤rs.length) :
    (((hv rs++ys).take ((i+1)*2)++(hv rs).drop (i*2)++(hv rs++ys).drop ((i+1)*2+(rs.length - i)*2)).take (i*2)++[Value.int .i64 n,Value.int .i64 0]++((hv rs++ys).take ((i+1)*2)++(hv rs).drop (i*2)++(hv rs++ys).drop ((i+1)*2+(rs.length - i)*2)).drop (i*2+2))=hv (rs.take i++(n,0)::rs.drop i):=by
  have hl:=hv_len rs
  have h0 : (hv rs++ys).length=rs.length*2+2:=by rw [List.length_append,hl,hy]
  have h1 : ((hv rs++ys).take ((i+1)*2)).length=i*2+2:=by rw [List.length_take,h0];omega
  rw [List.drop_of_length_le (show (hv rs++ys).length≤(i+1)*2+(rs.length - i)*2 by rw [h0];omega),List.append_nil,List.drop_left' h1,List.take_append_of_le_length (by rw [h1];omega),List.take_take,Nat.min_eq_left (by omega),List.take_append_of_le_length (by omega),hv_take,hv_drop,hv_append,List.append_assoc]
  rfl
def InsPost (v : Value) (rs : List NR) (w : World) (v' : Value) (w' : World) : Prop:=Sl 0 w' 2 v' rs.length (hv rs)∧Upd (fun k=>v.ownBlock=some k) w w'∧∀ k,v'.ownBlock=some k→v.ownBlock=some k∨w.heap.size≤k
theorem src_row (n : Int) (vb : Nat) (w : World) (hvb : At w vb [.int .i64 n,.int .i64 0]) : Src Tryz.prog 2 283 (.slice (some ⟨vb,0,none⟩) 1 1) 1 [.int .i64 n,.int .i64 0] w:=by
  obtain ⟨_,c0,_,c1,_⟩:=hvb.two
  refine Src.ofSlice w Tryz.underlying283 ⟨vb,0,none⟩ 1 1 _ rfl (fun j u hu=>?_) (fun u hu=>?_)
  · match j,hu with
    | 0,hu=>simp at hu;subst hu;exact c0
    | 1,hu=>simp at hu;subst hu;exact c1
  · simp at hu
    rcases hu with rfl|rfl <;> rfl
theorem ins_end (v : Value) (rs : List NR) (n : Int) (vb : Nat) (w : World) (h : Sl 0 w 2 v rs.length (hv rs)) (hvb : At w vb [.int .i64 n,.int .i64 0]) (hm : rs.length≤1000) :
    Calls Tryz.prog 319 #[v,.int .i64 rs.length,.slice (some ⟨vb,0,none⟩) 1 1] w fun e w'=>∃ v',e = .returned v'∧InsPost v (rs++[(n,0)]) w v' w':=by
  obtain ⟨a,c,rfl⟩:=h.shape
  obtain ⟨i0,hi0,hz0,hz1,hz2⟩:=info_parts info_row
  have hs:=src_row n vb w hvb
  have hlen:=h.len
  rcases Decidable.em (c=rs.length) with rfl|hcn
  all_goals (
    go_enter Tryz.func319,Tryz.ntmps319
    go_wp2_with (at_builtin;refine wpList_append_sl (v:=.slice a rs.length _) _ rfl (.tmp 23) (.tmp 24) 283 283 rfl 367 i0 _ 16 Tryz.underlying283 hi0 hz0 hz1 hz2 rfl rfl h _ 1 _ rfl hs (by unfold maxLen;omega) (by omega) (by omega) ?_;intro v1 w1 k1 k2 k3)
    go_ret
    exact ⟨_,rfl,by rw [hv_append,List.length_append];exact k1,k2,k3⟩)
theorem ins_room (g off c : Nat) (rs : List NR) (i : Nat) (n : Int) (vb : Nat) (w : World) (h : Sl 0 w 2 (.slice (some ⟨g,off,none⟩) rs.length c) rs.length (hv rs)) (hvb : At w vb [.int .i64 n,.int .i64 0]) (hne : vb≠g) (hi : i<rs.length) (hroom : rs.length+1≤c) (hm : rs.length≤1000)
    (hheap : w.heap[vb]? = some (.cells #[.int .i64 n,.int .i64 0] 367 (0,0))) :
    Calls Tryz.prog 319 #[.slice (some ⟨g,off,none⟩) rs.length c,.int .i64 i,.slice (some ⟨vb,0,none⟩) 1 1] w fun e w'=>∃ v',e = .returned v'∧InsPost (.slice (some ⟨g,off,none⟩) rs.length c) (rs.take i++(n,0)::rs.drop i) w v' w':=by
  have hsa : w.shape? vb=some (367,2):=by simp [World.shape?,hheap]
  obtain ⟨tB,kB,hsb,hkB⟩ : ∃ tB kB,w.shape? g=some (tB,kB)∧kB≠0:=by
    obtain ⟨u,hu⟩ : ∃ u,w.cell? ⟨g,off,none⟩=some u:=⟨_,h.reads 0 off rfl 0 _ (List.getElem?_eq_getElem (by simp [hv_len];omega))⟩
    unfold World.cell? at hu
    simp only [World.shape?]
    split at hu
    · rename_i cs e fz hg
      rw [hg]
      refine ⟨_,_,rfl,?_⟩
      intro h0
      simp [Array.getElem?_eq_none (show cs.size≤off by omega)] at hu
    · cases hu
  have hfa : w.frozen? ⟨vb,0,none⟩=false:=by simp [World.frozen?,hheap]
  have hfe : w.frozen? ⟨vb,2,none⟩=false:=by simp [World.frozen?,hheap]
  have hov : ∀ o lb cb,(callFunc 322 #[.slice (some ⟨vb,0,none⟩) 1 1,.slice (some ⟨g,o,none⟩) lb cb]).run Tryz.prog w = .ok (.value (.bool false)) w:=fun o lb cb=>by
    rw [run_callFunc_extern Tryz.func322 (by kernel_rfl) (by kernel_rfl) (by kernel_rfl) (e:=Extern.SlicesOverlaps.overlaps #[283,283] #[4]) (by kernel_rfl),
      Lib.run_overlaps_apart w 283 4 367 Tryz.underlying283 2 row_sizeOf ⟨vb,0,none⟩ ⟨g,o,none⟩ 1 1 lb cb hne _ tB 2 kB hsa hsb hkB hfa hfe]
    rfl
  have h1 : (i : Int)≤(rs.length : Int):=by omega
  have h2 : ¬ ((i : Int)=(rs.length : Int)):=by omega
  obtain ⟨ys,hys,hw⟩:=(h.drewN 1).wide 1 hroom
  have hl:=hv_len rs
  have hdl : ((hv rs).drop (i*2)).length=(rs.length - i)*2:=by rw [List.length_drop,hl];omega
  obtain ⟨W1,hW1⟩ : ∃ W1,W1=(w.drewN 1).setCells g (off+(i+1)*2) ((hv rs).drop (i*2)):=⟨_,rfl⟩
  have cp1 : ∀ ty dc sc,(Builtin.copy_ #[283,283] ty #[.slice (some ⟨g,off+(i+1)*2,none⟩) (rs.length - i) dc,.slice (some ⟨g,off+i*2,none⟩) (rs.length+1 - i) sc]).run Tryz.prog w.drew = .ok (goInt ((rs.length - i : Nat) : Int)) W1:=fun ty dc sc=>by
    rw [hW1]
    exact run_copy_over hw _ _ ty 367 _ (rs.length - i) dc ((i+1)*2) (rs.length - i) _ (rs.length+1 - i) sc _ Tryz.underlying283 row_size rfl (by simp only [Nat.min_def];split <;> omega) hdl (by omega) (fun j v hj=>(h.drewN 1).reads (i*2) _ rfl j v hj) (fun u hu=>hv_one rs u (List.mem_of_mem_drop hu))
  have hs1:=hw.over ((i+1)*2) ((hv rs).drop (i*2)) (by rw [hdl];omega)
  rw [← hW1] at hs1
  have hu1 : Upd (fun k=>k=g) w W1:=by rw [hW1];exact ((upd_drewN w 1).cat (S:=fun k=>k=g) (upd_setCells _ _ _ _) (fun _ _ h=>h.elim) (fun _ _ h=>h))
  have hvb1:=hvb.upd hu1 (by exact hne)
  obtain ⟨W2,hW2⟩ : ∃ W2,W2=W1.setCells g (off+i*2) [.int .i64 n,.int .i64 0]:=⟨_,rfl⟩
  have cp2 : ∀ ty dc,(Builtin.copy_ #[283,283] ty #[.slice (some ⟨g,off+i*2,none⟩) (rs.length+1 - i) dc,.slice (some ⟨vb,0,none⟩) 1 1]).run Tryz.prog W1 = .ok (goInt 1) W2:=fun ty dc=>by
    rw [hW2]
    obtain ⟨_,d0,_,d1,_⟩:=hvb1.two
    exact run_copy_over hs1 _ _ ty 367 _ (rs.length+1 - i) dc (i*2) 1 _ 1 1 _ Tryz.underlying283 row_size rfl (by simp only [Nat.min_def];split <;> omega) rfl (by simp;omega) (fun j v hj=>by
      match j,hj with
      | 0,hj=>simp at hj;subst hj;exact d0
      | 1,hj=>simp at hj;subst hj;exact d1) (fun u hu=>by simp at hu;rcases hu with rfl|rfl <;> rfl)
  have hs2:=hs1.over (i*2) [.int .i64 n,.int .i64 0] (by simp;omega)
  rw [← hW2] at hs2
  have hu2 : Upd (fun k=>k=g) W1 W2:=by rw [hW2];exact upd_setCells _ _ _ _
  have hfin : InsPost (.slice (some ⟨g,off,none⟩) rs.length c) (rs.take i++(n,0)::rs.drop i) w (.slice (some ⟨g,off,none⟩) (rs.length+1) c) W2:=by
    refine ⟨?_,?_,fun k hk=>.inl hk⟩
    · rw [hdl] at hs2
      simp only [List.length_cons,List.length_nil] at hs2
      rw [cells_in2 rs i n ys hys (by omega)] at hs2
      rw [show (rs.take i++(n,0)::rs.drop i).length=rs.length+1 by simp;omega]
      exact hs2
    · exact hu1.cat hu2 (fun k _ hk=>by subst hk;rfl) (fun k _ hk=>by subst hk;rfl)
  have HF:=Lib.hid hfin
  have hb1 : (0 : Int)≤(i : Int)+1:=by omega
  have hwr : IntKind.i64.wrap ((i : Int)+1)=(i : Int)+1:=by rw [IntKind.wrap_i64];omega
  have hin : i≤rs.length:=by omega
  have htn : ((i : Int)+1).toNat=i+1:=by omega
  have hb3 : (i : Int)≤(rs.length : Int)+1:=by omega
  have hci : ¬ (c=i):=by omega
  have hci1 : ¬ (c=i+1):=by omega
  clear hfin hs2 hu2 hW2 hvb1 hu1 hs1 hW1 hdl hl hw hys
  go_enter Tryz.func319,Tryz.ntmps319
  go_wp2_with (simp only [hov])
  go_region_law (refine step_copy_run rfl _ _ 283 283 rfl _ _ (by simp [Act.eval,Act.put]) (by simp [Act.eval,Act.put]) (cp1 _ _ _) ?_)
  all_goals (go_wp2_with (at_builtin;refine wpList_copy_run _ rfl (.tmp 80) (.tmp 81) 283 283 rfl _ _ rfl rfl (cp2 _ _) ?_))
  all_goals (go_ret;exact ⟨_,rfl,HF.out⟩)
theorem ins_grow (g off c : Nat) (rs : List NR) (i : Nat) (n : Int) (vb : Nat) (w : World) (h : Sl 0 w 2 (.slice (some ⟨g,off,none⟩) rs.length c) rs.length (hv rs)) (hvb : At w vb [.int .i64 n,.int .i64 0]) (hi : i<rs.length) (hroom : c<rs.length+1) (hm : rs.length≤1000) :
    Calls Tryz.prog 319 #[.slice (some ⟨g,off,none⟩) rs.length c,.int .i64 i,.slice (some ⟨vb,0,none⟩) 1 1] w fun e w'=>∃ v',e = .returned v'∧InsPost (.slice (some ⟨g,off,none⟩) rs.length c) (rs.take i++(n,0)::rs.drop i) w v' w':=by
  have h1 : (i : Int)≤(rs.length : Int):=by omega
  have h2 : ¬ ((i : Int)=(rs.length : Int)):=by omega
  have hnc : rs.length≤c:=by
    rcases h.2 with ⟨h0,_⟩|⟨g',off',cap',e0,hb,hg,hn,hm',h3,h4⟩
    · cases h0
    · cases e0;exact hn
  obtain ⟨i0,hi0,hz0,hz1,hz2⟩:=info_parts info_row
  have hkk : (rs.length : Int)+1 - (i : Int)=((rs.length+1 - i : Nat) : Int):=by omega
  have hik : i+(rs.length+1 - i)=rs.length+1:=by omega
  have hold : (Builtin.firstCells i0.size i (.slice (some ⟨g,off,none⟩) i c)).run Tryz.prog w.drew = .ok (hv (rs.take i)).toArray w.drew:=by
    rw [hz1]
    have hh:=(h.head i (by omega)).drewN 1
    rw [hv_take] at hh
    refine run_firstCells_some w.drew 2 i ⟨g,off,none⟩ i c (hv (rs.take i)) (by rw [hv_len,List.length_take];omega) (fun j v hj=>?_)
    exact hh.reads 0 off rfl j v hj
  have hrz : ∀ ty,(Builtin.append_ #[283,3] ty #[.slice (some ⟨g,off,none⟩) i c,.int .i64 ((rs.length : Int)+1 - (i : Int))]).run Tryz.prog w =
      .ok (.slice (some ⟨w.heap.size,0,none⟩) (rs.length+1) (grownCap w (rs.length+1) c 367)) (w.drew.alloc (.cells ((hv (rs.take i)).toArray++Builtin.zeroCells (Value.agg #[.int .i64 0,.int .i64 0]).cells (rs.length+1 - i)++Builtin.zeroCells (Value.agg #[.int .i64 0,.int .i64 0]).cells (grownCap w (rs.length+1) c 367 - (rs.length+1))) 367)):=fun ty=>by
    have hh:=Lib.run_append_grow_zeros w 283 3 ty 367 i0 _ .i64 .i64 Tryz.underlying283 Tryz.underlying3 hi0 hz0 (some ⟨g,off,none⟩) i c (hv (rs.take i)) hold (rs.length+1 - i) (by omega) (by omega) (by omega) (by omega) (by rw [hz2];omega) (by rw [hz2,hik];exact growslice_fits hroom (by omega))
    rw [hik] at hh
    rw [hkk]
    exact hh
  obtain ⟨G,hG⟩ : ∃ G,G=grownCap w (rs.length+1) c 367:=⟨_,rfl⟩
  obtain ⟨ROW,hROW⟩ : ∃ ROW : Array Value,ROW=(hv (rs.take i)).toArray++Builtin.zeroCells (Value.agg #[.int .i64 0,.int .i64 0]).cells (rs.length+1 - i)++Builtin.zeroCells (Value.agg #[.int .i64 0,.int .i64 0]).cells (G - (rs.length+1)):=⟨_,rfl⟩
  rw [← hG] at hrz
  rw [← hROW] at hrz
  obtain ⟨W1,hW1⟩ : ∃ W1,W1=w.drew.alloc (.cells ROW 367):=⟨_,rfl⟩
  rw [← hW1] at hrz
  have hl:=hv_len rs
  have hG1 : rs.length+1≤G:=by rw [hG];exact grownCap_ge w _ _ _
  have hG2 : G≤maxLen:=by rw [hG];exact grownCap_le_maxLen w _ _ _ (by unfold maxLen;omega)
  have hu1 : Upd (fun _=>False) w W1:=by rw [hW1];exact ((Upd.refl _ w).drew).alloc _
  have hzs : (Value.agg #[.int .i64 0,.int .i64 0]).cells.size=2:=rfl
  have hs1 : ∃ Z,Z.length=(rs.length+1)*2∧Z.take (i*2)=hv (rs.take i)∧Sl w.heap.size W1 2 (.slice (some ⟨w.heap.size,0,none⟩) (rs.length+1) G) (rs.length+1) Z:=by
    have hRs : G*2≤ROW.size:=by rw [hROW];simp only [Array.size_append,List.size_toArray,size_zeroCells,hzs,hv_len,List.length_take];omega
    have:=Sl.made (B:=w.heap.size) w.drew ROW 367 2 (rs.length+1) G (Nat.le_refl _) hG1 hG2 hRs
    refine ⟨_,this.1,?_,by rw [hW1];exact this⟩
    rw [List.take_take,Nat.min_eq_left (by omega),hROW,Array.toList_append,Array.toList_append,List.append_assoc]
    exact List.take_left' (by rw [hv_len,List.length_take];omega)
  obtain ⟨Z,hZ1,hZ2,hs1⟩:=hs1
  have hsv:=src_row n vb W1 (hvb.upd hu1 id)
  have hvb1:=hvb.upd hu1 id
  obtain ⟨W2,hW2⟩ : ∃ W2,W2=W1.setCells w.heap.size (0+i*2) [.int .i64 n,.int .i64 0]:=⟨_,rfl⟩
  have cpA : ∀ ty dc,(Builtin.copy_ #[283,283] ty #[.slice (some ⟨w.heap.size,i*2,none⟩) (rs.length+1 - i) dc,.slice (some ⟨vb,0,none⟩) 1 1]).run Tryz.prog W1 = .ok (goInt 1) W2:=fun ty dc=>by
    rw [hW2,Nat.zero_add]
    obtain ⟨_,d0,_,d1,_⟩:=hvb1.two
    exact run_copy_over hs1 _ _ ty 367 _ (rs.length+1 - i) dc (i*2) 1 _ 1 1 _ Tryz.underlying283 row_size (by omega) (by simp only [Nat.min_def];split <;> omega) rfl (by simp;omega) (fun j v hj=>by
      match j,hj with
      | 0,hj=>simp at hj;subst hj;exact d0
      | 1,hj=>simp at hj;subst hj;exact d1) (fun u hu=>by simp at hu;rcases hu with rfl|rfl <;> rfl)
  have hs2:=hs1.over (i*2) [.int .i64 n,.int .i64 0] (by simp;omega)
  rw [← hW2] at hs2
  have hu2 : Upd (fun k=>k=w.heap.size) W1 W2:=by rw [hW2];exact upd_setCells _ _ _ _
  have hgl : g<w.heap.size:=(h.lt g rfl).2
  have hd2 : Sl 0 W2 2 (.slice (some ⟨g,off,none⟩) rs.length c) rs.length (hv rs):=(h.upd hu1 (fun _ _ h=>h)).upd hu2 (fun k hk e=>by
    have : g=k:=by simpa [Value.ownBlock] using hk
    omega)
  have hdl : ((hv rs).drop (i*2)).length=(rs.length - i)*2:=by rw [List.length_drop,hl];omega
  obtain ⟨W4,hW4⟩ : ∃ W4,W4=W2.drew.setCells w.heap.size (0+(i+1)*2) ((hv rs).drop (i*2)):=⟨_,rfl⟩
  have cpB : ∀ ty dc sc,(Builtin.copy_ #[283,283] ty #[.slice (some ⟨w.heap.size,(i+1)*2,none⟩) (rs.length - i) dc,.slice (some ⟨g,off+i*2,none⟩) (rs.length - i) sc]).run Tryz.prog W2.drew = .ok (goInt ((rs.length - i : Nat) : Int)) W4:=fun ty dc sc=>by
    rw [hW4,Nat.zero_add]
    exact run_copy_over (hs2.drewN 1) _ _ ty 367 _ (rs.length - i) dc ((i+1)*2) (rs.length - i) _ (rs.length - i) sc _ Tryz.underlying283 row_size (by omega) (by simp) hdl (by omega) (fun j v hj=>(hd2.drewN 1).reads (i*2) _ rfl j v hj) (fun u hu=>hv_one rs u (List.mem_of_mem_drop hu))
  have hs4:=(hs2.drewN 1).over ((i+1)*2) ((hv rs).drop (i*2)) (by rw [hdl];omega)
  have hu4 : Upd (fun k=>k=w.heap.size) W2.drew W4:=by rw [hW4];exact upd_setCells _ _ _ _
  change Sl _ (W2.drew.setCells _ _ _) _ _ _ _ at hs4
  rw [← hW4] at hs4
  have hcells : ((Z.take (i*2)++[Value.int .i64 n,Value.int .i64 0]++Z.drop (i*2+2)).take ((i+1)*2)++(hv rs).drop (i*2)++(Z.take (i*2)++[Value.int .i64 n,Value.int .i64 0]++Z.drop (i*2+2)).drop ((i+1)*2+((hv rs).drop (i*2)).length))=hv (rs.take i++(n,0)::rs.drop i):=by
    rw [hdl]
    exact cells_in rs i n Z hZ1 hZ2 (by omega)
  have hfin : InsPost (.slice (some ⟨g,off,none⟩) rs.length c) (rs.take i++(n,0)::rs.drop i) w (.slice (some ⟨w.heap.size,0,none⟩) (rs.length+1) G) W4:=by
    refine ⟨?_,?_,fun k hk=>.inr ?_⟩
    · have:=hs4.base (Nat.zero_le _)
      simp only [List.length_cons,List.length_nil] at this
      rw [hcells] at this
      rw [show (rs.take i++(n,0)::rs.drop i).length=rs.length+1 by simp;omega]
      exact this
    · exact (((hu1.cat (S:=fun k=>w.heap.size≤k) hu2 (fun _ _ h=>h.elim) (fun k hk hk'=>by omega)).drew).cat (S:=fun k=>w.heap.size≤k) hu4 (fun _ _ h=>h) (fun k hk hk'=>by omega)).mono (fun k hk hk'=>by omega)
    · have : w.heap.size=k:=by simpa [Value.ownBlock] using hk
      omega
  have HF:=Lib.hid hfin
  have hb1 : (0 : Int)≤(i : Int)+1:=by omega
  have hwr : IntKind.i64.wrap ((i : Int)+1)=(i : Int)+1:=by rw [IntKind.wrap_i64];omega
  have hin : i≤rs.length:=by omega
  have htn : ((i : Int)+1).toNat=i+1:=by omega
  have hGi : ¬ (G=i):=by omega
  have hGi1 : ¬ (G=i+1):=by omega
  have hci : ¬ (c=i):=by omega
  clear hfin hcells hs4 hu4 hW4 hd2 hu2 hs2 hW2 hvb1 hsv hs1 hZ2 hZ1 hu1 hG hROW hW1 hold hkk hdl hl
  go_enter Tryz.func319,Tryz.ntmps319
  go_wp2_with (first|(at_builtin;refine wpList_append_run _ rfl (.tmp 34) (.tmp 39) 283 3 rfl _ _ rfl rfl (hrz _) ?_)|(at_builtin;go_loud (refine wpList_copy_run _ rfl (.tmp 43) (.tmp 44) 283 283 rfl _ _ rfl rfl (cpA _ _) ?_)))
  all_goals (go_region_law (refine step_copy_run rfl _ _ 283 283 rfl _ _ (by simp [Act.eval,Act.put]) (by simp [Act.eval,Act.put]) (cpB _ _ _) ?_))
  all_goals go_wp2
  all_goals (go_ret;exact ⟨_,rfl,HF.out⟩)
section
variable {P : Program}
theorem run_clear_two (w : World) (t e ty : TypeId) (z x y : Value) (ht : P.underlying t=some (.slice e)) (hv : ∀ w,(zeroValue e).run P w = .ok z w) (hz : z.cells = #[x,y]) (h1 : x.oneCell'=true) (h2 : y.oneCell'=true) (b o c : Nat)
    (hc : ∀ j,j<2→(w.cell? ⟨b,o+j,none⟩).isSome=true) (hf : ∀ j,j<2→w.frozen? ⟨b,o+j,none⟩=false) :
    (Builtin.clear_ #[t] ty #[.slice (some ⟨b,o,none⟩) 1 c]).run P w = .ok (.tuple #[]) (w.setCells b o [x,y]):=by
  have hzc : (Builtin.zeroCells z.cells 1).toList=[x,y]:=by
    rw [hz]
    simp [Builtin.zeroCells]
    rfl
  have hst:=run_storeCells_cells (P:=P) b o [x,y] 0 w (by simpa using hc) (by simpa using hf) (by intro v hv';simp at hv';rcases hv' with rfl|rfl <;> assumption)
  simp only [Nat.add_zero] at hst
  simp [Builtin.clear_,run_underlying ht,hv,hzc,hst]
theorem wpList_clear_run (w : World) {ops : Array Oper} {rest : List Oper} {o : Oper} {a : Act} {Q : Exit→Act→World→Prop} (hgd : o.guard=none) (s : Operand) (t : TypeId)
    (ho : o.op = .call { callee:=.builtin .clear,args:=#[s],argTypes:=#[t] }) (v : Value) (hv : a.eval s=v) {v' : Value} {w' : World}
    (hr : (Builtin.clear_ #[t] o.type #[v]).run P w = .ok v' w') (hK : wpList P ops Q rest (a.put o.dst v') w') : wpList P ops Q (o::rest) a w:=by
  refine wpList_plain hgd fun K hK'=>?_
  unfold Oper.wp
  simp [execOp,ho,resolve,invoke,builtin,hv,hr,Result.andThen]
  exact hK' _ _ hK
end
theorem cells_out (rs : List NR) (i : Nat) (hi : i<rs.length) :
    (((hv rs).take (i*2)++(hv rs).drop ((i+1)*2)++(hv rs).drop (i*2+(rs.length - 1 - i)*2)).take ((rs.length - 1)*2)++[Value.int .i64 0,Value.int .i64 0]++((hv rs).take (i*2)++(hv rs).drop ((i+1)*2)++(hv rs).drop (i*2+(rs.length - 1 - i)*2)).drop ((rs.length - 1)*2+2)).take ((rs.length - 1)*2)=hv (rs.take i++rs.drop (i+1)):=by
  have hl:=hv_len rs
  have h1 : ((hv rs).take (i*2)++(hv rs).drop ((i+1)*2)).length=(rs.length - 1)*2:=by rw [List.length_append,List.length_take,List.length_drop,hl];omega
  rw [List.take_left' h1,List.append_assoc,List.take_left' h1,hv_take,hv_drop,hv_append]
theorem hi_delete (g off c : Nat) (rs : List NR) (i : Nat) (w : World) (h : Sl 0 w 2 (.slice (some ⟨g,off,none⟩) rs.length c) rs.length (hv rs)) (hi : i<rs.length) (hm : rs.length≤1000) :
    Calls Tryz.prog 318 #[.slice (some ⟨g,off,none⟩) rs.length c,.int .i64 i,.int .i64 ((i : Int)+1)] w fun e w'=>∃ v',e = .returned v'∧InsPost (.slice (some ⟨g,off,none⟩) rs.length c) (rs.take i++rs.drop (i+1)) w v' w':=by
  have hnc : rs.length≤c∧c≤maxLen:=by
    rcases h.2 with ⟨h0,_⟩|⟨g',off',cap',e0,hb,hg,hn,hm',h3,h4⟩
    · cases h0
    · cases e0;exact ⟨hn,hm'⟩
  obtain ⟨hnc,hcm⟩:=hnc
  have hl:=hv_len rs
  obtain ⟨i0,hi0,hz0,hz1,hz2⟩:=info_parts info_row
  have hd:=h.drewN 1
  have hdl : ((hv rs).drop ((i+1)*2)).length=(rs.length - 1 - i)*2:=by rw [List.length_drop,hl];omega
  obtain ⟨W1,hW1⟩ : ∃ W1,W1=(w.drewN 1).setCells g (off+i*2) ((hv rs).drop ((i+1)*2)):=⟨_,rfl⟩
  have hu1 : Upd (fun k=>k=g) w W1:=by rw [hW1];exact ((upd_drewN w 1).cat (S:=fun k=>k=g) (upd_setCells _ _ _ _) (fun _ _ h=>h.elim) (fun _ _ h=>h))
  have hs1:=hd.over (i*2) ((hv rs).drop ((i+1)*2)) (by rw [hdl];omega)
  rw [← hW1,hdl] at hs1
  have hap : ∀ A,(A=some (⟨g,off+(i+1)*2,none⟩ : Addr)∨(A=some ⟨g,off,none⟩∧c=i+1))→∀ ty c',(Builtin.append_ #[283,283] ty #[.slice (some ⟨g,off,none⟩) i c,.slice A (rs.length - (i+1)) c']).run Tryz.prog w.drew = .ok (.slice (some ⟨g,off,none⟩) (rs.length - 1) c) W1:=by
    intro A hA ty c'
    have hsrc : Src Tryz.prog 2 283 (.slice A (rs.length - (i+1)) c') (rs.length - (i+1)) ((hv rs).drop ((i+1)*2)) (w.drewN 1):=by
      rcases hA with rfl|⟨rfl,hc⟩
      · exact Src.ofSlice _ Tryz.underlying283 _ _ _ _ (by rw [hdl];omega) (hd.reads ((i+1)*2) _ rfl) (fun u hu=>hv_one rs u (List.mem_of_mem_drop hu))
      · have h0 : (hv rs).drop ((i+1)*2)=[]:=List.drop_of_length_le (by rw [hl];omega)
        rw [h0]
        exact Src.ofSlice _ Tryz.underlying283 _ _ _ [] (by simp;omega) (fun j u hu=>by simp at hu) (fun u hu=>by cases hu)
    rcases hd.2 with ⟨h0,_⟩|⟨g',off',cap',e0,hb,hg,hn,hm',h3,h4⟩
    · cases h0
    · cases e0
      have:=run_append_room_src (P:=Tryz.prog) (w.drewN 1) 283 283 ty 367 i0 Tryz.underlying283 hi0 g off i c _ _ _ (by rw [hz1];exact hsrc) (by omega) (fun j hj=>by rw [hz1,Nat.add_assoc];exact (h4 _ (by omega)).1) (fun j hj=>by rw [hz1,Nat.add_assoc];exact (h4 _ (by omega)).2)
      rw [hz1,show i+(rs.length - (i+1))=rs.length - 1 by omega] at this
      rw [hW1]
      exact this
  obtain ⟨W2,hW2⟩ : ∃ W2,W2=W1.setCells g (off+(rs.length - 1)*2) [.int .i64 0,.int .i64 0]:=⟨_,rfl⟩
  have hcl : ∀ ty c',(Builtin.clear_ #[283] ty #[.slice (some ⟨g,off+(rs.length - 1)*2,none⟩) 1 c']).run Tryz.prog W1 = .ok (.tuple #[]) W2:=fun ty c'=>by
    rw [hW2]
    rcases hs1.2 with ⟨h0,_⟩|⟨g',off',cap',e0,hb,hg,hn,hm',h3,h4⟩
    · cases h0
    · cases e0
      exact run_clear_two W1 _ 367 ty (.agg #[.int .i64 0,.int .i64 0]) _ _ Tryz.underlying283 (fun w=>by kernel_rfl) rfl rfl rfl g _ c' (fun j hj=>by rw [Nat.add_assoc];exact (h4 _ (by omega)).1) (fun j hj=>by rw [Nat.add_assoc];exact (h4 _ (by omega)).2)
  have hs2:=(hs1.over ((rs.length - 1)*2) [.int .i64 0,.int .i64 0] (by simp;omega)).head (rs.length - 1) (by omega)
  rw [← hW2] at hs2
  have hu2 : Upd (fun k=>k=g) W1 W2:=by rw [hW2];exact upd_setCells _ _ _ _
  have hfin : InsPost (.slice (some ⟨g,off,none⟩) rs.length c) (rs.take i++rs.drop (i+1)) w (.slice (some ⟨g,off,none⟩) (rs.length - 1) c) W2:=by
    refine ⟨?_,?_,fun k hk=>.inl hk⟩
    · simp only [List.length_cons,List.length_nil] at hs2
      rw [cells_out rs i hi] at hs2
      rw [show (rs.take i++rs.drop (i+1)).length=rs.length - 1 by simp;omega]
      exact hs2
    · exact hu1.cat hu2 (fun k _ hk=>by subst hk;rfl) (fun k _ hk=>by subst hk;rfl)
  have HF:=Lib.hid hfin
  have hb1 : (0 : Int)≤(i : Int)+1:=by omega
  have hin : i≤rs.length:=by omega
  have hin1 : (i : Int)+1≤(rs.length : Int):=by omega
  have htn : ((i : Int)+1).toNat=i+1:=by omega
  have hc1 : ¬ (c=rs.length - 1):=by omega
  have hone : rs.length - (rs.length - 1)=1:=by omega
  have hic : i≤c:=by omega
  have hic2 : (i : Int)≤(c : Int):=by omega
  have hwr : IntKind.i64.wrap ((i : Int)+1)=(i : Int)+1:=by rw [IntKind.wrap_i64];omega
  have hni : ¬ ((i : Int)=(i : Int)+1):=by omega
  rcases Decidable.em (c=i+1) with hci|hci
  · have hA:=fun ty=>hap _ (.inr ⟨rfl,hci⟩) ty 0
    have hic3 : (i : Int)≤(i : Int)+1:=by omega
    have hri : rs.length - (i+1)=0:=by omega
    rw [hri] at hA
    subst hci
    clear hfin hs2 hu2 hW2 hu1 hs1 hW1 hdl hl hd hap h
    go_enter Tryz.func318,Tryz.ntmps318
    go_wp2
    go_region_law (refine step_append_run rfl _ _ 283 283 rfl _ _ (by simp [Act.eval,Act.put]) (by simp [Act.eval,Act.put]) (hA _) ?_)
    all_goals (go_wp2_with (at_builtin;refine wpList_clear_run _ rfl (.tmp 31) 283 rfl _ rfl (hcl _ _) ?_))
    all_goals (go_ret;exact ⟨_,rfl,HF.out⟩)
  · have hA:=fun ty=>hap _ (.inl rfl) ty (c - (i+1))
    clear hfin hs2 hu2 hW2 hu1 hs1 hW1 hdl hl hd hap h
    go_enter Tryz.func318,Tryz.ntmps318
    go_wp2
    go_region_law (refine step_append_run rfl _ _ 283 283 rfl _ _ (by simp [Act.eval,Act.put]) (by simp [Act.eval,Act.put]) (hA _) ?_)
    all_goals (go_wp2_with (at_builtin;refine wpList_clear_run _ rfl (.tmp 31) 283 rfl _ rfl (hcl _ _) ?_))
    all_goals (go_ret;exact ⟨_,rfl,HF.out⟩)
theorem so_search (cb : Array Value) (n k : Nat) (p : Nat→Bool) (w : World) (hn : n≤1000) (hk : k≤n) (h1 : ∀ t,t<k→p t=false) (h2 : ∀ t,k≤t→t<n→p t=true)
    (hf : ∀ (m : Nat) (i : Nat),i<n→Calls Tryz.prog 321 (#[.int .i64 i]++cb) (w.drewN m) fun e w'=>e = .returned (.bool (p i))∧∃ q,w'=(w.drewN m).drewN q) :
    Calls Tryz.prog 320 #[.int .i64 n,.func (.func 321) #[] cb] w fun e w'=>e = .returned (.int .i64 k)∧∃ q,w'=w.drewN q:=by
  have HF:=Lib.hid hf
  have H1:=Lib.hid h1
  have H2:=Lib.hid h2
  clear hf h1 h2
  go_enter Tryz.func320,Tryz.ntmps320
  go_wp2
  go_loopg [5,6] n (fun kx s5 s6 wr=>∃ (lo hi q : Nat),s5 = .int .i64 lo∧s6 = .int .i64 hi∧lo≤k∧k≤hi∧hi≤n∧hi - lo≤kx∧wr=w.drewN q)
  case atStart=>exact ⟨0,n,0,rfl,rfl,Nat.zero_le _,hk,Nat.le_refl _,by omega,rfl⟩
  case round =>
    obtain ⟨lo,hi,q,rfl,rfl,hlk,hki,hin,hg,rfl⟩:=hrel
    by_cases hlt : lo<hi
    · have hc:=HF.out q ((lo+hi) / 2) (by omega)
      rw [show (((lo+hi) / 2 : Nat) : Int)=((lo : Int)+(hi : Int)) / 2 by omega] at hc
      by_cases hm : (lo+hi) / 2<k
      · rw [H1.out _ hm] at hc
        go_wp2_with (go_at_call 321;refine hc.mono ?_;rintro e w' ⟨rfl,nq,rfl⟩)
        go_roundg (hi - ((lo+hi) / 2+1))
        case measure=>omega
        case rel=>exact ⟨(lo+hi) / 2+1,hi,q+nq,by rw [show ((lo : Int)+(hi : Int)) / 2+1=(((lo+hi) / 2+1 : Nat) : Int) by omega],rfl,by omega,hki,hin,Nat.le_refl _,rfl⟩
      · rw [H2.out _ (by omega) (by omega)] at hc
        go_wp2_with (go_at_call 321;refine hc.mono ?_;rintro e w' ⟨rfl,nq,rfl⟩)
        go_roundg ((lo+hi) / 2 - lo)
        case measure=>omega
        case rel=>exact ⟨lo,(lo+hi) / 2,q+nq,rfl,by rw [show ((lo : Int)+(hi : Int)) / 2=(((lo+hi) / 2 : Nat) : Int) by omega],hlk,by omega,by omega,Nat.le_refl _,rfl⟩
    · obtain rfl : lo=k:=by omega
      go_wp2
      go_ret
      exact ⟨rfl,_,rfl⟩
theorem getD_at (l : List NR) (t : Nat) (d : NR) (h : t<l.length) : l.getD t d=l[t]:=by simp [List.getD,h]
theorem place_bools {rs : List NR} {n : Int} {i : Nat} (hp : Place rs n i) : (∀ t,t<i→(decide (n≤(rs.getD t (0,0)).1))=false)∧∀ t,i≤t→t<rs.length→(decide (n≤(rs.getD t (0,0)).1))=true:=by
  obtain ⟨h0,h1,h2⟩:=hp
  refine ⟨fun t ht=>?_,fun t ht hl=>?_⟩
  · have:=h1 t (by omega) ht
    rw [getD_at _ _ _ (by omega)]
    simpa using this
  · have:=h2 t hl ht
    rw [getD_at _ _ _ hl]
    simpa using this
theorem hi_insert (v : Value) (rs : List NR) (i : Nat) (n : Int) (vb : Nat) (w : World) (h : Sl 0 w 2 v rs.length (hv rs)) (hvb : At w vb [.int .i64 n,.int .i64 0]) (hne : v.ownBlock≠some vb) (hi : i≤rs.length) (hm : rs.length≤1000)
    (hheap : w.heap[vb]? = some (.cells #[.int .i64 n,.int .i64 0] 367 (0,0))) :
    Calls Tryz.prog 319 #[v,.int .i64 i,.slice (some ⟨vb,0,none⟩) 1 1] w fun e w'=>∃ v',e = .returned v'∧InsPost v (rs.take i++(n,0)::rs.drop i) w v' w':=by
  by_cases he : i=rs.length
  · subst he
    rw [List.take_length,List.drop_length]
    exact ins_end v rs n vb w h hvb hm
  · rcases h.2 with ⟨rfl,h0⟩|⟨g,off,cap,rfl,hb,hg,hn,_⟩
    · omega
    · by_cases hr : rs.length+1≤cap
      · exact ins_room g off cap rs i n vb w h hvb (fun e=>hne (by rw [e];rfl)) (by omega) hr hm hheap
      · exact ins_grow g off cap rs i n vb w h hvb (by omega) (by omega) hm
theorem ins_cells {w1 u : World} {F : Nat→Prop} {g m N c : Nat} {a : Option Addr} {rs : List NR} (i : Nat) (n : Int) (hi : i≤rs.length) (h : Sl 0 w1 2 (.slice a N c) (rs.take i++(n,0)::rs.drop i).length (hv (rs.take i++(n,0)::rs.drop i))) (hC : HistC u F g (.slice a N c) m (rs.take i++(n,0)::rs.drop i)) :
    (rs.take i++(n,0)::rs.drop i).length=rs.length+1∧∃ b off,a=some ⟨b,off,none⟩∧w1.cell? ⟨b,off+i*2,none⟩=some (.int .i64 n)∧w1.cell? ⟨b,off+i*2+1,none⟩=some (.int .i64 0)∧w1.frozen? ⟨b,off+i*2,none⟩=false∧w1.frozen? ⟨b,off+i*2+1,none⟩=false∧F b∧b≠g∧b<w1.heap.size:=by
  have hl : (rs.take i++(n,0)::rs.drop i).length=rs.length+1:=by simp;omega
  have hlt : (rs.take i).length=i:=by rw [List.length_take];omega
  have hget : (rs.take i++(n,0)::rs.drop i)[i]'(by omega)=(n,0):=by
    rw [List.getElem_append_right (by omega)]
    simp [hlt]
  refine ⟨hl,?_⟩
  obtain ⟨h1,h2⟩:=h
  rcases h2 with ⟨_,h0⟩|⟨b,off,cap,e0,_,hb,hn,_,h3,h4⟩
  · omega
  · cases e0
    obtain ⟨hf,hne⟩:=hC.own.2.2 b rfl
    obtain ⟨x1,x2⟩:=hv_at _ i (show i<(rs.take i++(n,0)::rs.drop i).length by omega)
    rw [hget] at x1 x2
    refine ⟨b,off,rfl,(h3 (i*2) (by omega)).trans x1,?_,(h4 (i*2) (by omega)).2,?_,hf,hne,hb⟩
    · rw [Nat.add_assoc];exact (h3 (i*2+1) (by omega)).trans x2
    · rw [Nat.add_assoc];exact (h4 (i*2+1) (by omega)).2
theorem ins_set (rs : List NR) (i : Nat) (n : Int) (hi : i≤rs.length) {h : i<(rs.take i++(n,0)::rs.drop i).length} : (rs.take i++(n,0)::rs.drop i).set i (((rs.take i++(n,0)::rs.drop i)[i]).1,1)=rs.take i++(n,1)::rs.drop i:=by
  have hlt : (rs.take i).length=i:=by rw [List.length_take];omega
  have hget : (rs.take i++(n,0)::rs.drop i)[i]=(n,0):=by
    rw [List.getElem_append_right (by omega)]
    simp [hlt]
  rw [hget,List.set_append_right _ _ (by omega)]
  simp [hlt]
theorem del_set (rs : List NR) (i : Nat) (hi : i<rs.length) (y : NR) : (rs.set i y).take i++(rs.set i y).drop (i+1)=rs.take i++rs.drop (i+1):=by
  have hlt : (rs.take i).length=i:=by rw [List.length_take];omega
  rw [List.set_eq_take_append_cons_drop,if_pos hi,List.take_left' hlt,List.drop_append,List.drop_of_length_le (by omega),hlt]
  simp
theorem hi_deleteN (g off c : Nat) (rs : List NR) (N : Nat) (hN : N=rs.length) (i : Nat) (w : World) (h : Sl 0 w 2 (.slice (some ⟨g,off,none⟩) N c) N (hv rs)) (hi : i<N) (hm : N≤1000) :
    Calls Tryz.prog 318 #[.slice (some ⟨g,off,none⟩) N c,.int .i64 i,.int .i64 ((i : Int)+1)] w fun e w'=>∃ v',e = .returned v'∧InsPost (.slice (some ⟨g,off,none⟩) N c) (rs.take i++rs.drop (i+1)) w v' w':=by
  subst hN
  exact hi_delete g off c rs i w h hi hm
def rk : List NR→Nat→Option Int
  | [],_=>none
  | r::rs,k=>if k≤r.2 then some r.1 else rk rs (k - r.2)
open PHist
def expand : List NR→List Int
  | []=>[]
  | r::rs=>List.replicate r.2 r.1++expand rs
theorem expand_append : ∀ a b : List NR,expand (a++b)=expand a++expand b
  | [],_=>rfl
  | r::a,b=>by show _++expand (a++b)=_;rw [expand_append a b,← List.append_assoc];rfl
def Rows (rs : List NR) : Prop:=rs.Pairwise (fun a b=>a.1<b.1)∧∀ r∈rs,1≤r.2
theorem expand_mem : ∀ {rs : List NR} {x : Int},x∈expand rs→∃ r∈rs,r.1=x
  | r::rs,x,h=>by
    rcases List.mem_append.1 h with h|h
    · exact ⟨r,List.mem_cons_self ..,(List.eq_of_mem_replicate h).symm⟩
    · obtain ⟨r',h1,h2⟩:=expand_mem h
      exact ⟨r',List.mem_cons_of_mem _ h1,h2⟩
theorem mem_expand : ∀ {rs : List NR} {r : NR},r∈rs→1≤r.2→r.1∈expand rs
  | r'::rs,r,h,h1=>by
    rcases List.mem_cons.1 h with rfl|h
    · exact List.mem_append_left _ (List.mem_replicate.2 ⟨by omega,rfl⟩)
    · exact List.mem_append_right _ (mem_expand h h1)
theorem expand_sorted : ∀ {rs : List NR},rs.Pairwise (fun a b=>a.1<b.1)→(expand rs).Pairwise (·≤·)
  | [],_=>List.Pairwise.nil
  | r::rs,h=>by
    have hc:=List.pairwise_cons.1 h
    refine List.pairwise_append.2 ⟨List.pairwise_replicate.2 (.inr (Int.le_refl _)),expand_sorted hc.2,fun a ha b hb=>?_⟩
    obtain ⟨r',h1,rfl⟩:=expand_mem hb
    rw [List.eq_of_mem_replicate ha]
    exact Int.le_of_lt (hc.1 r' h1)
theorem rows_le : ∀ {rs : List NR},(∀ r∈rs,1≤r.2)→rs.length≤(expand rs).length
  | [],_=>Nat.le_refl _
  | r::rs,h=>by
    have:=rows_le (rs:=rs) (fun x hx=>h x (List.mem_cons_of_mem _ hx))
    have h1:=h r (List.mem_cons_self ..)
    show rs.length+1≤(List.replicate r.2 r.1++expand rs).length
    rw [List.length_append,List.length_replicate];omega
theorem times_le : ∀ {rs : List NR} {r : NR},r∈rs→r.2≤(expand rs).length
  | r'::rs,r,h=>by
    show r.2≤(List.replicate r'.2 r'.1++expand rs).length
    rw [List.length_append,List.length_replicate]
    rcases List.mem_cons.1 h with rfl|h
    · omega
    · have:=times_le h;omega
theorem rk_expand : ∀ (rs : List NR) (k : Nat),1≤k→(∀ r∈rs,1≤r.2)→rk rs k=(expand rs)[k - 1]?
  | [],k,_,_=>rfl
  | r::rs,k,hk,h=>by
    show (if k≤r.2 then some r.1 else rk rs (k - r.2))=(List.replicate r.2 r.1++expand rs)[k - 1]?
    by_cases h1 : k≤r.2
    · rw [if_pos h1,List.getElem?_append_left (by rw [List.length_replicate];omega),List.getElem?_replicate,if_pos (by omega)]
    · rw [if_neg h1,rk_expand rs (k - r.2) (by omega) (fun x hx=>h x (List.mem_cons_of_mem _ hx)),List.getElem?_append_right (by rw [List.length_replicate];omega),List.length_replicate]
      congr 1
      omega
theorem place_exists : ∀ (rs : List NR) (n : Int),rs.Pairwise (fun a b=>a.1<b.1)→∃ i,Place rs n i
  | [],n,_=>⟨0,Nat.le_refl _,fun t h=>absurd h (by simp),fun t h=>absurd h (by simp)⟩
  | r::rs,n,h=>by
    have hc:=List.pairwise_cons.1 h
    by_cases h1 : r.1<n
    · obtain ⟨i,a,b,c⟩:=place_exists rs n hc.2
      refine ⟨i+1,by simpa using a,fun t ht hti=>?_,fun t ht hti=>?_⟩
      · cases t with
        | zero=>exact h1
        | succ t=>exact b t (by simpa using ht) (by omega)
      · cases t with
        | zero=>omega
        | succ t=>exact c t (by simpa using ht) (by omega)
    · refine ⟨0,Nat.zero_le _,fun t ht hti=>by omega,fun t ht hti=>?_⟩
      cases t with
      | zero=>show n≤r.1;omega
      | succ t =>
        have:=hc.1 (rs[t]'(by simpa using ht)) (List.getElem_mem _)
        show n≤(rs[t]'(by simpa using ht)).1
        omega
theorem place_mem {rs : List NR} {n : Int} {i : Nat} (hp : Place rs n i) (hs : rs.Pairwise (fun a b=>a.1<b.1)) (hr : ∀ r∈rs,1≤r.2) : n∈expand rs↔∃ hi : i<rs.length,rs[i].1=n:=by
  constructor
  · intro h
    obtain ⟨r,h1,rfl⟩:=expand_mem h
    obtain ⟨t,ht,rfl⟩:=List.mem_iff_getElem.1 h1
    have hti : i≤t:=by
      refine Nat.le_of_not_lt fun hlt=>?_
      have:=hp.2.1 t ht hlt
      omega
    refine ⟨by omega,?_⟩
    by_cases h0 : i=t
    · subst h0;rfl
    · have h2:=hp.2.2 i (by omega) (Nat.le_refl _)
      have h3:=List.pairwise_iff_getElem.1 hs i t (by omega) ht (by omega)
      omega
  · rintro ⟨hi,rfl⟩
    exact mem_expand (List.getElem_mem _) (hr _ (List.getElem_mem _))
theorem split_at (rs : List NR) (i : Nat) (hi : i<rs.length) : rs=rs.take i++rs[i]::rs.drop (i+1):=by
  rw [← List.drop_eq_getElem_cons hi,List.take_append_drop]
theorem expand_at (rs : List NR) (i : Nat) (hi : i<rs.length) : expand rs=expand (rs.take i)++expand (rs[i]::rs.drop (i+1)):=by
  rw [← expand_append]
  exact congrArg expand (split_at rs i hi)
theorem set_at (rs : List NR) (i : Nat) (hi : i<rs.length) (y : NR) : rs.set i y=rs.take i++y::rs.drop (i+1):=by
  rw [List.set_eq_take_append_cons_drop,if_pos hi]
theorem perm_more (rs : List NR) (i : Nat) (hi : i<rs.length) (n : Int) (hn : rs[i].1=n) : (expand (rs.set i (n,rs[i].2+1))).Perm (n::expand rs):=by
  subst hn
  rw [set_at rs i hi,expand_append]
  rw [expand_at rs i hi]
  have e1 : expand ((rs[i].1,rs[i].2+1)::rs.drop (i+1))=rs[i].1::expand (rs[i]::rs.drop (i+1)):=by
    show List.replicate (rs[i].2+1) rs[i].1++_=rs[i].1::(List.replicate rs[i].2 rs[i].1++_)
    rw [List.replicate_succ];rfl
  rw [e1]
  exact List.perm_middle
theorem perm_new (rs : List NR) (i : Nat) (n : Int) : (expand (rs.take i++(n,1)::rs.drop i)).Perm (n::expand rs):=by
  rw [expand_append]
  conv=>rhs;rw [← List.take_append_drop i rs,expand_append]
  show (expand (rs.take i)++(n::expand (rs.drop i))).Perm _
  exact List.perm_middle
theorem perm_less (rs : List NR) (i : Nat) (hi : i<rs.length) (n : Int) (hn : rs[i].1=n) (h1 : 1≤rs[i].2) : (n::expand (rs.set i (n,rs[i].2 - 1))).Perm (expand rs):=by
  subst hn
  rw [set_at rs i hi,expand_append]
  rw [expand_at rs i hi]
  have e1 : expand (rs[i]::rs.drop (i+1))=rs[i].1::expand ((rs[i].1,rs[i].2 - 1)::rs.drop (i+1)):=by
    show List.replicate rs[i].2 rs[i].1++_=rs[i].1::(List.replicate (rs[i].2 - 1) rs[i].1++_)
    obtain ⟨t,ht⟩ : ∃ t,rs[i].2=t+1:=⟨rs[i].2 - 1,by omega⟩
    rw [ht,List.replicate_succ];rfl
  rw [e1]
  exact List.perm_middle.symm
theorem perm_gone (rs : List NR) (i : Nat) (hi : i<rs.length) (n : Int) (hn : rs[i].1=n) (h1 : rs[i].2=1) : (n::expand (rs.take i++rs.drop (i+1))).Perm (expand rs):=by
  subst hn
  rw [expand_append]
  rw [expand_at rs i hi]
  have e1 : expand (rs[i]::rs.drop (i+1))=rs[i].1::expand (rs.drop (i+1)):=by
    show List.replicate rs[i].2 rs[i].1++_=_
    rw [h1];rfl
  rw [e1]
  exact List.perm_middle.symm
theorem rising_set {rs : List NR} (h : rs.Pairwise (fun a b=>a.1<b.1)) (i : Nat) (hi : i<rs.length) (t : Nat) : (rs.set i (rs[i].1,t)).Pairwise (fun a b=>a.1<b.1):=by
  have e : (rs.set i (rs[i].1,t)).map (·.1)=rs.map (·.1):=by
    rw [List.map_set]
    apply List.ext_getElem?
    intro j
    by_cases hj : i=j
    · subst hj;rw [List.getElem?_set_self (by simpa using hi)];simp [hi]
    · rw [List.getElem?_set_ne hj]
  have h1 : (rs.map (·.1)).Pairwise (· < ·):=List.pairwise_map.2 h
  have h2 : ((rs.set i (rs[i].1,t)).map (·.1)).Pairwise (· < ·):=by rw [e];exact h1
  exact List.pairwise_map.1 h2
theorem rising_ins {rs : List NR} (h : rs.Pairwise (fun a b=>a.1<b.1)) {n : Int} {i : Nat} (hp : Place rs n i) (hn : ∀ hi : i<rs.length,rs[i].1≠n) (t : Nat) : (rs.take i++(n,t)::rs.drop i).Pairwise (fun a b=>a.1<b.1):=by
  have hb : ∀ a∈rs.take i,a.1<n:=fun a ha=>by
    obtain ⟨j,hj,rfl⟩:=List.mem_iff_getElem.1 ha
    rw [List.length_take] at hj
    rw [List.getElem_take]
    exact hp.2.1 j (by omega) (by omega)
  have hd : ∀ b∈rs.drop i,n<b.1:=fun b hb=>by
    obtain ⟨j,hj,rfl⟩:=List.mem_iff_getElem.1 hb
    rw [List.length_drop] at hj
    rw [List.getElem_drop]
    have h1:=hp.2.2 (i+j) (by omega) (by omega)
    have hne:=hn (by omega)
    have hii:=hp.2.2 i (by omega) (Nat.le_refl _)
    by_cases h0 : j=0
    · subst h0;simp only [Nat.add_zero];omega
    · have:=List.pairwise_iff_getElem.1 h i (i+j) (by omega) (by omega) (by omega)
      omega
  have hs : (rs.take i++rs.drop i).Pairwise (fun a b=>a.1<b.1):=by rw [List.take_append_drop];exact h
  obtain ⟨p1,p2,p3⟩:=List.pairwise_append.1 hs
  refine List.pairwise_append.2 ⟨p1,List.pairwise_cons.2 ⟨hd,p2⟩,fun a ha b hb'=>?_⟩
  rcases List.mem_cons.1 hb' with rfl|hb'
  · exact hb a ha
  · exact p3 a ha b hb'
theorem rising_del {rs : List NR} (h : rs.Pairwise (fun a b=>a.1<b.1)) (i : Nat) : (rs.take i++rs.drop (i+1)).Pairwise (fun a b=>a.1<b.1):=by
  have : (rs.take i++rs.drop (i+1)).Sublist rs:=by
    conv=>rhs;rw [← List.take_append_drop i rs]
    exact List.Sublist.append (List.Sublist.refl _) (List.drop_sublist_drop_left _ (by omega))
  exact h.sublist this
theorem rk_srt {rs : List NR} {l : List Int} (hs : Rows rs) (hp : (expand rs).Perm l) (k : Nat) (hk : 1≤k) : rk rs k=(srt l)[k - 1]?:=by
  rw [rk_expand rs k hk hs.2]
  have : expand rs=srt l:=sorted_eq (expand_sorted hs.1) (srt_sorted l) (hp.trans (srt_perm l).symm)
  rw [this]
theorem ref_below (a : Option Addr) (n c : Nat) (l : List Int) (x : Int) (w : World) (hn : n=l.length) (hl : RowI w .i64 a l) :
    Calls Tryz.prog 239 #[.slice a n c,.int .i64 x] w fun e w'=>e = .returned (.int .i64 (cnt l x : Nat))∧w=w':=by
  subst hn
  have hlen:=hl.len
  unfold maxLen at hlen
  go_enter Tryz.func239,Tryz.ntmps239
  go_wp2
  go_loop [5,6] (fun s i=>∃ k : Nat,k≤l.length∧i = .int .i64 k∧s = .int .i64 (cnt (l.take k) x : Nat)) (fun _ i=>l.length - (intOf i).toNat)
  case atStart=>exact ⟨0,Nat.zero_le _,rfl,rfl⟩
  case round =>
    obtain ⟨k,hk,rfl,rfl⟩:=hrel
    by_cases hlt : k<l.length
    · obtain ⟨b,off,rfl,hb,hc⟩:=hl.at_ k hlt
      have HS:=Lib.hid (cnt_snoc l k hlt x)
      have hcl:=cnt_le (l.take k) x
      rw [List.length_take] at hcl
      generalize cnt (l.take k) x=q at *
      by_cases hx : l[k]≤x
      · have HX:=Lib.hid hx
        go_wp2
        go_round
        case rel=>exact ⟨k+1,by omega,by go_num,by rw [HS.out,if_pos HX.out];simp⟩
        case measure=>simp [intOf];omega
      · have HX:=Lib.hid hx
        go_wp2
        go_round
        case rel=>exact ⟨k+1,by omega,by go_num,by rw [HS.out,if_neg HX.out];simp⟩
        case measure=>simp [intOf];omega
    · go_wp2
      go_ret
      exact ⟨ret_int (by rw [List.take_of_length_le (by omega)]),rfl⟩
theorem least_snoc (P : Int→Bool) (l : List Int) (k : Nat) (h : k<l.length) : least P (l.take (k+1))=lstep P (least P (l.take k)) l[k]:=by
  unfold least
  rw [List.take_succ_eq_append_getElem h,List.foldl_append]
  rfl
theorem ref_percent (a : Option Addr) (n c : Nat) (l : List Int) (p : Nat) (mz : Int) (hmz : mz=p) (w : World) (hn : n=l.length) (hl : RowI w .i64 a l) (hp : p≤100) (h1000 : l.length≤1000) :
    Calls Tryz.prog 198 #[.slice a n c,.int .i64 mz] w fun e w'=>e = .returned (.tuple #[.int .i64 (least (fun x=>decide (p*l.length≤cnt l x*100)) l).1,.bool (least (fun x=>decide (p*l.length≤cnt l x*100)) l).2])∧w=w':=by
  subst hn hmz
  have hlen:=hl.len
  unfold maxLen at hlen
  obtain ⟨P,hP⟩ : ∃ P : Int→Bool,P=fun x=>decide (p*l.length≤cnt l x*100):=⟨_,rfl⟩
  rw [← hP]
  have HPP:=fun x=>Lib.hid (show P x=decide (p*l.length≤cnt l x*100) by rw [hP])
  clear hP
  have hq1 : p*l.length≤100*1000:=Nat.mul_le_mul hp h1000
  have hq2 : (p : Int)*(l.length : Int)=((p*l.length : Nat) : Int):=by simp
  obtain ⟨m,hm⟩ : ∃ m,p*l.length=m:=⟨_,rfl⟩
  rw [hm] at hq1 hq2 HPP
  clear hm
  have hcl:=fun x=>cnt_le l x
  have HB:=fun x=>Lib.hid (ref_below a l.length c l x w rfl hl)
  go_enter Tryz.func198,Tryz.ntmps198
  go_wp2
  go_loop [6,7,8] (fun o b i=>∃ k : Nat,k≤l.length∧i = .int .i64 k∧o = .int .i64 (least P (l.take k)).1∧b = .bool (least P (l.take k)).2) (fun _ _ i=>l.length - (intOf i).toNat)
  case atStart=>exact ⟨0,Nat.zero_le _,rfl,rfl,rfl⟩
  case round =>
    obtain ⟨k,hk,rfl,rfl,rfl⟩:=hrel
    by_cases hlt : k<l.length
    · obtain ⟨b,off,rfl,hb,hc⟩:=hl.at_ k hlt
      have hF:=least_snoc P l k hlt
      generalize l[k]=x at *
      have hPx:=(HPP x).out
      have HB':=HB x
      have hcx:=hcl x
      clear hcl
      generalize cnt l x=q at *
      generalize least P (l.take k)=acc at *
      obtain ⟨out,is⟩:=acc
      by_cases hP : m≤q*100
      · have hPt : P x=true:=by rw [hPx];simpa using hP
        clear hPx
        cases is
        · have HF:=Lib.hid (show least P (l.take (k+1))=(x,true) by rw [hF];simp [lstep,hPt])
          clear hF hPt
          go_wp2_with (go_at_call 239;refine HB'.out.mono ?_;rintro e w' ⟨rfl,rfl⟩)
          go_round
          case rel=>exact ⟨k+1,by omega,by go_num,by rw [HF.out],by rw [HF.out]⟩
          case measure=>simp [intOf];omega
        · by_cases hx : x<out
          · have HF:=Lib.hid (show least P (l.take (k+1))=(x,true) by rw [hF];simp [lstep,hPt,hx])
            clear hF hPt
            go_wp2_with (go_at_call 239;refine HB'.out.mono ?_;rintro e w' ⟨rfl,rfl⟩)
            go_round
            case rel=>exact ⟨k+1,by omega,by go_num,by rw [HF.out],by rw [HF.out]⟩
            case measure=>simp [intOf];omega
          · have HF:=Lib.hid (show least P (l.take (k+1))=(out,true) by rw [hF];simp [lstep,hPt,hx])
            clear hF hPt
            go_wp2_with (go_at_call 239;refine HB'.out.mono ?_;rintro e w' ⟨rfl,rfl⟩)
            go_round
            case rel=>exact ⟨k+1,by omega,by go_num,by rw [HF.out],by rw [HF.out]⟩
            case measure=>simp [intOf];omega
      · have hPt : P x=false:=by rw [hPx];simpa using hP
        clear hPx
        have HF:=Lib.hid (show least P (l.take (k+1))=(out,is) by rw [hF];simp [lstep,hPt])
        clear hF hPt
        go_wp2_with (go_at_call 239;refine HB'.out.mono ?_;rintro e w' ⟨rfl,rfl⟩)
        go_round
        case rel=>exact ⟨k+1,by omega,by go_num,by rw [HF.out],by rw [HF.out]⟩
        case measure=>simp [intOf];omega
    · rw [List.take_of_length_le (show l.length≤k by omega)]
      go_wp2
      go_ret2
      exact ⟨rfl,rfl⟩
end Go.Proofs.YtmimfkhkilijcaaGreatDoor
