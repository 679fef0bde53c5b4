/- KBase: what is reached of them. -/
import Derived.Test.YtmimfkhkilijcaaGreatDoorRows
import Derived.WalkKit
import Derived.ProofKit
import Derived.OpenShut
import Derived.ShutString
import Derived.ChangeOld
import Derived.Below
import Derived.Deep.Slices
import Derived.WalkSmall
import Derived.Deep.Upon
import Derived.Lib.ConvBytes
import Derived.Laws.BytesString
import Derived.Laws.IdiomStrings
import Derived.Lib.Strings
import Derived.Lib.Hide
import Derived.Laws.MakeOwn
import Derived.Handy
import Derived.BigQuiet
import Derived.Deep.QuietTactic
import Derived.IntWalk
import Derived.Outline
import Derived.Laws.Slices
set_option linter.unusedVariables false
set_option linter.unusedSimpArgs false
set_option maxRecDepth 100000
set_option maxHeartbeats 8000000
namespace Go.Proofs.YtmimfkhkilijcaaGreatDoor
open Go.ChangeShapes Go.WideShapes Go.ChangeAt Go.RowKit
inductive Sh where
  | int (k : IntKind)
  | bool
  | str
  | unit
  | pair (a b : Sh)
  | sl (s : Sh)
  | arr (n : Nat) (s : Sh)
def Sh.T : Sh→Type
  | .int _=>Int
  | .bool=>Bool
  | .str=>ByteArray
  | .unit=>Unit
  | .pair a b=>a.T×b.T
  | .sl s=>List s.T
  | .arr _ s=>List s.T
def Sh.n : Sh→Nat
  | .int _=>1
  | .bool=>1
  | .str=>1
  | .unit=>0
  | .pair a b=>a.n+b.n
  | .sl _=>1
  | .arr n s=>n*s.n
abbrev nth {α : Type} (l : List α) (i : Nat) : Option α:=l[i]?
def Rd (w : World) : (s : Sh)→List Value→s.T→Prop
  | .int k,cs,n=>cs=[.int k n]∧(Lit.int k n).wf=true
  | .bool,cs,b=>cs=[.bool b]
  | .str,cs,s=>cs=[.string s]∧s.size≤maxLen
  | .unit,cs,_=>cs=[]
  | .pair a b,cs,x=>∃ c d,cs=c++d∧Rd w a c x.1∧Rd w b d x.2
  | .sl s,cs,l=>(cs=[.slice none 0 0]∧l=[])∨∃ (a : Addr) (cap : Nat) (el : Nat→List Value),cs=[.slice (some a) (List.length l) cap]∧List.length l≤cap∧cap≤maxLen ∧
      ∀ (i : Nat) (x : s.T),nth (α:=s.T) l i=some x→w.cells? 0 (a.add (i*s.n)) s.n=some (el i)∧Rd w s (el i) x
  | .arr n s,cs,l=>List.length l=n∧cs.length=n*s.n∧∀ (i : Nat) (x : s.T),nth (α:=s.T) l i=some x→Rd w s ((cs.drop (i*s.n)).take s.n) x
mutual
def shOk (P : Program) : (fuel : Nat)→TypeId→Sh→Bool
  | 0,_,_=>false
  | fuel+1,t,sh =>
    match P.underlying t,sh with
    | some (.int k),.int k'=>decide (k=k')
    | some .bool,.bool=>true
    | some .string,.str=>true
    | some (.slice e),.sl s=>decide (P.cellsOf e=s.n) && shOk P fuel e s
    | some (.array n e),.arr n' s=>decide (n=n') && decide (P.cellsOf e=s.n) && decide (P.cellsOf t=n*s.n) && shOk P fuel e s
    | some (.struct fs),.unit=>decide (P.cellsOf t=0) && fieldsOk P fuel 0 fs.toList .unit
    | some (.struct fs),.pair a b=>decide (P.cellsOf t=a.n+b.n) && fieldsOk P fuel 0 fs.toList (.pair a b)
    | _,_=>false
def fieldsOk (P : Program) : (fuel : Nat)→(off : Nat)→List Field→Sh→Bool
  | 0,_,_,_=>false
  | _+1,_,[],.unit=>true
  | fuel+1,off,f::r,.pair a b=>decide (f.offset=off) && decide (P.cellsOf f.type=a.n) && shOk P fuel f.type a && fieldsOk P fuel (off+a.n) r b
  | _+1,_,_,_=>false
end
theorem list_of_fun {α : Type} {n : Nat} {p : Nat→α→Prop} (h : ∀ i,i<n→∃ x,p i x) : ∃ l : List α,l.length=n∧∀ i x,l[i]? = some x→p i x:=by
  induction n with
  | zero=>exact ⟨[],rfl,by simp⟩
  | succ n ih =>
    obtain ⟨l,hl,hp⟩:=ih (fun i hi=>h i (by omega))
    obtain ⟨x,hx⟩:=h n (by omega)
    refine ⟨l++[x],by simp [hl],fun i y hy=>?_⟩
    by_cases hi : i<l.length
    · rw [List.getElem?_append_left hi] at hy
      exact hp i y hy
    · rw [List.getElem?_append_right (by omega)] at hy
      by_cases h0 : i - l.length=0
      · rw [h0] at hy
        simp at hy
        subst hy
        have : i=n:=by omega
        rw [this];exact hx
      · have : ([x] : List α)[i - l.length]? = none:=by simp;omega
        rw [this] at hy;cases hy
section
variable {H : Type} {enc : TypeId×Value→H} {P : Program} {w : World} {spare : Nat→Bool} {held : Bool}
mutual
theorem rd_of_trod : ∀ (F : Nat) {t : TypeId} {sh : Sh},shOk P F t sh=true→∀ (fuel : Nat) (cs : List Value) (x : DataW H×List MemPlace),
    DataW.trod enc P w 0 spare held fuel t cs=some x→∃ d,Rd w sh cs d
  | 0,t,sh,hs=>by simp [shOk] at hs
  | F+1,t,sh,hs=>by
    intro fuel cs x h
    unfold shOk at hs
    split at hs
    · rename_i k k' e
      obtain ⟨n,rfl,_,hw⟩:=DataW.trod_int e h
      simp at hs
      subst hs
      exact ⟨n,rfl,hw⟩
    · rename_i e
      obtain ⟨b,rfl,_⟩:=DataW.trod_bool e h
      exact ⟨b,rfl⟩
    · rename_i e
      obtain ⟨s,rfl,_,hw⟩:=DataW.trod_string e h
      exact ⟨s,rfl,hw⟩
    · rename_i e s he
      simp at hs
      obtain ⟨hc,hs⟩:=hs
      rcases Deep.open_slice he h with ⟨rfl,_⟩|⟨a,len,cap,m,n,D,Pl,rfl,_,hl,hm,hmm,_,hx⟩
      · exact ⟨[],.inl ⟨rfl,rfl⟩⟩
      · have hlm : len≤m:=by rw [hmm];split <;> omega
        obtain ⟨l,hll,hp⟩:=list_of_fun (n:=len) (p:=fun i (x : List Value×s.T)=>w.cells? 0 (a.add (i*P.cellsOf e)) (P.cellsOf e)=some x.1∧Rd w s x.1 x.2) (fun i hi=>by
          obtain ⟨cs',h1,h2⟩:=hx i (by omega)
          obtain ⟨d,hd⟩:=rd_of_trod F hs _ _ _ h2
          exact ⟨(cs',d),h1,hd⟩)
        refine ⟨l.map (·.2),.inr ⟨a,cap,fun i=>((l[i]?).map (·.1)).getD [],by simp [hll],by simp [hll];exact hl,hm,fun i x hi=>?_⟩⟩
        have hi' : (l.map (·.2))[i]? = some x:=hi
        rw [List.getElem?_map] at hi'
        obtain ⟨y,hy,rfl⟩:=Option.map_eq_some_iff.1 hi'
        have:=hp i y hy
        rw [← hc]
        simpa [hy] using this
    · rename_i n e n' s he
      simp at hs
      obtain ⟨⟨⟨rfl,hc⟩,ht⟩,hs⟩:=hs
      obtain ⟨xs,m,_,_,hlen,hxl,hx⟩:=DataW.trod_array he h
      obtain ⟨l,hll,hp⟩:=list_of_fun (n:=n) (p:=fun i (d : s.T)=>Rd w s ((cs.drop (i*s.n)).take s.n) d) (fun i hi=>by
        have h1:=hx i hi
        rw [hc,List.getElem?_eq_getElem (by omega)] at h1
        exact rd_of_trod F hs _ _ _ h1)
      exact ⟨l,hll,by rw [hlen,ht],hp⟩
    · rename_i fs he
      simp at hs
      obtain ⟨xs,m,_,_,hlen,hxl,hx⟩:=DataW.trod_struct he h
      have h0 : cs=[]:=by
        have : cs.length=0:=by rw [hlen];exact hs.1
        simpa using this
      exact ⟨(),h0⟩
    · rename_i fs a b he
      simp at hs
      obtain ⟨hc,hs⟩:=hs
      obtain ⟨xs,m,_,_,hlen,hxl,hx⟩:=DataW.trod_struct he h
      exact rd_of_fields F hs cs (by rw [hlen,hc];rfl) (fun f r i hi=>by
        have h1:=hx i f (by simpa using hi)
        have hi' : i<fs.size:=by
          have:=List.getElem?_eq_some_iff.1 hi
          simpa using this.1
        rw [List.getElem?_eq_getElem (by omega)] at h1
        refine ⟨m,xs[i],?_⟩
        simpa using h1)
    · cases hs
theorem rd_of_fields : ∀ (F : Nat) {off : Nat} {fs : List Field} {sh : Sh},fieldsOk P F off fs sh=true→∀ (cs : List Value),cs.length=sh.n →
    (∀ (f : Field) (_ : Unit) (i : Nat),fs[i]? = some f→∃ m x,DataW.trod enc P w 0 spare held m f.type ((cs.drop (f.offset - off)).take (P.cellsOf f.type))=some x)→∃ d,Rd w sh cs d
  | 0,off,fs,sh,hs=>by simp [fieldsOk] at hs
  | F+1,off,[],.unit,hs=>by
    intro cs hl _
    have : cs=[]:=by simpa [Sh.n] using hl
    exact ⟨(),this⟩
  | F+1,off,f::r,.pair a b,hs=>by
    intro cs hl hx
    simp [fieldsOk] at hs
    obtain ⟨⟨⟨hoff,hc⟩,hsa⟩,hsb⟩:=hs
    obtain ⟨m,x,h0⟩:=hx f () 0 rfl
    rw [hoff,Nat.sub_self,hc] at h0
    obtain ⟨da,hda⟩:=rd_of_trod F hsa _ _ _ h0
    have hl' : cs.length=a.n+b.n:=hl
    have hmono : ∀ (F : Nat) (o : Nat) (l : List Field) (s : Sh),fieldsOk P F o l s=true→∀ (g : Field) (i : Nat),l[i]? = some g→o≤g.offset:=by
      intro F
      induction F with
      | zero=>intro o l s h;simp [fieldsOk] at h
      | succ F ih =>
        intro o l s h g i hi
        match l,s,h with
        | [],_,_=>simp at hi
        | f'::r',.pair a' b',h =>
          simp [fieldsOk] at h
          cases i with
          | zero=>simp at hi;subst hi;omega
          | succ i=>simp at hi;have:=ih _ _ _ h.2 g i hi;omega
    obtain ⟨db,hdb⟩:=rd_of_fields F hsb (cs.drop a.n) (by simp;omega) (fun g _ i hi=>by
      obtain ⟨m,x,h1⟩:=hx g () (i+1) (by simpa using hi)
      have hg:=hmono F _ _ _ hsb g i hi
      refine ⟨m,x,?_⟩
      rw [List.drop_drop,show a.n+(g.offset - (off+a.n))=g.offset - off by omega]
      exact h1)
    refine ⟨(da,db),cs.take a.n,cs.drop a.n,(List.take_append_drop _ _).symm,?_,hdb⟩
    simpa using hda
end
theorem rd_of_Trod {t : TypeId} {v : Value} {d : DataW H} {ps : List MemPlace} (F : Nat) {sh : Sh} (hs : shOk P F t sh=true) (h : DataW.Trod enc P w 0 spare held t v d ps) : ∃ x,Rd w sh v.cells.toList x:=by
  obtain ⟨fuel,hf⟩:=h
  exact rd_of_trod F hs _ _ _ hf
end
structure RowI (w : World) (k : IntKind) (a : Option Addr) (l : List Int) : Prop where
  len : l.length≤maxLen
  at_ : ∀ (i : Nat) (h : i<l.length),∃ b off,a=some ⟨b,off,none⟩∧b<w.heap.size∧w.cell? ⟨b,off+i,none⟩=some (.int k l[i])
  wf : ∀ n∈l,(Lit.int k n).wf=true
theorem cell_lt {w : World} {a : Addr} {v : Value} (h : w.cell? a=some v) : a.block<w.heap.size:=by
  unfold World.cell? at h
  by_cases hb : a.block<w.heap.size
  · exact hb
  · rw [Array.getElem?_eq_none (by omega)] at h
    cases h
theorem cell_spot {w : World} {a : Addr} {v : Value} (h : w.cell? a=some v) : a.spot=none:=by
  unfold World.cell? at h
  split at h
  · by_cases hs : a.spot.isSome
    · rw [if_pos hs] at h;cases h
    · cases ha : a.spot with
      | none=>rfl
      | some x=>simp [ha] at hs
  · cases h
theorem cells_one {w : World} {a : Addr} {cs : List Value} (h : w.cells? 0 a 1=some cs) : ∃ v,cs=[v]∧w.cell? a=some v:=by
  have e : List.range 1=[0]:=rfl
  cases hv : w.cell? a with
  | none=>simp [World.cells?,e,Addr.add,hv] at h
  | some v=>exact ⟨v,by simp [World.cells?,e,Addr.add,hv] at h;exact h.symm,rfl⟩
theorem RowI.below {w w' : World} {k : IntKind} {a : Option Addr} {l : List Int} (h : RowI w k a l) (hb : Below w.heap.size w w') : RowI w' k a l :=
  ⟨h.len,fun i hi=>by
    obtain ⟨b,off,h1,h2,h3⟩:=h.at_ i hi
    exact ⟨b,off,h1,Nat.lt_of_lt_of_le h2 hb.size,by rw [hb.cell (p:=⟨b,off+i,none⟩) h2];exact h3⟩,h.wf⟩
theorem RowI.bound {w : World} {a : Option Addr} {l : List Int} (h : RowI w .i64 a l) (i : Nat) (hi : i<l.length) : -9223372036854775808≤l[i]∧l[i]≤9223372036854775807 :=
  bounds_i64 (h.wf _ (List.getElem_mem hi))
structure Upd (S : Nat→Prop) (w w' : World) : Prop where
  os : w'.os=w.os
  tape : w'.tape=w.tape
  output : w'.output=w.output
  size : w.heap.size≤w'.heap.size
  block : ∀ k,k<w.heap.size→¬ S k→w'.heap[k]? = w.heap[k]?
theorem Upd.refl (S : Nat→Prop) (w : World) : Upd S w w:=⟨rfl,rfl,rfl,Nat.le_refl _,fun _ _ _=>rfl⟩
theorem Upd.mono {S S' : Nat→Prop} {w w' : World} (h : Upd S w w') (hs : ∀ k,k<w.heap.size→S k→S' k) : Upd S' w w' :=
  ⟨h.os,h.tape,h.output,h.size,fun k hk hn=>h.block k hk fun hS=>hn (hs k hk hS)⟩
theorem Upd.trans {S S' : Nat→Prop} {a b c : World} (h : Upd S a b) (k : Upd S' b c) (hs : ∀ i,i<a.heap.size→S' i→S i) : Upd S a c :=
  ⟨k.os.trans h.os,k.tape.trans h.tape,k.output.trans h.output,Nat.le_trans h.size k.size,
    fun i hi hn=>(k.block i (Nat.lt_of_lt_of_le hi h.size) fun hS=>hn (hs i hi hS)).trans (h.block i hi hn)⟩
theorem Upd.below {S : Nat→Prop} {B : Nat} {w w' : World} (h : Upd S w w') (hB : B≤w.heap.size) (hs : ∀ k,k<w.heap.size→S k→B≤k) : Below B w w' :=
  ⟨h.os,h.tape,h.output,h.size,fun k hk=>h.block k (by omega) fun hS=>by have:=hs k (by omega) hS;omega⟩
theorem Upd.of_below {S : Nat→Prop} {B : Nat} {w w' : World} (h : Below B w w') (hs : ∀ k,k<w.heap.size→B≤k→S k) : Upd S w w' :=
  ⟨h.os,h.tape,h.output,h.size,fun k hk hn=>h.block k (by
    by_cases hb : B≤k
    · exact absurd (hs k hk hb) hn
    · omega)⟩
theorem Upd.cell {S : Nat→Prop} {w w' : World} (h : Upd S w w') {p : Addr} (hp : p.block<w.heap.size) (hn : ¬ S p.block) : w'.cell? p=w.cell? p:=World.cell?_of_block (w:=w) (h.block p.block hp hn)
theorem Upd.frozen {S : Nat→Prop} {w w' : World} (h : Upd S w w') {p : Addr} (hp : p.block<w.heap.size) (hn : ¬ S p.block) : w'.frozen? p=w.frozen? p:=World.frozen?_of_block (w:=w) (h.block p.block hp hn)
theorem Upd.drewN {S : Nat→Prop} {a w : World} (h : Upd S a w) (n : Nat) : Upd S a (w.drewN n):=⟨h.os,h.tape,h.output,h.size,h.block⟩
theorem Upd.drew {S : Nat→Prop} {a w : World} (h : Upd S a w) : Upd S a w.drew:=⟨h.os,h.tape,h.output,h.size,h.block⟩
theorem Upd.alloc {S : Nat→Prop} {a w : World} (h : Upd S a w) (o : Obj) : Upd S a (w.alloc o) :=
  ⟨h.os,h.tape,h.output,by have:=h.size;simp;omega,fun k hk hn=>(Below.heap_alloc w o k (Nat.lt_of_lt_of_le hk h.size)).trans (h.block k hk hn)⟩
theorem Upd.setCell {S : Nat→Prop} {a w : World} (h : Upd S a w) {p : Addr} (hp : p.block<a.heap.size→S p.block) (u : Value) : Upd S a (w.setCell p u) :=
  ⟨h.os,h.tape,h.output,by have:=h.size;simp [World.setCell];omega,fun k hk hn=>(Below.heap_setCell w p u k (by intro e;subst e;exact hn (hp hk))).trans (h.block k hk hn)⟩
end Go.Proofs.YtmimfkhkilijcaaGreatDoor
namespace Go.RowKit
open Go.Proofs.YtmimfkhkilijcaaGreatDoor
theorem Below.upd {B : Nat} {S : Nat→Prop} {a w w' : World} (h : Below B a w) (k : Upd S w w') (hB : B≤w.heap.size) (hs : ∀ i,i<w.heap.size→S i→B≤i) : Below B a w':=h.trans (k.below hB hs)
end Go.RowKit
namespace Go.Proofs.YtmimfkhkilijcaaGreatDoor
open Go.ChangeShapes Go.WideShapes Go.ChangeAt Go.RowKit
def Sl (B : Nat) (w : World) (size : Nat) (v : Value) (n : Nat) (xs : List Value) : Prop :=
  xs.length=n*size ∧
  ((v = .slice none 0 0∧n=0) ∨
   ∃ g off cap,v = .slice (some ⟨g,off,none⟩) n cap∧B≤g∧g<w.heap.size∧n≤cap∧cap≤maxLen ∧
     (∀ j,j<n*size→w.cell? ⟨g,off+j,none⟩=xs[j]?) ∧
     ∀ j,j<cap*size→(w.cell? ⟨g,off+j,none⟩).isSome=true∧w.frozen? ⟨g,off+j,none⟩=false)
theorem Sl.len {B : Nat} {w : World} {size : Nat} {v : Value} {n : Nat} {xs : List Value} (h : Sl B w size v n xs) : n≤maxLen:=by
  rcases h.2 with ⟨_,rfl⟩|⟨g,off,cap,_,_,_,h1,h2,_⟩
  · exact Nat.zero_le _
  · exact Nat.le_trans h1 h2
theorem Sl.shape {B : Nat} {w : World} {size : Nat} {v : Value} {n : Nat} {xs : List Value} (h : Sl B w size v n xs) : ∃ a c,v = .slice a n c:=by
  rcases h.2 with ⟨rfl,rfl⟩|⟨g,off,cap,rfl,_⟩
  · exact ⟨_,_,rfl⟩
  · exact ⟨_,_,rfl⟩
theorem Sl.nil (B : Nat) (w : World) (size : Nat) : Sl B w size (.slice none 0 0) 0 []:=⟨by simp,.inl ⟨rfl,rfl⟩⟩
theorem Sl.lt {B : Nat} {w : World} {size : Nat} {v : Value} {n : Nat} {xs : List Value} (h : Sl B w size v n xs) : ∀ k,v.ownBlock=some k→B≤k∧k<w.heap.size:=by
  intro k hk
  rcases h.2 with ⟨rfl,_⟩|⟨g,off,cap,rfl,hb,hg,_⟩
  · simp [Value.ownBlock] at hk
  · simp [Value.ownBlock] at hk
    subst hk
    exact ⟨hb,hg⟩
theorem Sl.base {B B' : Nat} {w : World} {size : Nat} {v : Value} {n : Nat} {xs : List Value} (h : Sl B w size v n xs) (hB : B'≤B) : Sl B' w size v n xs :=
  ⟨h.1,h.2.imp id fun ⟨g,off,cap,h1,h2,h3⟩=>⟨g,off,cap,h1,Nat.le_trans hB h2,h3⟩⟩
theorem Sl.upd {B : Nat} {S : Nat→Prop} {w w' : World} {size : Nat} {v : Value} {n : Nat} {xs : List Value} (h : Sl B w size v n xs) (hu : Upd S w w') (hn : ∀ k,v.ownBlock=some k→¬ S k) : Sl B w' size v n xs:=by
  refine ⟨h.1,?_⟩
  rcases h.2 with h0|⟨g,off,cap,rfl,hb,hg,h1,h2,h3,h4⟩
  · exact .inl h0
  · have hS : ¬ S g:=hn g rfl
    exact .inr ⟨g,off,cap,rfl,hb,Nat.lt_of_lt_of_le hg hu.size,h1,h2,fun j hj=>by rw [hu.cell (p:=⟨g,off+j,none⟩) hg hS];exact h3 j hj,
      fun j hj=>by rw [hu.cell (p:=⟨g,off+j,none⟩) hg hS,hu.frozen (p:=⟨g,off+j,none⟩) hg hS];exact h4 j hj⟩
theorem Sl.drewN {B : Nat} {w : World} {size : Nat} {v : Value} {n : Nat} {xs : List Value} (h : Sl B w size v n xs) (m : Nat) : Sl B (w.drewN m) size v n xs :=
  h.upd (S:=fun _=>False) ((Upd.refl _ _).drewN m) (fun _ _ h=>h)
theorem Sl.alloc {B : Nat} {w : World} {size : Nat} {v : Value} {n : Nat} {xs : List Value} (h : Sl B w size v n xs) (o : Obj) : Sl B (w.alloc o) size v n xs :=
  h.upd (S:=fun _=>False) ((Upd.refl _ _).alloc o) (fun _ _ h=>h)
theorem Sl.at_ {B : Nat} {w : World} {size : Nat} {v : Value} {n : Nat} {xs : List Value} (h : Sl B w size v n xs) (h0 : 0<n) : ∃ g off cap,v = .slice (some ⟨g,off,none⟩) n cap∧B≤g∧g<w.heap.size∧∀ j,j<n*size→w.cell? ⟨g,off+j,none⟩=xs[j]?:=by
  rcases h.2 with ⟨_,rfl⟩|⟨g,off,cap,rfl,hb,hg,_,_,h3,_⟩
  · omega
  · exact ⟨g,off,cap,rfl,hb,hg,h3⟩
theorem Sl.made {B : Nat} (w : World) (cur : Array Value) (e : TypeId) (size n cap : Nat) (hB : B≤w.heap.size) (hn : n≤cap) (hm : cap≤maxLen) (hs : cap*size≤cur.size) :
    Sl B (w.alloc (.cells cur e)) size (.slice (some ⟨w.heap.size,0,none⟩) n cap) n (cur.toList.take (n*size)):=by
  have hns : n*size≤cap*size:=Nat.mul_le_mul_right _ hn
  have hc : ∀ j,(w.alloc (.cells cur e)).cell? ⟨w.heap.size,0+j,none⟩=cur[j]?:=by
    intro j
    rw [cell_of_row _ w.heap.size (0+j) cur e (0,0) (heap_alloc_new w _)]
    simp
  refine ⟨by simp;omega,.inr ⟨w.heap.size,0,cap,rfl,hB,by simp,hn,hm,fun j hj=>?_,fun j hj=>⟨?_,?_⟩⟩⟩
  · rw [hc,List.getElem?_take,if_pos hj]
    simp
  · rw [hc,Array.getElem?_eq_getElem (by omega)]
    rfl
  · have e0:=heap_alloc_new w (.cells cur e (0,0))
    simp only [World.frozen?,e0]
    simp
section
variable {P : Program}
theorem upd_setCells (g : Nat) (off : Nat) (vs : List Value) (w : World) : Upd (fun k=>k=g) w (w.setCells g off vs):=by
  have hk:=World.keptBut_setCells g (may:=fun p=>p.block=g) vs off w (fun _ _=>rfl)
  refine ⟨hk.1,?_,hk.2.1,hk.size,fun k h1 h2=>World.heap_setCells_other w g off vs h1 h2⟩
  have : ∀ (vs : List Value) (o : Nat) (w : World),(w.setCells g o vs).tape=w.tape:=by
    intro vs
    induction vs with
    | nil=>intro o w;rfl
    | cons v r ih=>intro o w;exact (ih _ _).trans rfl
  exact this vs off w
theorem cell_setCells_in (g : Nat) (vs : List Value) (off : Nat) (w : World) (hc : ∀ j,j<vs.length→(w.cell? ⟨g,off+j,none⟩).isSome=true) (j : Nat) (hj : j<vs.length) : (w.setCells g off vs).cell? ⟨g,off+j,none⟩=vs[j]?:=by
  rw [World.cell?_setCells_in g vs off w hc j hj,List.getElem?_eq_getElem hj]
theorem frozen_setCells (g : Nat) : ∀ (vs : List Value) (off : Nat) (w : World) (a : Addr),(w.setCells g off vs).frozen? a=w.frozen? a
  | [],_,_,_=>rfl
  | v::r,off,w,a=>by
    show ((w.setCell ⟨g,off,none⟩ v).setCells g (off+1) r).frozen? a=_
    rw [frozen_setCells g r (off+1)]
    exact World.frozen?_setCell _ _ _ _
theorem run_append_sl (w : World) {B : Nat} {size : Nat} (t tx ty e : TypeId) (i : TypeInfo) (z : Value) (bytes : Nat) (ht : P.underlying t=some (.slice e)) (hi : P.info? e=some i) (hz : i.zero=some z) (hsize : i.size=size) (hby : i.bytes=bytes) (hzs : z.cells.size=size)
    {v : Value} {n : Nat} {xs : List Value} (h : Sl B w size v n xs) (x : Value) (m : Nat) (news : List Value) (hs : Src P size tx x m news w) (h63 : n+m≤maxLen) (hbytes : (n+m)*bytes≤140737488355328) (hB : B≤w.heap.size) :
    ∃ v' w',(Builtin.append_ #[t,tx] ty #[v,x]).run P w = .ok v' w'∧Sl B w' size v' (n+m) (xs++news)∧Upd (fun k=>v.ownBlock=some k) w w'∧(∀ k,v'.ownBlock=some k→v.ownBlock=some k∨w.heap.size≤k):=by
  subst hsize
  subst hby
  have hnl:=hs.newsLen
  have hlen : (xs++news).length=(n+m)*i.size:=by rw [List.length_append,h.1,hnl,Nat.add_mul]
  have hsmall : ((n+m : Nat) : Int)≤9223372036854775807:=by simp only [maxLen] at h63;omega
  have grow : ∀ (bs : Option Addr) (sc : Nat),v = .slice bs n sc→sc<n+m→(Builtin.firstCells i.size n (.slice bs n sc)).run P w.drew = .ok xs.toArray w.drew →
      ∃ v' w',(Builtin.append_ #[t,tx] ty #[v,x]).run P w = .ok v' w'∧Sl B w' i.size v' (n+m) (xs++news)∧Upd (fun k=>v.ownBlock=some k) w w'∧(∀ k,v'.ownBlock=some k→v.ownBlock=some k∨w.heap.size≤k):=by
    rintro bs sc rfl hg hold
    have hrun:=run_append_grow_src (P:=P) w t tx ty e i z ht hi hz bs n sc xs hold x m news hs hg hsmall (growslice_fits hg hbytes)
    have hge:=grownCap_ge w (n+m) sc e
    have hcm:=grownCap_le_maxLen w (n+m) sc e h63
    have hsz : grownCap w (n+m) sc e*i.size≤((xs++news).toArray++Builtin.zeroCells z.cells (grownCap w (n+m) sc e - (n+m))).size:=by
      simp only [Array.size_append,List.size_toArray,size_zeroCells,hzs,hlen]
      rw [← Nat.add_mul]
      exact Nat.mul_le_mul_right _ (by omega)
    have hmade:=Sl.made (B:=B) w.drew ((xs++news).toArray++Builtin.zeroCells z.cells (grownCap w (n+m) sc e - (n+m))) e i.size (n+m) _ hB hge hcm hsz
    have etake : ((xs++news).toArray++Builtin.zeroCells z.cells (grownCap w (n+m) sc e - (n+m))).toList.take ((n+m)*i.size)=xs++news:=by
      rw [Array.toList_append,← hlen]
      exact List.take_left
    rw [etake] at hmade
    refine ⟨_,_,hrun,hmade,((Upd.refl _ w).drew).alloc _,fun k hk=>.inr ?_⟩
    have hk' : w.heap.size=k:=by simpa [Value.ownBlock] using hk
    omega
  rcases h.2 with ⟨rfl,rfl⟩|⟨g,off,cap,rfl,hb,hg,hnc,hcm,hcells,hroom⟩
  · have hx : xs=[]:=List.eq_nil_of_length_eq_zero (by simpa using h.1)
    subst hx
    by_cases hm : m=0
    · subst hm
      have hn : news=[]:=List.eq_nil_of_length_eq_zero (by simpa using hnl)
      subst hn
      exact ⟨_,_,run_append_nothing w t tx ty e i ht hi none 0 0 (Nat.le_refl _) x hs,Sl.nil _ _ _,Upd.refl _ _,fun k hk=>.inl hk⟩
    · exact grow none 0 rfl (by omega) (run_firstCells_none w.drew i.size 0 0 0)
  · by_cases hr : n+m≤cap
    · have hle : (n+m)*i.size≤cap*i.size:=Nat.mul_le_mul_right _ hr
      rw [Nat.add_mul] at hle
      have hrun:=run_append_room_src (P:=P) w t tx ty e i ht hi g off n cap x m news hs hr (fun j hj=>by rw [Nat.add_assoc];exact (hroom _ (by omega)).1) (fun j hj=>by rw [Nat.add_assoc];exact (hroom _ (by omega)).2)
      have hu:=upd_setCells g (off+n*i.size) news w
      refine ⟨_,_,hrun,⟨hlen,.inr ⟨g,off,cap,rfl,hb,Nat.lt_of_lt_of_le hg hu.size,hr,hcm,fun j hj=>?_,fun j hj=>⟨?_,?_⟩⟩⟩,hu.mono (fun k _ hk=>by subst hk;rfl),fun k hk=>.inl hk⟩
      · rw [Nat.add_mul] at hj
        by_cases hjo : j<n*i.size
        · rw [World.cell?_setCells_out g news _ w _ (fun _ _=>.inl (by simp;omega)),List.getElem?_append_left (by rw [h.1];exact hjo)]
          exact hcells j hjo
        · rw [List.getElem?_append_right (by rw [h.1];omega),h.1]
          have:=cell_setCells_in g news (off+n*i.size) w (fun i' hi'=>by rw [Nat.add_assoc];exact (hroom _ (by omega)).1) (j - n*i.size) (by omega)
          rw [← this]
          congr 2
          omega
      · by_cases hjo : n*i.size≤j∧j<n*i.size+news.length
        · have:=cell_setCells_in g news (off+n*i.size) w (fun i' hi'=>by rw [Nat.add_assoc];exact (hroom _ (by omega)).1) (j - n*i.size) (by omega)
          rw [show off+n*i.size+(j - n*i.size)=off+j by omega] at this
          rw [this,List.getElem?_eq_getElem (by omega)]
          rfl
        · rw [World.cell?_setCells_out g news _ w _ (fun _ _=>by simp;omega)]
          exact (hroom j hj).1
      · rw [frozen_setCells]
        exact (hroom j hj).2
    · refine grow (some ⟨g,off,none⟩) cap rfl (by omega) (run_firstCells_some w.drew i.size n ⟨g,off,none⟩ n cap xs h.1 (fun j u hu=>?_))
      have hj : j<n*i.size:=by
        have:=(List.getElem?_eq_some_iff.1 hu).1
        rw [h.1] at this;exact this
      rw [Addr.add_lit,← hu]
      exact hcells j hj
theorem wpList_append_sl (w : World) {ops : Array Oper} {rest : List Oper} {o : Oper} {a : Act} {Q : Exit→Act→World→Prop} (hgd : o.guard=none) (s x : Operand) (t tx : TypeId)
    (ho : o.op = .call { callee:=.builtin .append,args:=#[s,x],argTypes:=#[t,tx] })
    {B : Nat} {size : Nat} (e : TypeId) (i : TypeInfo) (z : Value) (bytes : Nat) (ht : P.underlying t=some (.slice e)) (hi : P.info? e=some i) (hz : i.zero=some z) (hsize : i.size=size) (hby : i.bytes=bytes) (hzs : z.cells.size=size)
    {v : Value} {n : Nat} {xs : List Value} (hv : a.eval s=v) (h : Sl B w size v n xs) (xv : Value) (m : Nat) (news : List Value) (hx : a.eval x=xv) (hs : Src P size tx xv m news w)
    (h63 : n+m≤maxLen) (hbytes : (n+m)*bytes≤140737488355328) (hB : B≤w.heap.size)
    (hK : ∀ v' w',Sl B w' size v' (n+m) (xs++news)→Upd (fun k=>v.ownBlock=some k) w w'→(∀ k,v'.ownBlock=some k→v.ownBlock=some k∨w.heap.size≤k)→wpList P ops Q rest (a.put o.dst v') w') : wpList P ops Q (o::rest) a w:=by
  refine wpList_plain hgd fun K hK'=>?_
  obtain ⟨v',w',hrun,r1,r2,r3⟩:=run_append_sl (P:=P) w t tx o.type e i z bytes ht hi hz hsize hby hzs h xv m news hs h63 hbytes hB
  unfold Oper.wp
  simp [execOp,ho,resolve,invoke,builtin,hv,hx,hrun,Result.andThen]
  exact hK' _ _ (hK v' w' r1 r2 r3)
end
structure Own (w : World) (g off n : Nat) (f : Nat→Value) : Prop where
  lt : g<w.heap.size
  cell : ∀ j,j<n→w.cell? ⟨g,off+j,none⟩=some (f j)
  free : ∀ j,j<n→w.frozen? ⟨g,off+j,none⟩=false
theorem Own.upd {S : Nat→Prop} {w w' : World} {g off n : Nat} {f : Nat→Value} (h : Own w g off n f) (hu : Upd S w w') (hn : ¬ S g) : Own w' g off n f :=
  ⟨Nat.lt_of_lt_of_le h.lt hu.size,fun j hj=>(hu.cell (p:=⟨g,off+j,none⟩) h.lt hn).trans (h.cell j hj),fun j hj=>(hu.frozen (p:=⟨g,off+j,none⟩) h.lt hn).trans (h.free j hj)⟩
theorem Own.below {B : Nat} {w w' : World} {g off n : Nat} {f : Nat→Value} (h : Own w g off n f) (hb : Below B w w') (hg : g<B) : Own w' g off n f :=
  h.upd (S:=fun k=>B≤k) (Upd.of_below hb (fun _ _ h=>h)) (by omega)
theorem Own.drew {w : World} {g off n : Nat} {f : Nat→Value} (h : Own w g off n f) : Own w.drew g off n f :=
  h.upd (S:=fun _=>False) ((Upd.refl _ _).drew) id
theorem Own.alloc {w : World} {g off n : Nat} {f : Nat→Value} (h : Own w g off n f) (o : Obj) : Own (w.alloc o) g off n f :=
  h.upd (S:=fun _=>False) ((Upd.refl _ _).alloc o) id
theorem Own.congr {w : World} {g off n : Nat} {f f' : Nat→Value} (h : Own w g off n f) (hf : ∀ j,j<n→f j=f' j) : Own w g off n f' :=
  ⟨h.lt,fun j hj=>by rw [h.cell j hj,hf j hj],h.free⟩
theorem Own.set {w : World} {g off n : Nat} {f : Nat→Value} (h : Own w g off n f) (j : Nat) (hj : j<n) (u : Value) : Own (w.setCell ⟨g,off+j,none⟩ u) g off n (fun i=>if i=j then u else f i):=by
  have hu : w.heap.size≤(w.setCell ⟨g,off+j,none⟩ u).heap.size:=by simp [World.setCell]
  refine ⟨Nat.lt_of_lt_of_le h.lt hu,fun i hi=>?_,fun i hi=>?_⟩
  · by_cases e : i=j
    · subst e
      rw [if_pos rfl]
      exact World.cell?_setCell_same w ⟨g,off+i,none⟩ u (h.cell i hi)
    · rw [if_neg e,World.cell?_setCell_other]
      · exact h.cell i hi
      · exact fun hx=>e (by have:=congrArg Addr.off hx;simp at this;omega)
  · rw [World.frozen?_setCell]
    exact h.free i hi
theorem Own.fill {w : World} {g off n k : Nat} {F G : Nat→Value} (h : Own w g off n (fun j=>if j<k then F j else G j)) (hk : k<n) : Own (w.setCell ⟨g,off+k,none⟩ (F k)) g off n (fun j=>if j<k+1 then F j else G j) :=
  (h.set k hk (F k)).congr (fun j hj=>by
    show (if j=k then _ else _)=_
    by_cases e : j=k
    · subst e;rw [if_pos rfl,if_pos (by omega)]
    · rw [if_neg e]
      by_cases e2 : j<k
      · rw [if_pos e2,if_pos (by omega)]
      · rw [if_neg e2,if_neg (by omega)])
theorem cell_on {B : Nat} {w w' : World} (hb : Below B w w') {p : Addr} {v : Value} (h : w.cell? p=some v) (hp : p.block<B) : w'.cell? p=some v:=(hb.cell hp).trans h
theorem free_on {B : Nat} {w w' : World} (hb : Below B w w') {p : Addr} {v : Bool} (h : w.frozen? p=v) (hp : p.block<B) : w'.frozen? p=v:=(hb.frozen hp).trans h
theorem ret_int {k : IntKind} {a b : Int} (h : a=b) : Ending.returned (.int k a) = .returned (.int k b):=by rw [h]
theorem ret_bool {a b : Bool} (h : a=b) : Ending.returned (.bool a) = .returned (.bool b):=by rw [h]
theorem drop_cons (s : ByteArray) (k : Nat) (h : k<s.size) : s.data.toList.drop k=s[k]::s.data.toList.drop (k+1):=by
  rw [List.drop_eq_getElem_cons (by simpa using h)];rfl
def bv (l : List UInt8) : List Value:=l.map fun b=>Value.int .u8 (b.toNat : Int)
theorem bv_len (a : List UInt8) : (bv a).length=a.length:=List.length_map _
theorem src_one {P : Program} {tx e' : TypeId} (hk : P.underlying tx=some (.slice e')) (w : World) (u : Value) (e : TypeId) (hu : u.oneCell'=true) : Src P 1 tx (.slice (some ⟨w.heap.size,0,none⟩) 1 1) 1 [u] (w.alloc (.cells #[u] e)):=by
  refine Src.ofSlice _ hk ⟨w.heap.size,0,none⟩ 1 1 [u] rfl (fun j x hx=>?_) (fun x hx=>by simp at hx;subst hx;exact hu)
  match j,hx with
  | 0,hx =>
    simp at hx
    subst hx
    rw [show (Addr.mk w.heap.size 0 none).add 0=⟨w.heap.size,0,none⟩ from rfl,cell_of_row _ w.heap.size 0 #[u] e (0,0) (heap_alloc_new w _)]
    rfl
abbrev bstr (l : List UInt8) : ByteArray:=⟨l.toArray⟩
theorem sl_string {P : Program} {B : Nat} {w : World} {v : Value} {n : Nat} {l : List UInt8} (h : Sl B w 1 v n (bv l)) (src dst e : TypeId) (hs : P.underlying src=some (.slice e)) (he : P.underlying e=some (.int .u8)) (hd : P.underlying dst=some .string) :
    (convert src dst v).run P w = .ok (.string (bstr l)) w:=by
  have hl : l.length=n:=by have:=h.1;rw [bv_len] at this;omega
  rcases h.2 with ⟨rfl,rfl⟩|⟨g,off,cap,rfl,hb,hg,h1,h2,h3,h4⟩
  · have : l=[]:=List.eq_nil_of_length_eq_zero hl
    subst this
    rw [run_convert_bytes_string w src dst e none 0 0 hs he hd]
    simp [Conv.bytesToString]
    rfl
  · have:=run_convert_bytes_back (P:=P) w src dst e ⟨g,off,none⟩ cap l hs he hd (fun j hj=>by
      rw [Addr.add_lit,h3 j (by omega)]
      simp [bv,hj])
    rw [hl] at this
    exact this
theorem bytes_sl {B : Nat} (w : World) (s : ByteArray) (e : TypeId) (hB : B≤w.heap.size) (hs : s.size≤maxLen) : Sl B (Lib.bytesWorld w e s) 1 (.slice (some ⟨w.heap.size,0,none⟩) s.size (grownCap w s.size 0 e)) s.size (bv s.data.toList):=by
  have hge:=grownCap_ge w s.size 0 e
  have hcm:=grownCap_le_maxLen w s.size 0 e hs
  have hnew:=Lib.bytesWorld_at_new w e s
  have hsz : (Lib.bytesCells w e s).size=grownCap w s.size 0 e:=by
    simp [Lib.bytesCells];omega
  refine ⟨by rw [bv_len];simp,.inr ⟨w.heap.size,0,_,rfl,hB,by rw [Lib.bytesWorld_size];omega,hge,hcm,fun j hj=>?_,fun j hj=>⟨?_,?_⟩⟩⟩
  · have hj' : j<s.size:=by omega
    rw [Nat.zero_add,Lib.bytesWorld_cell w e s j hj']
    have hj'' : j<s.data.size:=hj'
    simp [bv,Array.getElem?_eq_getElem hj'']
  · rw [Nat.zero_add,cell_of_row _ _ _ _ _ _ hnew,Array.getElem?_eq_getElem (by omega)]
    rfl
  · simp only [World.frozen?,hnew]
    simp
    omega
theorem bytes_upd (S : Nat→Prop) (w : World) (s : ByteArray) (e : TypeId) : Upd S w (Lib.bytesWorld w e s) :=
  ⟨rfl,rfl,rfl,by rw [Lib.bytesWorld_size];omega,fun k hk _=>Lib.bytesWorld_at_old w e s k hk⟩
theorem bytes_below {B : Nat} {a w : World} (h : Below B a w) (hB : B≤a.heap.size) (s : ByteArray) (e : TypeId) : Below B a (Lib.bytesWorld w e s) :=
  h.upd (bytes_upd (fun _=>False) w s e) (Nat.le_trans hB h.size) (fun _ _ h=>h.elim)
theorem on_below {a w w' : World} (h : Below a.heap.size a w) (k : Below w.heap.size w w') : Below a.heap.size a w':=h.trans (k.mono h.size)
theorem un_drew {a w : World} (h : Below a.heap.size a.drew w) : Below a.heap.size a w:=⟨h.os,h.tape,h.output,h.size,h.block⟩
def At (w : World) (g : Nat) (l : List Value) : Prop:=g<w.heap.size∧∀ j (h : j<l.length),w.cell? ⟨g,j,none⟩=some l[j]∧w.frozen? ⟨g,j,none⟩=false
theorem At.alloc (w : World) (l : List Value) (e : TypeId) : At (w.alloc (.cells l.toArray e)) w.heap.size l:=by
  refine ⟨by simp,fun j hj=>⟨?_,?_⟩⟩
  · rw [cell_of_row _ w.heap.size j _ e (0,0) (heap_alloc_new w _)]
    simp [hj]
  · have e0:=heap_alloc_new w (.cells l.toArray e (0,0))
    simp only [World.frozen?,e0]
    simp
theorem At.upd {S : Nat→Prop} {w w' : World} {g : Nat} {l : List Value} (h : At w g l) (hu : Upd S w w') (hn : ¬ S g) : At w' g l :=
  ⟨Nat.lt_of_lt_of_le h.1 hu.size,fun j hj=>⟨(hu.cell (p:=⟨g,j,none⟩) h.1 hn).trans (h.2 j hj).1,(hu.frozen (p:=⟨g,j,none⟩) h.1 hn).trans (h.2 j hj).2⟩⟩
theorem At.on {w w' : World} {g : Nat} {l : List Value} (h : At w g l) (hb : Below w.heap.size w w') : At w' g l :=
  h.upd (S:=fun k=>w.heap.size≤k) (Upd.of_below hb (fun _ _ h=>h)) (by have:=h.1;omega)
theorem At.below {B : Nat} {w w' : World} {g : Nat} {l : List Value} (h : At w g l) (hb : Below B w w') (hg : g<B) : At w' g l :=
  h.upd (S:=fun k=>B≤k) (Upd.of_below hb (fun _ _ h=>h)) (by omega)
theorem At.drew {w : World} {g : Nat} {l : List Value} (h : At w g l) : At w.drew g l:=h.upd (S:=fun _=>False) ((Upd.refl _ _).drew) id
theorem At.drewN {w : World} {g : Nat} {l : List Value} (h : At w g l) (n : Nat) : At (w.drewN n) g l:=h.upd (S:=fun _=>False) ((Upd.refl _ _).drewN n) id
theorem At.one {w : World} {g : Nat} {a : Value} (h : At w g [a]) : g<w.heap.size∧w.cell? ⟨g,0,none⟩=some a∧w.frozen? ⟨g,0,none⟩=false :=
  ⟨h.1,(h.2 0 (by simp)).1,(h.2 0 (by simp)).2⟩
theorem At.two {w : World} {g : Nat} {a b : Value} (h : At w g [a,b]) : g<w.heap.size∧w.cell? ⟨g,0,none⟩=some a∧w.frozen? ⟨g,0,none⟩=false∧w.cell? ⟨g,1,none⟩=some b∧w.frozen? ⟨g,1,none⟩=false :=
  ⟨h.1,(h.2 0 (by simp)).1,(h.2 0 (by simp)).2,(h.2 1 (by simp)).1,(h.2 1 (by simp)).2⟩
theorem At.three {w : World} {g : Nat} {a b c : Value} (h : At w g [a,b,c]) : g<w.heap.size∧w.cell? ⟨g,0,none⟩=some a∧w.frozen? ⟨g,0,none⟩=false∧w.cell? ⟨g,1,none⟩=some b∧w.frozen? ⟨g,1,none⟩=false∧w.cell? ⟨g,2,none⟩=some c∧w.frozen? ⟨g,2,none⟩=false :=
  ⟨h.1,(h.2 0 (by simp)).1,(h.2 0 (by simp)).2,(h.2 1 (by simp)).1,(h.2 1 (by simp)).2,(h.2 2 (by simp)).1,(h.2 2 (by simp)).2⟩
theorem At.set {w : World} {g : Nat} {l : List Value} (h : At w g l) (i : Nat) (hi : i<l.length) (v : Value) : At (w.setCell ⟨g,i,none⟩ v) g (l.set i v):=by
  have hu : w.heap.size≤(w.setCell ⟨g,i,none⟩ v).heap.size:=by simp [World.setCell]
  refine ⟨Nat.lt_of_lt_of_le h.1 hu,fun j hj=>⟨?_,?_⟩⟩
  · by_cases e : i=j
    · subst e
      rw [List.getElem_set_self]
      exact World.cell?_setCell_same w ⟨g,i,none⟩ v (h.2 i hi).1
    · rw [List.getElem_set_ne e,World.cell?_setCell_other]
      · exact (h.2 j (by simpa using hj)).1
      · exact fun hx=>e (by have:=congrArg Addr.off hx;simp at this;omega)
  · rw [World.frozen?_setCell]
    exact (h.2 j (by simpa using hj)).2
theorem At.put3 {w : World} {g : Nat} {a b c : Value} (h : At w g [a,b,c]) :
    (∀ x,(w.setCell ⟨g,0,none⟩ x).cell? ⟨g,0,none⟩=some x)∧(∀ x y,((w.setCell ⟨g,0,none⟩ x).setCell ⟨g,1,none⟩ y).cell? ⟨g,1,none⟩=some y)∧(∀ x y z,(((w.setCell ⟨g,0,none⟩ x).setCell ⟨g,1,none⟩ y).setCell ⟨g,2,none⟩ z).cell? ⟨g,2,none⟩=some z) :=
  ⟨fun x=>((h.set 0 (by simp) x).2 0 (by simp)).1,fun x y=>(((h.set 0 (by simp) x).set 1 (by simp) y).2 1 (by simp)).1,fun x y z=>((((h.set 0 (by simp) x).set 1 (by simp) y).set 2 (by simp) z).2 2 (by simp)).1⟩
theorem At.five {w : World} {g : Nat} {a b c d e : Value} (h : At w g [a,b,c,d,e]) : g<w.heap.size∧w.cell? ⟨g,0,none⟩=some a∧w.frozen? ⟨g,0,none⟩=false∧w.cell? ⟨g,1,none⟩=some b∧w.frozen? ⟨g,1,none⟩=false∧w.cell? ⟨g,2,none⟩=some c∧w.frozen? ⟨g,2,none⟩=false∧w.cell? ⟨g,3,none⟩=some d∧w.frozen? ⟨g,3,none⟩=false∧w.cell? ⟨g,4,none⟩=some e∧w.frozen? ⟨g,4,none⟩=false :=
  ⟨h.1,(h.2 0 (by simp)).1,(h.2 0 (by simp)).2,(h.2 1 (by simp)).1,(h.2 1 (by simp)).2,(h.2 2 (by simp)).1,(h.2 2 (by simp)).2,(h.2 3 (by simp)).1,(h.2 3 (by simp)).2,(h.2 4 (by simp)).1,(h.2 4 (by simp)).2⟩
theorem At.put5 {w : World} {g : Nat} {a b c d e : Value} (h : At w g [a,b,c,d,e]) :
    (∀ x,(w.setCell ⟨g,0,none⟩ x).cell? ⟨g,0,none⟩=some x)∧(∀ x y,((w.setCell ⟨g,0,none⟩ x).setCell ⟨g,1,none⟩ y).cell? ⟨g,1,none⟩=some y)∧(∀ x y z,(((w.setCell ⟨g,0,none⟩ x).setCell ⟨g,1,none⟩ y).setCell ⟨g,2,none⟩ z).cell? ⟨g,2,none⟩=some z) ∧
    (∀ x y z u,((((w.setCell ⟨g,0,none⟩ x).setCell ⟨g,1,none⟩ y).setCell ⟨g,2,none⟩ z).setCell ⟨g,3,none⟩ u).cell? ⟨g,3,none⟩=some u)∧(∀ x y z u v,(((((w.setCell ⟨g,0,none⟩ x).setCell ⟨g,1,none⟩ y).setCell ⟨g,2,none⟩ z).setCell ⟨g,3,none⟩ u).setCell ⟨g,4,none⟩ v).cell? ⟨g,4,none⟩=some v) :=
  ⟨fun x=>((h.set 0 (by simp) x).2 0 (by simp)).1,fun x y=>(((h.set 0 (by simp) x).set 1 (by simp) y).2 1 (by simp)).1,fun x y z=>((((h.set 0 (by simp) x).set 1 (by simp) y).set 2 (by simp) z).2 2 (by simp)).1,
    fun x y z u=>(((((h.set 0 (by simp) x).set 1 (by simp) y).set 2 (by simp) z).set 3 (by simp) u).2 3 (by simp)).1,fun x y z u v=>((((((h.set 0 (by simp) x).set 1 (by simp) y).set 2 (by simp) z).set 3 (by simp) u).set 4 (by simp) v).2 4 (by simp)).1⟩
theorem info_int : (Tryz.prog.info? 3).map (fun i=>(i.zero,i.size,i.bytes))=some (some (.int .i64 0),1,8):=by kernel_rfl
def iv (l : List Int) : List Value:=l.map fun n=>Value.int .i64 n
theorem iv_len (l : List Int) : (iv l).length=l.length:=List.length_map _
theorem rowi_of_sl {B : Nat} {w : World} {v : Value} {n : Nat} {l : List Int} (h : Sl B w 1 v n (iv l)) (hb : ∀ x∈l,-9223372036854775808≤x∧x≤9223372036854775807) : n=l.length∧∃ a c,v = .slice a l.length c∧RowI w .i64 a l:=by
  have hl:=h.1
  rw [iv_len] at hl
  have hn : n=l.length:=by omega
  subst hn
  have hm:=h.len
  have hwf : ∀ x∈l,(Lit.int .i64 x).wf=true:=fun x hx=>by have:=hb x hx;simp [Lit.wf,IntKind.min,IntKind.max,IntKind.bits,IntKind.signed];omega
  refine ⟨rfl,?_⟩
  rcases h.2 with ⟨rfl,h0⟩|⟨g,off,cap,rfl,hb,hg,h1,h2,h3,h4⟩
  · rw [h0]
    exact ⟨_,_,rfl,by omega,fun i hi=>by omega,hwf⟩
  · refine ⟨_,_,rfl,hm,fun i hi=>⟨g,off,rfl,hg,?_⟩,hwf⟩
    rw [h3 i (by omega)]
    simp [iv,hi]
theorem src_oneN {P : Program} {tx e' : TypeId} (hk : P.underlying tx=some (.slice e')) (w : World) (u : Value) (e : TypeId) (N : Nat) (hN : w.heap.size=N) (hu : u.oneCell'=true) : Src P 1 tx (.slice (some ⟨N,0,none⟩) 1 1) 1 [u] (w.alloc (.cells #[u] e)):=by
  subst hN
  exact src_one hk w u e hu
theorem Sl.set_other {B : Nat} {w : World} {size : Nat} {v : Value} {n : Nat} {xs : List Value} (h : Sl B w size v n xs) {p : Addr} (hp : p.block<B) (u : Value) : Sl B (w.setCell p u) size v n xs :=
  have hu : Upd (fun k=>k=p.block) w (w.setCell p u):=(Upd.refl (fun k=>k=p.block) w).setCell (p:=p) (fun _=>rfl) u
  h.upd hu (fun k hk e=>by have:=(h.lt k hk).1;omega)
theorem At.set_other {w : World} {g : Nat} {l : List Value} (h : At w g l) {p : Addr} (hp : p.block≠g) (u : Value) : At (w.setCell p u) g l :=
  have hu : Upd (fun k=>k=p.block) w (w.setCell p u):=(Upd.refl (fun k=>k=p.block) w).setCell (p:=p) (fun _=>rfl) u
  h.upd hu (fun e=>hp e.symm)
theorem iv_snoc (l : List Int) (x : Int) : iv (l++[x])=iv l++[.int .i64 x]:=by simp [iv]
theorem iv_drop (l : List Int) (n : Nat) : iv (l.drop n)=(iv l).drop n:=by simp [iv]
theorem RowI.cell {k : IntKind} {w : World} {b off : Nat} {l : List Int} (h : RowI w k (some ⟨b,off,none⟩) l) (i : Nat) (hi : i<l.length) : b<w.heap.size∧w.cell? ⟨b,off+i,none⟩=some (.int k l[i]):=by
  obtain ⟨b',off',e,h1,h2⟩:=h.at_ i hi
  cases e
  exact ⟨h1,h2⟩
theorem row_part {k : IntKind} {w : World} {b off : Nat} {l : List Int} (h : RowI w k (some ⟨b,off,none⟩) l) (lo hi o : Nat) (ho : o=off+lo) (h2 : hi≤l.length) (W : List Int) (hW : W=(l.take hi).drop lo) : RowI w k (some ⟨b,o,none⟩) W:=by
  subst ho hW
  refine ⟨by have:=h.len;rw [List.length_drop,List.length_take];omega,fun i hi'=>?_,fun x hx=>h.wf x (List.mem_of_mem_take (List.mem_of_mem_drop hx))⟩
  rw [List.length_drop,List.length_take] at hi'
  obtain ⟨hb,hc⟩:=h.cell (lo+i) (by omega)
  refine ⟨b,off+lo,rfl,hb,?_⟩
  rw [List.getElem_drop,List.getElem_take,Nat.add_assoc]
  exact hc
structure RowG {α : Type} (w : World) (m : Nat) (f : α→List Value) (a : Option Addr) (l : List α) : Prop where
  at_ : ∀ (i : Nat) (h : i<l.length),∃ b off,a=some ⟨b,off,none⟩∧b<w.heap.size∧∀ j,j<m→w.cell? ⟨b,off+i*m+j,none⟩=(f l[i])[j]?
theorem RowG.upd {α : Type} {S : Nat→Prop} {w w' : World} {m : Nat} {f : α→List Value} {a : Option Addr} {l : List α} (h : RowG w m f a l) (hu : Upd S w w') (hn : ∀ p,a=some p→¬ S p.block) : RowG w' m f a l :=
  ⟨fun i hi=>by
    obtain ⟨b,off,h1,h2,h3⟩:=h.at_ i hi
    exact ⟨b,off,h1,Nat.lt_of_lt_of_le h2 hu.size,fun j hj=>by rw [hu.cell (p:=⟨b,off+i*m+j,none⟩) h2 (hn ⟨b,off,none⟩ h1)];exact h3 j hj⟩⟩
theorem RowG.below {α : Type} {w w' : World} {m : Nat} {f : α→List Value} {a : Option Addr} {l : List α} (h : RowG w m f a l) (hb : Below w.heap.size w w') : RowG w' m f a l :=
  ⟨fun i hi=>by
    obtain ⟨b,off,h1,h2,h3⟩:=h.at_ i hi
    exact ⟨b,off,h1,Nat.lt_of_lt_of_le h2 hb.size,fun j hj=>by rw [hb.cell (p:=⟨b,off+i*m+j,none⟩) h2];exact h3 j hj⟩⟩
theorem RowG.cell {α : Type} {w : World} {m : Nat} {f : α→List Value} {b off : Nat} {l : List α} (h : RowG w m f (some ⟨b,off,none⟩) l) (i : Nat) (hi : i<l.length) : b<w.heap.size∧∀ j,j<m→w.cell? ⟨b,off+i*m+j,none⟩=(f l[i])[j]?:=by
  obtain ⟨b',off',e,h1,h2⟩:=h.at_ i hi
  cases e
  exact ⟨h1,h2⟩
theorem cells_list {w : World} {a : Addr} : ∀ (L : List Nat) (cs : List Value),L.mapM (fun i=>w.cell? (a.add i))=some cs→L.length=cs.length∧∀ j (hj : j<L.length),w.cell? (a.add L[j])=cs[j]?:=by
  intro L
  induction L with
  | nil=>intro cs h;simp at h;subst h;exact ⟨rfl,fun j hj=>by simp at hj⟩
  | cons x r ih =>
    intro cs h
    rw [List.mapM_cons] at h
    cases hx : w.cell? (a.add x) with
    | none=>rw [hx] at h;simp at h
    | some v =>
      rw [hx] at h
      cases hr : r.mapM (fun i=>w.cell? (a.add i)) with
      | none=>rw [hr] at h;simp at h
      | some vs =>
        rw [hr] at h
        simp at h
        subst h
        obtain ⟨h1,h2⟩:=ih vs hr
        refine ⟨by simp [h1],fun j hj=>?_⟩
        cases j with
        | zero=>simpa using hx
        | succ j =>
          have:=h2 j (by simpa using hj)
          simpa using this
theorem cells_nth {w : World} {a : Addr} {m : Nat} {cs : List Value} (h : w.cells? 0 a m=some cs) : ∀ j,j<m→w.cell? (a.add j)=cs[j]?:=by
  have h' : (List.range m).mapM (fun i=>w.cell? (a.add i))=some cs:=by
    unfold World.cells? at h
    rw [if_pos (Nat.zero_le _)] at h
    exact h
  obtain ⟨h1,h2⟩:=cells_list _ _ h'
  intro j hj
  have:=h2 j (by simpa using hj)
  simpa using this
theorem cells_len {w : World} {a : Addr} {m : Nat} {cs : List Value} (h : w.cells? 0 a m=some cs) : cs.length=m:=by
  have h' : (List.range m).mapM (fun i=>w.cell? (a.add i))=some cs:=by
    unfold World.cells? at h
    rw [if_pos (Nat.zero_le _)] at h
    exact h
  have:=(cells_list _ _ h').1
  simpa using this.symm
theorem Rd.rowG {s : Sh} (m : Nat) (hm : s.n=m) (h0 : 0<m) (f : s.T→List Value) (Q : s.T→Prop) (hf : ∀ w cs d,Rd w s cs d→cs=f d∧Q d) {w : World} {a : Option Addr} {n c : Nat} {l : List s.T} (h : Rd w (.sl s) [.slice a n c] l) :
    n=l.length∧n≤c∧c≤maxLen∧RowG w m f a l∧∀ x∈l,Q x:=by
  subst hm
  rcases h with ⟨h1,h2⟩|⟨x,cap,el,h1,hl,hmx,hx⟩
  · simp at h1
    have h3 : l=[]:=h2
    subst h3
    obtain ⟨rfl,rfl,rfl⟩:=h1
    exact ⟨rfl,Nat.le_refl _,Nat.zero_le _,⟨fun i hi=>by simp at hi⟩,by simp⟩
  · simp at h1
    obtain ⟨rfl,rfl,rfl⟩:=h1
    have hx' : ∀ (i : Nat) (hi : i<l.length),(∀ j,j<s.n→w.cell? ((x.add (i*s.n)).add j)=(f l[i])[j]?)∧(f l[i]).length=s.n∧Q l[i]:=by
      intro i hi
      obtain ⟨h1,h2⟩:=hx i l[i] (List.getElem?_eq_getElem hi)
      obtain ⟨e,hq⟩:=hf w _ _ h2
      rw [e] at h1
      exact ⟨cells_nth h1,cells_len h1,hq⟩
    refine ⟨rfl,hl,hmx,⟨fun i hi=>?_⟩,fun y hy=>?_⟩
    · obtain ⟨d0,e0,_⟩:=hx' 0 (by omega)
      have c0:=d0 0 h0
      rw [List.getElem?_eq_getElem (by omega)] at c0
      have hs : x.spot=none:=by have:=cell_spot c0;simpa [Addr.add] using this
      obtain ⟨b,off,sp⟩:=x
      simp at hs
      subst hs
      refine ⟨b,off,rfl,by simpa [Addr.add] using cell_lt c0,fun j hj=>?_⟩
      have:=(hx' i hi).1 j hj
      rw [Addr.add_lit,Addr.add_lit] at this
      exact this
    · obtain ⟨i,hi,rfl⟩:=List.mem_iff_getElem.1 hy
      exact (hx' i hi).2.2
def sv (l : List ByteArray) : List Value:=l.map fun s=>Value.string s
theorem sv_len (l : List ByteArray) : (sv l).length=l.length:=List.length_map _
theorem sv_snoc (l : List ByteArray) (x : ByteArray) : sv (l++[x])=sv l++[.string x]:=by simp [sv]
structure RowS (w : World) (a : Option Addr) (l : List ByteArray) : Prop where
  at_ : ∀ (i : Nat) (h : i<l.length),∃ b off,a=some ⟨b,off,none⟩∧b<w.heap.size∧w.cell? ⟨b,off+i,none⟩=some (.string l[i])
theorem RowS.below {w w' : World} {a : Option Addr} {l : List ByteArray} (h : RowS w a l) (hb : Below w.heap.size w w') : RowS w' a l :=
  ⟨fun i hi=>by
    obtain ⟨b,off,h1,h2,h3⟩:=h.at_ i hi
    exact ⟨b,off,h1,Nat.lt_of_lt_of_le h2 hb.size,by rw [hb.cell (p:=⟨b,off+i,none⟩) h2];exact h3⟩⟩
theorem RowS.cell {w : World} {b off : Nat} {l : List ByteArray} (h : RowS w (some ⟨b,off,none⟩) l) (i : Nat) (hi : i<l.length) : b<w.heap.size∧w.cell? ⟨b,off+i,none⟩=some (.string l[i]):=by
  obtain ⟨b',off',e,h1,h2⟩:=h.at_ i hi
  cases e
  exact ⟨h1,h2⟩
theorem Rd.strs {w : World} {a : Option Addr} {n c : Nat} {l : List ByteArray} (h : Rd w (.sl .str) [.slice a n c] l) : n=l.length∧n≤c∧c≤maxLen∧RowS w a l:=by
  rcases h with ⟨h1,h2⟩|⟨x,cap,el,h1,hl,hm,hx⟩
  · simp at h1
    have h3 : l=[]:=h2
    subst h3
    obtain ⟨rfl,rfl,rfl⟩:=h1
    exact ⟨rfl,Nat.le_refl _,Nat.zero_le _,⟨fun i hi=>by simp at hi⟩⟩
  · simp at h1
    obtain ⟨rfl,rfl,rfl⟩:=h1
    have hx' : ∀ (i : Nat) (y : ByteArray),l[i]? = some y→w.cells? 0 (x.add i) 1=some (el i)∧el i=[.string y]∧y.size≤maxLen:=by
      intro i y hy
      have h0:=hx i y hy
      have hb : w.cells? 0 (x.add (i*1)) 1=some (el i):=h0.1
      rw [Nat.mul_one] at hb
      exact ⟨hb,h0.2⟩
    refine ⟨rfl,hl,hm,⟨fun i hi=>?_⟩⟩
    have h0:=hx' 0 (l[0]'(by omega)) (List.getElem?_eq_getElem (by omega))
    have hi':=hx' i l[i] (List.getElem?_eq_getElem hi)
    obtain ⟨v0,_,c0⟩:=cells_one h0.1
    obtain ⟨vi,e1,ci⟩:=cells_one hi'.1
    have hs : x.spot=none:=by have:=cell_spot c0;simpa [Addr.add] using this
    obtain ⟨b,off,sp⟩:=x
    simp at hs
    subst hs
    refine ⟨b,off,rfl,by have:=cell_lt c0;simpa [Addr.add] using this,?_⟩
    have e2 : (Addr.mk b off none).add i=⟨b,off+i,none⟩:=by unfold Addr.add;by_cases h0 : i=0 <;> simp [h0]
    rw [e2] at ci
    rw [ci]
    have : vi = .string l[i]:=by
      have:=hi'.2.1;rw [e1] at this;simpa using this
    rw [this]
theorem rows_from {P : Program} {a : Option Addr} {n c : Nat} {t e : TypeId} (hc : n≤c) (hm : c≤maxLen) (ht : P.underlying t=some (.slice e)) (hz : ∀ w,(Go.sizeOf e).run P w = .ok 1 w) (lo m : Nat) (zl : Int) (hzl : zl=lo) (hlo : lo≤n) (hmn : m=n - lo) :
    ∃ a' c',(∀ w',(Instr.slice t (.slice a n c) (some (.int .i64 zl)) none none).run P w' = .ok (.slice a' m c') w')∧m≤c'∧c'≤c∧∀ w' ws,ws.length=n→RowS w' a ws→RowS w' a' (ws.drop lo):=by
  subst hzl hmn
  have ht' : P.underlying t=some (.slice (P.elem t)):=by simp [Program.elem,ht]
  have he : P.elem t=e:=by simp [Program.elem,ht]
  unfold maxLen at hm
  refine ⟨if c=lo then a else a.map (·.add lo),c - lo,fun w'=>?_,by omega,by omega,fun w' ws hw h'=>?_⟩
  · rw [run_slice_l w' t a n c ht' .i64 (lo : Int) (by omega) (by omega),he,hz]
    simp only [Result.andThen,sliced,Int.toNat_natCast,Nat.mul_one]
  · refine ⟨fun i hi'=>?_⟩
    rw [List.length_drop] at hi'
    obtain ⟨b,off,rfl,hb,hcell⟩:=h'.at_ (lo+i) (by omega)
    refine ⟨b,off+lo,?_,hb,?_⟩
    · rw [if_neg (by omega)]
      show some ((Addr.mk b off none).add lo)=_
      rw [Addr.add_lit]
    · rw [List.getElem_drop,Nat.add_assoc]
      exact hcell
theorem Sl.onW {B : Nat} {w w' : World} {size : Nat} {v : Value} {n : Nat} {xs : List Value} (h : Sl B w size v n xs) (hb : Below w.heap.size w w') : Sl B w' size v n xs :=
  h.upd (S:=fun k=>w.heap.size≤k) (Upd.of_below hb (fun _ _ h=>h)) (fun k hk=>by have:=(h.lt k hk).2;omega)
theorem RowS.upd {S : Nat→Prop} {w w' : World} {a : Option Addr} {l : List ByteArray} (h : RowS w a l) (hu : Upd S w w') (hn : ∀ p,a=some p→¬ S p.block) : RowS w' a l :=
  ⟨fun i hi=>by
    obtain ⟨b,off,h1,h2,h3⟩:=h.at_ i hi
    exact ⟨b,off,h1,Nat.lt_of_lt_of_le h2 hu.size,by rw [hu.cell (p:=⟨b,off+i,none⟩) h2 (hn ⟨b,off,none⟩ h1)];exact h3⟩⟩
theorem RowS.lt {w : World} {a : Option Addr} {l : List ByteArray} (h : RowS w a l) (h0 : 0<l.length) : ∃ b off,a=some ⟨b,off,none⟩∧b<w.heap.size:=by
  obtain ⟨b,off,h1,h2,_⟩:=h.at_ 0 h0
  exact ⟨b,off,h1,h2⟩
theorem rows_of_sl {B : Nat} {w : World} {v : Value} {n : Nat} {l : List ByteArray} (h : Sl B w 1 v n (sv l)) : n=l.length∧∃ a c,v = .slice a l.length c∧l.length≤c∧RowS w a l:=by
  have hl:=h.1
  rw [sv_len] at hl
  have hn : n=l.length:=by omega
  subst hn
  refine ⟨rfl,?_⟩
  rcases h.2 with ⟨rfl,h0⟩|⟨g,off,cap,rfl,hb,hg,h1,h2,h3,h4⟩
  · rw [h0]
    exact ⟨_,_,rfl,Nat.le_refl _,⟨fun i hi=>by omega⟩⟩
  · refine ⟨_,_,rfl,h1,⟨fun i hi=>⟨g,off,rfl,hg,?_⟩⟩⟩
    rw [h3 i (by omega)]
    simp [sv,hi]
end Go.Proofs.YtmimfkhkilijcaaGreatDoor
