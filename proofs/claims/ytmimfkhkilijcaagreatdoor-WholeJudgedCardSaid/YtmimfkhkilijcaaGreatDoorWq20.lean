/- KSat: what is reached of them. -/
import Derived.Test.YtmimfkhkilijcaaGreatDoorRows
import Derived.Test.YtmimfkhkilijcaaGreatDoorWq01
import Derived.WalkKit
import Derived.ProofKit
import Derived.OpenShut
import Derived.Handy
import Derived.BigQuiet
import Derived.Deep.QuietTactic
import Derived.IntWalk
import Derived.Outline
import Derived.Lib.Hide
import Derived.BigRegion
import Derived.WalkLawsBesides
import Derived.Deep.RegionHeld3
import Derived.Deep.RegionWith
set_option linter.unusedVariables false
set_option linter.unusedSimpArgs false
set_option maxRecDepth 100000
set_option maxHeartbeats 8000000
namespace Go.Proofs.YtmimfkhkilijcaaGreatDoor
namespace PSat
def lo : Int:=-9223372036854775808
def hi : Int:=9223372036854775807
def inR (n : Int) : Prop:=-9223372036854775808≤n∧n≤9223372036854775807
def clampI (n : Int) : Int:=if n < -9223372036854775808 then -9223372036854775808 else if 9223372036854775807<n then 9223372036854775807 else n
def add (a b : Int) : Int:=clampI (a+b)
def sub (a b : Int) : Int:=clampI (a - b)
theorem clamp_in (n : Int) : inR (clampI n):=by unfold clampI inR;split <;> (try split) <;> omega
theorem add_in (a b : Int) : inR (add a b):=clamp_in _
theorem sub_in (a b : Int) : inR (sub a b):=clamp_in _
theorem add_mono {a b : Int} (c : Int) (h : a≤b) : add a c≤add b c:=by unfold add clampI;(repeat' split) <;> omega
theorem sub_mono {a b : Int} (c : Int) (h : a≤b) : sub a c≤sub b c:=by unfold sub clampI;(repeat' split) <;> omega
def sum (l : List Int) : Int:=l.foldl add 0
end PSat
open Go.ChangeShapes Go.WideShapes Go.ChangeAt Go.RowKit PSat
theorem ref_add (a b : Int) (w : World) (ha : -9223372036854775808≤a∧a≤9223372036854775807) (hb : -9223372036854775808≤b∧b≤9223372036854775807) :
    Calls Tryz.prog 54 #[.int .i64 a,.int .i64 b] w fun e w'=>e = .returned (.int .i64 (add a b))∧w=w':=by
  obtain ⟨ha1,ha2⟩:=ha
  obtain ⟨hb1,hb2⟩:=hb
  go_enter Tryz.func54,Tryz.ntmps54
  go_wp2
  all_goals go_ret
  all_goals refine ⟨ret_int ?_,rfl⟩
  all_goals (unfold add clampI;(repeat' split) <;> omega)
theorem sat_sub (a b : Int) (w : World) (ha : -9223372036854775808≤a∧a≤9223372036854775807) (hb : -9223372036854775808≤b∧b≤9223372036854775807) :
    Calls Tryz.prog 304 #[.int .i64 a,.int .i64 b] w fun e w'=>e = .returned (.int .i64 (sub a b))∧w=w':=by
  obtain ⟨ha1,ha2⟩:=ha
  obtain ⟨hb1,hb2⟩:=hb
  go_enter Tryz.func304,Tryz.ntmps304
  go_wp2
  all_goals go_ret
  all_goals refine ⟨ret_int ?_,rfl⟩
  all_goals (unfold sub clampI;(repeat' split) <;> omega)
end Go.Proofs.YtmimfkhkilijcaaGreatDoor
namespace Go.Proofs.YtmimfkhkilijcaaGreatDoor
namespace PClamp
def rise (m : Int) : List Int→List Int
  | []=>[]
  | x::l=>if m<x then x::rise x l else rise m l
def most (m : Int) : List Int→Int
  | []=>m
  | x::l=>most (if m<x then x else m) l
theorem most_snoc : ∀ (l : List Int) (m x : Int),most m (l++[x])=if most m l<x then x else most m l
  | [],_,_=>rfl
  | y::l,m,x=>most_snoc l _ x
theorem most_ge : ∀ (l : List Int) (m : Int),m≤most m l
  | [],m=>Int.le_refl m
  | y::l,m=>by
    have:=most_ge l (if m<y then y else m)
    unfold most
    split at this <;> split <;> omega
theorem most_in : ∀ (l : List Int) (m : Int),most m l=m∨most m l∈l
  | [],m=>.inl rfl
  | y::l,m=>by
    unfold most
    by_cases h : m<y
    · rw [if_pos h]
      rcases most_in l y with e|e
      · right;rw [e];exact List.mem_cons_self ..
      · exact .inr (List.mem_cons_of_mem _ e)
    · rw [if_neg h]
      rcases most_in l m with e|e
      · exact .inl e
      · exact .inr (List.mem_cons_of_mem _ e)
theorem most_take (l : List Int) (m : Int) (k : Nat) (h : k<l.length) : most m (l.take (k+1))=if most m (l.take k)<l[k] then l[k] else most m (l.take k):=by
  rw [List.take_succ_eq_append_getElem h,most_snoc]
end PClamp
open Go.ChangeShapes Go.WideShapes Go.ChangeAt Go.RowKit PClamp
def ClampC (w : World) (g : Nat) (m : Int) (r : List Value) : Prop:=∃ (n : Int) (b : Bool),At w g (.int .i64 n :: .bool b::r)∧(if b then n else -9223372036854775808)=m
theorem ClampC.upd {S : Nat→Prop} {w w' : World} {g : Nat} {m : Int} {r : List Value} (h : ClampC w g m r) (hu : Upd S w w') (hn : ¬ S g) : ClampC w' g m r:=by
  obtain ⟨n,b,h1,h2⟩:=h
  exact ⟨n,b,h1.upd hu hn,h2⟩
theorem ClampC.on {w w' : World} {g : Nat} {m : Int} {r : List Value} (h : ClampC w g m r) (hb : Below w.heap.size w w') : ClampC w' g m r:=by
  obtain ⟨n,b,h1,h2⟩:=h
  exact ⟨n,b,h1.on hb,h2⟩
theorem ClampC.lt {w : World} {g : Nat} {m : Int} {r : List Value} (h : ClampC w g m r) : g<w.heap.size:=by
  obtain ⟨n,b,h1,h2⟩:=h
  exact h1.1
theorem ClampC.drew {w : World} {g : Nat} {m : Int} {r : List Value} (h : ClampC w g m r) : ClampC w.drew g m r:=h.upd (S:=fun _=>False) ((Upd.refl _ _).drew) id
theorem ClampC.alloc {w : World} {g : Nat} {m : Int} {r : List Value} (h : ClampC w g m r) (o : Obj) : ClampC (w.alloc o) g m r:=h.upd (S:=fun _=>False) ((Upd.refl _ _).alloc o) id
theorem ClampC.made (w : World) (r : List Value) (e : TypeId) : ClampC (w.alloc (.cells (.int .i64 0 :: .bool false::r).toArray e)) w.heap.size (-9223372036854775808) r:=⟨0,false,At.alloc w _ e,rfl⟩
def RaiseTo (g : Nat) (m n : Int) (r : List Value) (w w' : World) : Prop:=ClampC w' g (if m<n then n else m) r∧Upd (fun k=>k=g) w w'
theorem cl_now (g : Nat) (m : Int) (r : List Value) (w : World) (h : ClampC w g m r) :
    Calls Tryz.prog 120 #[.pointer (some ⟨g,0,none⟩)] w fun e w'=>e = .returned (.int .i64 m)∧w=w':=by
  obtain ⟨n,b,hat,rfl⟩:=h
  have hg:=hat.1
  have h0:=hat.2 0 (by simp)
  have h1:=hat.2 1 (by simp)
  simp only [List.getElem_cons_zero,List.getElem_cons_succ] at h0 h1
  obtain ⟨c0,z0⟩:=h0
  obtain ⟨c1,z1⟩:=h1
  cases b
  · go_enter Tryz.func120,Tryz.ntmps120
    go_wp2
    go_ret
    exact ⟨rfl,rfl⟩
  · go_enter Tryz.func120,Tryz.ntmps120
    go_wp2
    go_ret
    exact ⟨rfl,rfl⟩
theorem cl_raise (g : Nat) (m n : Int) (r : List Value) (w : World) (h : ClampC w g m r) :
    Calls Tryz.prog 213 #[.pointer (some ⟨g,0,none⟩),.int .i64 n] w fun e w'=>e = .returned (.bool (decide (m<n)))∧RaiseTo g m n r w w':=by
  have HC:=Lib.hid h
  obtain ⟨n0,b,hat,hm⟩:=h
  have HM:=Lib.hid hm
  have HA:=Lib.hid hat
  have hg:=hat.1
  have h0:=hat.2 0 (by simp)
  have h1:=hat.2 1 (by simp)
  simp only [List.getElem_cons_zero,List.getElem_cons_succ] at h0 h1
  obtain ⟨c0,z0⟩:=h0
  obtain ⟨c1,z1⟩:=h1
  clear hat hm
  by_cases hlt : m<n
  · go_enter Tryz.func213,Tryz.ntmps213
    go_wp2_with (go_at_call 120;refine (cl_now _ _ _ _ HC.out).mono ?_;rintro e w' ⟨rfl,rfl⟩)
    go_ret
    refine ⟨ret_bool (by simp [hlt]),?_,?_⟩
    · rw [if_pos hlt]
      refine ⟨n,true,?_,rfl⟩
      have:=(HA.out.set 0 (by simp) (.int .i64 n)).set 1 (by simp) (.bool true)
      simpa using this
    · exact ((Upd.refl (fun k=>k=g) w).setCell (p:=⟨g,0,none⟩) (fun _=>rfl) _).setCell (p:=⟨g,1,none⟩) (fun _=>rfl) _
  · have hle : n≤m:=by omega
    go_enter Tryz.func213,Tryz.ntmps213
    go_wp2_with (go_at_call 120;refine (cl_now _ _ _ _ HC.out).mono ?_;rintro e w' ⟨rfl,rfl⟩)
    go_ret
    refine ⟨ret_bool (by simp [hlt]),?_,Upd.refl _ _⟩
    rw [if_neg (show ¬ m<n by omega)]
    exact HC.out
theorem cl_up (g : Nat) (m n : Int) (r : List Value) (w : World) (h : ClampC w g m r) (hlt : m<n) :
    Calls Tryz.prog 213 #[.pointer (some ⟨g,0,none⟩),.int .i64 n] w fun e w'=>e = .returned (.bool true)∧ClampC w' g n r∧Upd (fun k=>k=g) w w':=by
  refine (cl_raise g m n r w h).mono ?_
  rintro e w' ⟨h1,h2,h3⟩
  rw [if_pos hlt] at h2
  simp [hlt] at h1
  exact ⟨h1,h2,h3⟩
theorem cl_stay (g : Nat) (m n : Int) (r : List Value) (w : World) (h : ClampC w g m r) (hlt : n≤m) :
    Calls Tryz.prog 213 #[.pointer (some ⟨g,0,none⟩),.int .i64 n] w fun e w'=>e = .returned (.bool false)∧w=w':=by
  have HC:=Lib.hid h
  obtain ⟨n0,b,hat,hm⟩:=h
  have hg:=hat.1
  have h0:=hat.2 0 (by simp)
  have h1:=hat.2 1 (by simp)
  simp only [List.getElem_cons_zero,List.getElem_cons_succ] at h0 h1
  obtain ⟨c0,z0⟩:=h0
  obtain ⟨c1,z1⟩:=h1
  clear hat hm
  go_enter Tryz.func213,Tryz.ntmps213
  go_wp2_with (go_at_call 120;refine (cl_now _ _ _ _ HC.out).mono ?_;rintro e w' ⟨rfl,rfl⟩)
  go_ret
  exact ⟨rfl,rfl⟩
theorem rowi_made (w : World) (l : List Int) (e : TypeId) (hl : l.length≤maxLen) (hb : ∀ x∈l,-9223372036854775808≤x∧x≤9223372036854775807) : RowI (w.alloc (.cells (iv l).toArray e)) .i64 (some ⟨w.heap.size,0,none⟩) l:=by
  have h:=At.alloc w (iv l) e
  refine ⟨hl,fun i hi=>⟨_,0,rfl,h.1,?_⟩,fun x hx=>by have:=hb x hx;simp [Lit.wf,IntKind.min,IntKind.max,IntKind.bits,IntKind.signed];omega⟩
  have:=(h.2 i (by rw [iv_len];exact hi)).1
  rw [Nat.zero_add,this]
  simp [iv]
def AllPost (R : List Int) (w : World) (e : Ending) (w' : World) : Prop :=
  ∃ a c,e = .returned (.slice a R.length c)∧RowI w' .i64 a R∧Below w.heap.size w w'
theorem iv_snoc' (l : List Int) (x : Int) : iv (l++[x])=iv l++[.int .i64 x]:=by simp [iv]
end Go.Proofs.YtmimfkhkilijcaaGreatDoor
namespace Go.Proofs.YtmimfkhkilijcaaGreatDoor
namespace PBound
open PSat PClamp
def after (m b : Int) : Int:=sub (sub m b) 1
theorem after_in (m b : Int) : inR (after m b):=sub_in _ _
theorem after_mono {m m' : Int} (b : Int) (h : m≤m') : after m b≤after m' b:=sub_mono 1 (sub_mono b h)
theorem after_never {b : Int} (hb : 0≤b) : after (-9223372036854775808) b = -9223372036854775808:=by
  unfold after sub clampI
  (repeat' split) <;> omega
theorem after_up (m t b : Int) : (if after m b<after t b then after t b else after m b)=after (if m<t then t else m) b:=by
  by_cases h : m<t
  · have:=after_mono b (Int.le_of_lt h)
    rw [if_pos h]
    split <;> omega
  · have:=after_mono b (show t≤m by omega)
    rw [if_neg h]
    split <;> omega
end PBound
open Go.ChangeShapes Go.WideShapes Go.ChangeAt Go.RowKit PSat PClamp PBound
theorem bo_new (b : Int) (w : World) :
    Calls Tryz.prog 153 #[.int .i64 b] w fun e w'=>e = .returned (.pointer (some ⟨w.heap.size,0,none⟩))∧w'=w.alloc (.cells #[.int .i64 0,.bool false,.int .i64 b] 278):=by
  go_enter Tryz.func153,Tryz.ntmps153
  go_wp2
  go_ret
  exact ⟨rfl,rfl⟩
theorem bo_after (m b : Int) (w : World) (hm : -9223372036854775808≤m∧m≤9223372036854775807) (hb : -9223372036854775808≤b∧b≤9223372036854775807) :
    Calls Tryz.prog 303 #[.int .i64 m,.int .i64 b] w fun e w'=>e = .returned (.int .i64 (after m b))∧w=w':=by
  have h1:=sub_in m b
  unfold inR at h1
  have HS:=Lib.hid (show after m b=sub (sub m b) 1 from rfl)
  have HC:=Lib.hid (sat_sub m b w hm hb)
  have HC2:=Lib.hid (sat_sub (sub m b) 1 w h1 (by omega))
  generalize sub m b=s at *
  generalize sub s 1=s2 at *
  go_enter Tryz.func303,Tryz.ntmps303
  go_wp2_with (go_at_call 304;(with_reducible refine HC.out.mono ?_);rintro e w' ⟨rfl,rfl⟩)
  go_wp2_with (go_at_call 304;(with_reducible refine HC2.out.mono ?_);rintro e w' ⟨rfl,rfl⟩)
  go_ret
  exact ⟨ret_int (by rw [HS.out]),rfl⟩
def SeenTo (g : Nat) (m b : Int) (w w' : World) : Prop:=ClampC w' g m [.int .i64 b]∧Upd (fun k=>k=g) w w'
theorem bo_seen (g : Nat) (m b kd t : Int) (s : ByteArray) (w : World) (h : ClampC w g (after m b) [.int .i64 b]) (hb : -9223372036854775808≤b∧b≤9223372036854775807) (ht : -9223372036854775808≤t∧t≤9223372036854775807) (M : Int) (hM : (if m<t then t else m)=M) :
    Calls Tryz.prog 302 #[.pointer (some ⟨g,0,none⟩),.agg #[.int .i64 kd,.int .i64 t,.string s]] w fun e w'=>e = .returned (.tuple #[])∧SeenTo g (after M b) b w w':=by
  have HU:=after_up m t b
  rw [hM] at HU
  have HU:=Lib.hid HU
  clear hM
  have hlt:=h.lt
  have hne : g≠w.heap.size:=by omega
  have hA:=At.alloc w [.int .i64 kd,.int .i64 t,.string s] 54
  have h':=h.alloc (.cells #[.int .i64 kd,.int .i64 t,.string s] 54)
  have hu : Upd (fun k=>k=g) w (w.alloc (.cells #[.int .i64 kd,.int .i64 t,.string s] 54)):=(Upd.refl _ w).alloc _
  go_enter Tryz.func302,Tryz.ntmps302
  go_wp2
  generalize hW : w.alloc (.cells #[.int .i64 kd,.int .i64 t,.string s] 54)=w1 at *
  change At w1 w.heap.size [.int .i64 kd,.int .i64 t,.string s] at hA
  obtain ⟨hr,r0,y0,r1,y1,r2,y2⟩:=hA.three
  have HH:=Lib.hid h'
  obtain ⟨n0,b0,hat,hm⟩:=h'
  have c2:=(hat.2 2 (by simp)).1
  simp only [List.getElem_cons_zero,List.getElem_cons_succ] at c2
  have hg:=hat.1
  clear hat hm h
  have HC:=fun w=>Lib.hid (bo_after t b w ht hb)
  have HM:=Lib.hid (show after t b=after t b from rfl)
  generalize after t b=A at *
  go_region_with (first|(go_at_call 303;refine (HC _).out.mono ?_;rintro e w' ⟨rfl,rfl⟩)|(go_at_call 213;refine (cl_raise g _ A _ _ HH.out.drew).mono ?_;rintro e w' ⟨rfl,hrt⟩))
  all_goals
    obtain ⟨h1,h2⟩:=hrt
    rw [HU.out] at h1
    go_end0
    exact ⟨rfl,h1,hu.drew.trans h2 (fun i _ e=>e)⟩
theorem most_in64 (l : List Int) (hb : ∀ x∈l,-9223372036854775808≤x∧x≤9223372036854775807) : -9223372036854775808≤most (-9223372036854775808) l∧most (-9223372036854775808) l≤9223372036854775807:=by
  refine ⟨most_ge l _,?_⟩
  rcases most_in l (-9223372036854775808) with h|h
  · omega
  · exact (hb _ h).2
end Go.Proofs.YtmimfkhkilijcaaGreatDoor
