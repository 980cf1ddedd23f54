import PyProof.Rows.All
import Wide.All
import OpenK.AllK
import Wide.FinOn
import HandS.Words
import HandS.List
import HandS.Comp
import HandS.Text
import HandS.Iter
import PySem.Challenge.RW_typingroom_k01_whole_kinds
import HandS.Dict
import KE.KDictPairs
import HandS.Wide
import HandS.Deep
import HandS.IsInst
import HandS.Zip
import HandS.TupAny
import HandS.More
import HandS.DictComp
import HandS.ExcOwn
import HandS.WordsExc
import HandS.Strs
import HandS.WordsDict
import HandS.OwnEq
import HandS.Lambda
import HandS.TryMany
import HandS.Style
import KE.KNestM
import HandS.EndTab
section
set_option Elab.async false
set_option linter.all false
set_option maxRecDepth 100000
set_option maxHeartbeats 4000000
/-! # the mathematics of types, their texts and their order; no program here -/
namespace K1
open PySem PySem.SeqAt

/-! ### words -/
def smallS (x : Str) : Bool := !decide (x.cps.toList < ("a" : Str).cps.toList) && !decide (("z" : Str).cps.toList < x.cps.toList)
def signs (x : Str) : List Str := x.cps.toList.map fun c => (⟨#[c]⟩ : Str)
def noWord (x : Str) : Bool := [("any" : Str), "give", "let"].any fun y => y == x
def wordB (x : Str) : Bool := decide (1 ≤ x.length) && decide (x.length ≤ 10) && !noWord x && ((signs x).map smallS).all id
def isWordD : PyData → Bool
  | .str x => wordB x
  | _ => false

/-! ### which data are types -/
def headS : PyData → Str
  | .tuple (.str x :: _) => x
  | _ => ⟨#[]⟩
def ltS (x y : Str) : Bool := decide (x.cps.toList < y.cps.toList)
def ascD (rows : List PyData) : Bool := ((rows.zip rows.tail).map fun p => ltS (headS p.1) (headS p.2)).all id
def isRowW (f : PyData → Bool) : PyData → Bool
  | .tuple [w, k] => isWordD w && f k
  | _ => false
def isNest : Nat → PyData → Bool
  | 0, _ => false
  | n + 1, .tuple [a, b] =>
    if PyData.eqv a (.str "base") = true then isWordD b
    else if PyData.eqv a (.str "record") = true then
      match b with
      | .tuple rows => (rows.map (isRowW (isNest n))).all id && ascD rows
      | _ => false
    else false
  | _ + 1, _ => false

/-! ### types of a room, nested at most n deep -/
def rowD (p : Str × PyData) : PyData := .tuple [.str p.1, p.2]
def FLD : List Str := ["p", "q", "r"]
def baseD (w : Str) : PyData := .tuple [.str "base", .str w]
def recD (rows : List (Str × PyData)) : PyData := .tuple [.str "record", .tuple (rows.map rowD)]
def KdOk (B : List Str) : Nat → PyData → Prop
  | 0, _ => False
  | n + 1, d => (∃ w, w ∈ B ∧ d = baseD w) ∨ (∃ rows, d = recD rows ∧ (rows.map (·.1)).Sublist FLD ∧ ∀ r ∈ rows, KdOk B n r.2)
def BAS : List Str := ["a", "b", "c", "d"]
theorem KdOk.mono {B : List Str} : ∀ {n : Nat} {d : PyData}, KdOk B n d → KdOk B (n + 1) d
  | n + 1, d, .inl h => .inl h
  | n + 1, d, .inr ⟨rows, e, s, h⟩ => .inr ⟨rows, e, s, fun r hr => KdOk.mono (h r hr)⟩
theorem KdOk.le {B : List Str} {n m : Nat} {d : PyData} (h : KdOk B n d) (hl : n ≤ m) : KdOk B m d := by
  induction hl with
  | refl => exact h
  | step _ ih => exact ih.mono
theorem KdOk.sub {B B' : List Str} (hb : ∀ w ∈ B, w ∈ B') : ∀ {n : Nat} {d : PyData}, KdOk B n d → KdOk B' n d
  | n + 1, d, .inl ⟨w, hw, e⟩ => .inl ⟨w, hb w hw, e⟩
  | n + 1, d, .inr ⟨rows, e, s, h⟩ => .inr ⟨rows, e, s, fun r hr => KdOk.sub hb (h r hr)⟩

/-! ### words that come up -/
theorem word_bas : ∀ w ∈ BAS, wordB w = true := by decide +kernel
theorem word_fld : ∀ w ∈ FLD, wordB w = true := by decide +kernel
theorem sub_mem {α : Type} {xs ys : List α} (h : xs.Sublist ys) : ∀ x ∈ xs, x ∈ ys := fun _ hx => h.subset hx
def subsL {α : Type} : List α → List (List α)
  | [] => [[]]
  | x :: xs => (subsL xs).map (x :: ·) ++ subsL xs
theorem mem_subs {α : Type} {xs ys : List α} (h : xs.Sublist ys) : xs ∈ subsL ys := by
  induction h with
  | slnil => exact List.mem_singleton.mpr rfl
  | cons a _ ih => exact List.mem_append_right _ ih
  | cons_cons a _ ih => exact List.mem_append_left _ (List.mem_map.mpr ⟨_, ih, rfl⟩)
theorem asc_fld : ∀ xs : List Str, xs.Sublist FLD → ((xs.zip xs.tail).map fun p => ltS p.1 p.2).all id = true := by
  have z : ∀ xs ∈ subsL FLD, ((xs.zip xs.tail).map fun p => ltS p.1 p.2).all id = true := by decide +kernel
  exact fun xs h => z xs (mem_subs h)
theorem nodup_fld : ∀ xs : List Str, xs.Sublist FLD → xs.Nodup := by
  have z : ∀ xs ∈ subsL FLD, xs.Nodup := by decide +kernel
  exact fun xs h => z xs (mem_subs h)
theorem len_fld {xs : List Str} (h : xs.Sublist FLD) : xs.length ≤ 3 := h.length_le
theorem heads (rows : List (Str × PyData)) : (rows.map rowD).map headS = rows.map (·.1) := by
  rw [List.map_map]
  exact List.map_congr_left fun p _ => rfl
theorem zip_map2 {α β γ : Type} (f : α → β) (g : β → β → γ) : ∀ (xs ys : List α), (xs.zip ys).map (fun p => g (f p.1) (f p.2)) = ((xs.map f).zip (ys.map f)).map fun p => g p.1 p.2
  | [], _ => by simp
  | _ :: _, [] => by simp
  | x :: xs, y :: ys => by simp [zip_map2 f g xs ys]
theorem tail_map {α β : Type} (f : α → β) : ∀ xs : List α, (xs.map f).tail = xs.tail.map f
  | [] => rfl
  | _ :: _ => rfl
theorem asc_rows {rows : List (Str × PyData)} (h : (rows.map (·.1)).Sublist FLD) : ascD (rows.map rowD) = true := by
  unfold ascD
  rw [zip_map2 headS ltS, ← tail_map, heads]
  exact asc_fld _ h
theorem all_id_map {α : Type} {f : α → Bool} {xs : List α} : (xs.map f).all id = true ↔ ∀ x ∈ xs, f x = true := by
  rw [List.all_map, List.all_eq_true]
  exact Iff.rfl
theorem nest_ok {B : List Str} (hB : ∀ w ∈ B, wordB w = true) : ∀ (n : Nat) (d : PyData), KdOk B n d → isNest n d = true
  | n + 1, _, .inl ⟨w, hw, e⟩ => by
    subst e
    show (if PyData.eqv (.str "base") (.str "base") = true then wordB w else _) = true
    rw [if_pos (by decide +kernel)]
    exact hB w hw
  | n + 1, _, .inr ⟨rows, e, hs, hr⟩ => by
    subst e
    show (if PyData.eqv (.str "record") (.str "base") = true then isWordD (.tuple (rows.map rowD)) else if PyData.eqv (.str "record") (.str "record") = true then ((rows.map rowD).map (isRowW (isNest n))).all id && ascD (rows.map rowD) else false) = true
    rw [if_neg (by decide +kernel), if_pos (by decide +kernel), asc_rows hs, Bool.and_true, List.map_map, all_id_map]
    intro p hp
    show (wordB p.1 && isNest n p.2) = true
    rw [word_fld p.1 (hs.subset (List.mem_map.mpr ⟨p, hp, rfl⟩)), nest_ok hB n p.2 (hr p hp)]
    rfl

/-! ### texts of types -/
def rowText (f : PyData → Str) : PyData → Str
  | .tuple [.str x, k] => (x ++ (": " : Str)) ++ f k
  | _ => ""
def textD : Nat → PyData → Str
  | n + 1, .tuple [_, .tuple rows] => ("{" ++ Str.join ", " (rows.map (rowText (textD n)))) ++ "}"
  | _ + 1, .tuple [_, .str w] => w
  | _, _ => ""
theorem text_base (n : Nat) (w : Str) : textD (n + 1) (baseD w) = w := rfl
theorem text_rec (n : Nat) (rows : List (Str × PyData)) : textD (n + 1) (recD rows) = ("{" ++ Str.join ", " (rows.map fun p => (p.1 ++ (": " : Str)) ++ textD n p.2)) ++ "}" := by
  show ("{" ++ Str.join ", " ((rows.map rowD).map (rowText (textD n)))) ++ "}" = _
  rw [List.map_map]
  rfl

/-! ### what is below what -/
def lookD (f : Str) : List PyData → Option PyData
  | .tuple [.str x, k] :: r => if x = f then some k else lookD f r
  | _ :: r => lookD f r
  | [] => none
def underRow (g : PyData → PyData → Bool) (ra : List PyData) : PyData → Bool
  | .tuple [.str f, k] => match lookD f ra with
    | some k' => g k' k
    | none => false
  | _ => false
def underD (ab : Str → Str → Bool) : Nat → PyData → PyData → Bool
  | n + 1, .tuple [.str _, .tuple ra], .tuple [.str _, .tuple rb] => (rb.map (underRow (underD ab n) ra)).all id
  | _ + 1, .tuple [.str _, .str a], .tuple [.str _, .str b] => decide (a = b) || ab a b
  | _, _, _ => false
theorem under_base (ab : Str → Str → Bool) (n : Nat) (u v : Str) : underD ab (n + 1) (baseD u) (baseD v) = (decide (u = v) || ab u v) := rfl
theorem under_br (ab : Str → Str → Bool) (n : Nat) (u : Str) (r : List (Str × PyData)) : underD ab (n + 1) (baseD u) (recD r) = false := rfl
theorem under_rb (ab : Str → Str → Bool) (n : Nat) (u : Str) (r : List (Str × PyData)) : underD ab (n + 1) (recD r) (baseD u) = false := rfl
theorem look_rows (f : Str) : ∀ rows : List (Str × PyData), lookD f (rows.map rowD) = rows.lookup f
  | [] => rfl
  | (x, k) :: r => by
    show (if x = f then some k else lookD f (r.map rowD)) = _
    rw [List.lookup_cons, look_rows f r]
    by_cases h : x = f
    · rw [if_pos h, h, beq_self_eq_true]
    · rw [if_neg h, beq_eq_false_iff_ne.mpr (Ne.symm h)]
theorem under_rec (ab : Str → Str → Bool) (n : Nat) (ra rb : List (Str × PyData)) : underD ab (n + 1) (recD ra) (recD rb) = (rb.map fun p => match ra.lookup p.1 with
    | some k' => underD ab n k' p.2
    | none => false).all id := by
  show ((rb.map rowD).map (underRow (underD ab n) (ra.map rowD))).all id = _
  rw [List.map_map]
  congr 1
  refine List.map_congr_left fun p _ => ?_
  show (match lookD p.1 (ra.map rowD) with
    | some k' => underD ab n k' p.2
    | none => false) = _
  rw [look_rows]
theorem lookup_mem {rows : List (Str × PyData)} {f : Str} {k : PyData} (h : rows.lookup f = some k) : (f, k) ∈ rows := PySem.mem_of_lookup h
theorem lookup_nodup : ∀ {rows : List (Str × PyData)} {f : Str} {k : PyData}, (rows.map (·.1)).Nodup → (f, k) ∈ rows → rows.lookup f = some k
  | (x, y) :: r, f, k, hn, hm => by
    rw [List.lookup_cons]
    rcases List.mem_cons.mp hm with e | e
    · cases e
      rw [beq_self_eq_true]
    · have hx : f ≠ x := fun z => by
        have := (List.nodup_cons.mp hn).1
        exact this (z ▸ List.mem_map.mpr ⟨_, e, rfl⟩)
      rw [beq_eq_false_iff_ne.mpr hx]
      exact lookup_nodup (List.nodup_cons.mp hn).2 e
theorem under_refl {B : List Str} (ab : Str → Str → Bool) : ∀ (n : Nat) (d : PyData), KdOk B n d → underD ab n d d = true
  | n + 1, _, .inl ⟨w, _, e⟩ => by
    subst e
    rw [under_base, decide_eq_true rfl, Bool.true_or]
  | n + 1, _, .inr ⟨rows, e, hs, hr⟩ => by
    subst e
    rw [under_rec, all_id_map]
    intro p hp
    rw [lookup_nodup (nodup_fld _ hs) (show (p.1, p.2) ∈ rows from hp)]
    exact under_refl ab n p.2 (hr p hp)
theorem under_congr {B : List Str} {ab ab' : Str → Str → Bool} (h : ∀ u ∈ B, ∀ v ∈ B, ab u v = ab' u v) : ∀ (n : Nat) (d e : PyData), KdOk B n d → KdOk B n e → underD ab n d e = underD ab' n d e
  | n + 1, _, _, .inl ⟨u, hu, e⟩, .inl ⟨v, hv, e'⟩ => by
    subst e e'
    rw [under_base, under_base, h u hu v hv]
  | n + 1, _, _, .inl ⟨u, hu, e⟩, .inr ⟨r, e', _⟩ => by
    subst e e'
    rfl
  | n + 1, _, _, .inr ⟨r, e', _⟩, .inl ⟨u, hu, e⟩ => by
    subst e e'
    rfl
  | n + 1, _, _, .inr ⟨ra, e, _, ha⟩, .inr ⟨rb, e', _, hb⟩ => by
    subst e e'
    rw [under_rec, under_rec]
    congr 1
    refine List.map_congr_left fun p hp => ?_
    cases hl : ra.lookup p.1 with
    | none => rfl
    | some k => exact under_congr h n k p.2 (ha _ (lookup_mem hl)) (hb p hp)

/-! ### shapes: what == may be asked of -/
theorem lay_mem : ∀ {ds : List PyData}, (∀ d ∈ ds, d.canLay0 = true) → PyData.canLayAll0 ds = true
  | [], _ => by simp only [PyData.canLayAll0]
  | d :: ds, h => by
    simp only [PyData.canLayAll0, h d List.mem_cons_self, lay_mem fun x hx => h x (List.mem_cons_of_mem _ hx), Bool.and_self]
theorem of_layAll : ∀ {ds : List PyData}, PyData.canLayAll0 ds = true → ∀ d ∈ ds, d.canLay0 = true
  | x :: ds, h, d, hd => by
    simp only [PyData.canLayAll0, Bool.and_eq_true] at h
    rcases List.mem_cons.mp hd with e | e
    · rw [e]
      exact h.1
    · exact of_layAll h.2 d e
theorem depth_mem : ∀ {ds : List PyData} {m : Nat}, (∀ d ∈ ds, d.depth ≤ m) → PyData.depthAll ds ≤ m
  | [], m, _ => by simp only [PyData.depthAll]; exact Nat.zero_le _
  | d :: ds, m, h => by
    simp only [PyData.depthAll]
    exact Nat.max_le.mpr ⟨h d List.mem_cons_self, depth_mem fun x hx => h x (List.mem_cons_of_mem _ hx)⟩
theorem of_depthAll : ∀ {ds : List PyData} {m : Nat}, PyData.depthAll ds ≤ m → ∀ d ∈ ds, d.depth ≤ m
  | x :: ds, m, h, d, hd => by
    simp only [PyData.depthAll] at h
    have h' := Nat.max_le.mp h
    rcases List.mem_cons.mp hd with e | e
    · rw [e]
      exact h'.1
    · exact of_depthAll h'.2 d e
theorem shaped_mk {d : PyData} (h1 : d.canLay0 = true) (h2 : d.depth ≤ 64) : shaped d = true := by
  unfold shaped
  rw [h1, decide_eq_true h2]
  rfl
theorem shaped_tup {ds : List PyData} (h : shaped (.tuple ds) = true) : ∀ d ∈ ds, shaped d = true := fun d hd => by
  have h1 := canLay_of_shaped h
  have h2 := depth_of_shaped h
  simp only [PyData.canLay0] at h1
  simp only [PyData.depth] at h2
  exact shaped_mk (of_layAll h1 d hd) (of_depthAll (m := 64) (by omega) d hd)
theorem lay_str {x : Str} (h : PyData.strOk x = true) : (PyData.str x).canLay0 = true := by simp only [PyData.canLay0]; exact h
theorem lay_ok {B : List Str} (hB : ∀ w ∈ B, PyData.strOk w = true) : ∀ (n : Nat) (d : PyData), KdOk B n d → d.canLay0 = true
  | n + 1, _, .inl ⟨w, hw, e⟩ => by
    subst e
    simp only [baseD, PyData.canLay0, PyData.canLayAll0, hB w hw, Bool.and_true]
    decide +kernel
  | n + 1, _, .inr ⟨rows, e, hs, hr⟩ => by
    subst e
    have z : PyData.canLayAll0 (rows.map rowD) = true := lay_mem fun d hd => by
      obtain ⟨p, hp, e⟩ := List.mem_map.mp hd
      subst e
      have h1 : ∀ x ∈ FLD, PyData.strOk x = true := by decide +kernel
      simp only [rowD, PyData.canLay0, PyData.canLayAll0, h1 p.1 (hs.subset (List.mem_map.mpr ⟨p, hp, rfl⟩)), lay_ok hB n p.2 (hr p hp), Bool.and_self]
    simp only [recD, PyData.canLay0, PyData.canLayAll0, z, Bool.and_true]
    decide +kernel
theorem depth_ok {B : List Str} : ∀ (n : Nat) (d : PyData), KdOk B n d → d.depth ≤ 3 * n
  | n + 1, _, .inl ⟨w, hw, e⟩ => by
    subst e
    simp only [baseD, PyData.depth, PyData.depthAll]
    omega
  | n + 1, _, .inr ⟨rows, e, hs, hr⟩ => by
    subst e
    have z : PyData.depthAll (rows.map rowD) ≤ 3 * n + 1 := depth_mem fun d hd => by
      obtain ⟨p, hp, e⟩ := List.mem_map.mp hd
      subst e
      have q := depth_ok n p.2 (hr p hp)
      simp only [rowD, PyData.depth, PyData.depthAll]
      omega
    simp only [recD, PyData.depth, PyData.depthAll]
    omega
theorem ok_bas : ∀ w ∈ BAS, PyData.strOk w = true := by decide +kernel
theorem shaped_ok {n : Nat} {d : PyData} (h : KdOk BAS n d) (hn : n ≤ 20) : shaped d = true := shaped_mk (lay_ok ok_bas n d h) (by have := depth_ok n d h; omega)

/-! ### how long the texts are -/
theorem len_app (x y : Str) : (x ++ y).length = x.length + y.length := by
  show (x.cps ++ y.cps).size = _
  rw [Array.size_append]
  rfl
theorem len_join (m : Nat) : ∀ (l : List Str), (∀ x ∈ l, x.length ≤ m) → (Str.join ", " l).length ≤ l.length * (m + 2)
  | [], _ => Nat.zero_le _
  | [x], h => by
    have := h x List.mem_cons_self
    show x.length ≤ 1 * (m + 2)
    omega
  | x :: y :: r, h => by
    have h1 := h x List.mem_cons_self
    have h2 := len_join m (y :: r) fun z hz => h z (List.mem_cons_of_mem _ hz)
    show ((x ++ (", " : Str)) ++ Str.join ", " (y :: r)).length ≤ (r.length + 1 + 1) * (m + 2)
    rw [len_app, len_app]
    have h3 : (", " : Str).length = 2 := by decide +kernel
    rw [h3]
    have h4 : (r.length + 1 + 1) * (m + 2) = (r.length + 1) * (m + 2) + (m + 2) := Nat.succ_mul _ _
    have h5 : (y :: r).length = r.length + 1 := rfl
    rw [h5] at h2
    omega
theorem sum_len {m : Nat} : ∀ {l : List Str}, (∀ x ∈ l, x.length ≤ m) → (l.map (·.length)).sum ≤ l.length * m
  | [], _ => Nat.zero_le _
  | x :: r, h => by
    have h1 := h x List.mem_cons_self
    have h2 := sum_len fun z hz => h z (List.mem_cons_of_mem x hz)
    rw [List.map_cons, List.sum_cons, List.length_cons, Nat.succ_mul]
    omega
theorem len_text : ∀ (n : Nat) (d : PyData), KdOk BAS n d → (textD n d).length ≤ 20 ^ n
  | n + 1, _, .inl ⟨w, hw, e⟩ => by
    subst e
    rw [text_base]
    have h : ∀ w ∈ BAS, w.length ≤ 1 := by decide +kernel
    exact Nat.le_trans (h w hw) (Nat.one_le_pow _ _ (by decide))
  | n + 1, _, .inr ⟨rows, e, hs, hr⟩ => by
    subst e
    rw [text_rec, len_app, len_app]
    have h1 : ∀ x ∈ FLD, x.length = 1 := by decide +kernel
    have hj := len_join (20 ^ n + 3) (rows.map fun p => (p.1 ++ (": " : Str)) ++ textD n p.2) fun x hx => by
      obtain ⟨p, hp, e⟩ := List.mem_map.mp hx
      subst e
      have q := len_text n p.2 (hr p hp)
      rw [len_app, len_app, h1 p.1 (hs.subset (List.mem_map.mpr ⟨p, hp, rfl⟩))]
      have h3 : (": " : Str).length = 2 := by decide +kernel
      rw [h3]
      omega
    have hl := len_fld hs
    rw [List.length_map] at hl hj
    have h3 : ("{" : Str).length = 1 := by decide +kernel
    have h4 : ("}" : Str).length = 1 := by decide +kernel
    rw [h3, h4, Nat.pow_succ]
    have h5 : rows.length * (20 ^ n + 3 + 2) ≤ 3 * (20 ^ n + 3 + 2) := Nat.mul_le_mul_right _ hl
    have h6 : 1 ≤ 20 ^ n := Nat.one_le_pow _ _ (by decide)
    omega
theorem pow20 {n : Nat} (h : n ≤ 5) : 20 ^ n ≤ 3200000 := Nat.le_trans (Nat.pow_le_pow_right (by decide) h) (by decide)
end K1

end
section
set_option Elab.async false
set_option linter.all false
set_option maxRecDepth 100000
set_option maxHeartbeats 4000000
namespace K1
open PySem L2
def tp (i : Nat) : Stmt := PySem.Challenge.pw_typingroom_k01_whole_kinds.main.body.getD i (.Pass ⟨0, 0, 0, 0⟩)
theorem Same.tup {K : PySem.W.Frag} {H H' : Hp} {a : Addr} {xs : List V} (e : Same H H') (h : SqT K H a xs) : SqT K H' a xs := by
  rcases h with (h | ⟨o, h⟩) | h
  · exact .inl (.inl (e _ _ h))
  · exact .inl (.inr ⟨o, e _ _ h⟩)
  · exact .inr h
theorem Same.new {H : Hp} {p : Addr} (h : H p = none) (o : HO) : Same H (upd H p o) := fun b u q => by rw [upd_ne (ne_of_none q h)]; exact q
theorem SqT.of {K : PySem.W.Frag} {H : Hp} {a : Addr} {xs : List V} (h : H a = some (.tup xs)) : SqT K H a xs := .inl (.inl h)
mutual
theorem dp_same {K : PySem.W.Frag} {H H' : Hp} (e : Same H H') : ∀ {v : V} {d : PyData}, Dp K H v d → Dp K H' v d
  | _, _, .non => .non
  | _, _, .bl b => .bl b
  | _, _, .int i => .int i
  | _, _, .str x => .str x
  | _, _, .lst h t => .lst (e.seq h) (dpAll_same e t)
  | _, _, .tup h t => .tup (Same.tup e h) (dpAll_same e t)
theorem dpAll_same {K : PySem.W.Frag} {H H' : Hp} (e : Same H H') : ∀ {vs : List V} {ds : List PyData}, DpAll K H vs ds → DpAll K H' vs ds
  | _, _, .nil => .nil
  | _, _, .cons h t => .cons (dp_same e h) (dpAll_same e t)
end
theorem dpAll_get {K : PySem.W.Frag} {H : Hp} : ∀ {vs : List V} {ds : List PyData} {i : Nat} {v : V}, DpAll K H vs ds → vs[i]? = some v → ∃ d, ds[i]? = some d ∧ Dp K H v d
  | _, _, i, v, .nil, h => by simp at h
  | _, _, 0, v, .cons h t, e => by simp at e; subst e; exact ⟨_, rfl, h⟩
  | _, _, i + 1, v, .cons h t, e => by
    obtain ⟨d, h1, h2⟩ := dpAll_get (i := i) (v := v) t (by simpa using e)
    exact ⟨d, by simpa using h1, h2⟩
theorem dpAll_len {K : PySem.W.Frag} {H : Hp} : ∀ {vs : List V} {ds : List PyData}, DpAll K H vs ds → vs.length = ds.length
  | _, _, .nil => rfl
  | _, _, .cons _ t => congrArg (· + 1) (dpAll_len t)
theorem pgl {X : Cx} {x : Str} {a : Addr} {pos : Pos} (hm : X.mg x = some (.ref a)) (hg : Gl X x := by rfl) (hd : (x == ("__debug__" : Str)) = false := by decide) : PE X (.Name x pos) (tC (.ref a)) := pe_glob hg hm rfl hd
section
variable {P : Program} {w : World} {K : PySem.W.Frag} {mg : Str → Option Value} {base : Heap}
abbrev sSmall : Stmt := tp 9
theorem scSmall : FnScope ["letter"] ["letter"] (defScope sSmall) := ⟨rfl, rfl, rfl, by decide +kernel, rfl, by decide +kernel, by decide +kernel⟩
def spSmall : Sp := fun vs H Q _ => ∃ x : Str, vs = [.str x] ∧ Q (.bl (smallS x)) H
theorem ok_small {f : Addr} {fd : FuncData} (F : Fun K "is_small" "is_small" sSmall f fd) : FnOk P w K mg base CX0 1 f fd ["letter"] spSmall := by
  refine F.ok scSmall (fun vs H Q E h => ?_) (fun cdv A outer s H vs Q E hr h => ?_)
  · obtain ⟨x, rfl, _⟩ := h
    rfl
  obtain ⟨x, rfl, q⟩ := h
  refine ⟨_, pss_one (ps_ret (pe_chain op_le_str op_le_str pe_str (pv 0) pe_str)), ?_⟩
  refine ⟨_, rfl, _, _, rfl, rfl, _, rfl, ite2 (fun c => ?_) (fun c => ?_)⟩
  · refine ⟨_, _, rfl, rfl, ?_⟩
    have e : smallS x = !decide (("z" : Str).cps.toList < x.cps.toList) := by
      unfold smallS
      rw [c, Bool.true_and]
    rw [← e]
    exact q
  · have e : smallS x = false := by
      unfold smallS
      rw [Bool.eq_false_iff.mpr c, Bool.false_and]
    rw [← e]
    exact q
end
end K1

end
section
set_option Elab.async false
set_option linter.all false
set_option maxRecDepth 100000
set_option maxHeartbeats 4000000
namespace K1
open PySem L2
/-! ### comprehensions whose items are known values: ys, one a turn -/
theorem same_acc {H H4 : Hp} {D : Addr} {o : HO} (hn : H D = none) (s : Same H H4) : Same H (upd H4 D o) := fun b u q => by
  rw [upd_ne (ne_of_none q hn)]
  exact s b u q
theorem take_more {α : Type} : ∀ {l : List α} {i : Nat} {x : α}, l[i]? = some x → l.take (i + 1) = l.take i ++ [x]
  | [], i, x, h => by simp at h
  | a :: l, 0, x, h => by
    have e : a = x := Option.some.inj h
    subst e
    rfl
  | a :: l, i + 1, x, h => by
    have ih := take_more (l := l) (i := i) (x := x) h
    show a :: l.take (i + 1) = a :: l.take i ++ [x]
    rw [ih]
    rfl
theorem small_le {n : Nat} (h : n ≤ 1000) : n ≤ sizeLine := Nat.le_of_lt (small1000 h)
/-- n turns; R tells what a turn is given; what was there at the start stays -/
theorem lc_go {J : It} {g : TG} {te : TE} {vs : List Nat} {σ : St} {H1 : Hp} {D : Addr} {Qd : Hp → Prop} (n : Nat) (R : Nat → V → Hp → Prop) (ys : List V) (hl : ys.length = n) (hz : n ≤ 1000) (hD : H1 D = none)
    (go : ∀ i H', i < n → Same H1 H' → J.go i H') (yld : ∀ i x H' H'', i < n → Same H1 H' → J.yld i H' x H'' → Same H' H'' ∧ R i x H'') (stop : ∀ H', Same H1 H' → J.stop n H')
    (turn : ∀ (i : Nat) (y x : V) (H' : Hp) (Q : VK), ys[i]? = some y → Same H1 H' → R i x H' → (∀ H4, Same H' H4 → Q y H4) → g x (wipe σ vs) H' fun σ2 H2 => wipe σ2 vs = wipe σ vs ∧ te σ2 H2 Q)
    (hd : ∀ H', Same H1 H' → H' D = some (.lst ys) → Qd H') :
    ∃ W : Nat → Nat → Hp → Prop, (∃ m, W 0 m (upd H1 D (.lst []))) ∧ ∀ i m H, W i m H →
      (J.stop i H ∧ Qd H) ∨ (J.go i H ∧ ∃ Nx : Hp → Prop, (∀ H', Nx H' → ∃ m', m' < m ∧ W (i + 1) m' H') ∧ ∀ x H', J.yld i H x H' → g x (wipe σ vs) H' fun σ2 H2 => wipe σ2 vs = wipe σ vs ∧ tYes σ2 H2 fun b H3 =>
        if b = true then te σ2 H3 fun y H4 => ∃ acc, H4 D = some (.lst acc) ∧ acc.length < sizeLine ∧ Nx (upd H4 D (.lst (acc ++ [y]))) else Nx H3) := by
  refine ⟨fun i m H => m = n - i ∧ i ≤ n ∧ Same H1 H ∧ H D = some (.lst (ys.take i)), ⟨n, by omega, Nat.zero_le _, same_acc hD (Same.refl _), upd_same⟩, ?_⟩
  rintro i m H ⟨rfl, hi, s, hL⟩
  by_cases hlt : i < n
  · refine .inr ⟨go i H hlt s, fun H' => Same H1 H' ∧ H' D = some (.lst (ys.take (i + 1))), fun H' p' => ⟨n - (i + 1), by omega, rfl, hlt, p'⟩, fun x H' y => ?_⟩
    obtain ⟨s2, r⟩ := yld i x H H' hlt s y
    have hy : ys[i]? = some ys[i] := List.getElem?_eq_getElem (by omega)
    refine turn i ys[i] x H' _ hy (s.trans s2) r fun H4 s4 => ?_
    refine ⟨ys.take i, s4 _ _ (s2 _ _ hL), small1000 (by rw [List.length_take]; omega), same_acc hD ((s.trans s2).trans s4), ?_⟩
    rw [upd_same, take_more hy]
  · have e : i = n := by omega
    subst e
    refine .inl ⟨stop H s, hd H s ?_⟩
    rw [hL, List.take_of_length_le (by omega)]
theorem lcT {K : PySem.W.Frag} {a : Addr} {xs : List V} {g : TG} {te : TE} {vs : List Nat} {σ : St} {H1 : Hp} {D : Addr} {Qd : Hp → Prop} (ys : List V) (hl : ys.length = xs.length) (hz : xs.length ≤ 1000) (hS : SqT K H1 a xs) (hD : H1 D = none)
    (turn : ∀ (i : Nat) (y x : V) (H' : Hp) (Q : VK), xs[i]? = some x → ys[i]? = some y → Same H1 H' → (∀ H4, Same H' H4 → Q y H4) → g x (wipe σ vs) H' fun σ2 H2 => wipe σ2 vs = wipe σ vs ∧ te σ2 H2 Q)
    (hd : ∀ H', Same H1 H' → H' D = some (.lst ys) → Qd H') :
    ∃ W : Nat → Nat → Hp → Prop, (∃ m, W 0 m (upd H1 D (.lst []))) ∧ ∀ i m H, W i m H →
      ((Itt K a).stop i H ∧ Qd H) ∨ ((Itt K a).go i H ∧ ∃ Nx : Hp → Prop, (∀ H', Nx H' → ∃ m', m' < m ∧ W (i + 1) m' H') ∧ ∀ x H', (Itt K a).yld i H x H' → g x (wipe σ vs) H' fun σ2 H2 => wipe σ2 vs = wipe σ vs ∧ tYes σ2 H2 fun b H3 =>
        if b = true then te σ2 H3 fun y H4 => ∃ acc, H4 D = some (.lst acc) ∧ acc.length < sizeLine ∧ Nx (upd H4 D (.lst (acc ++ [y]))) else Nx H3) :=
  lc_go xs.length (fun i x _ => xs[i]? = some x) ys hl hz hD (fun i H' hi s => ⟨xs, xs[i], Same.tup s hS, List.getElem?_eq_getElem hi⟩)
    (fun i x H' H'' hi s q => by obtain ⟨e, q⟩ := q; rw [e]; exact ⟨Same.refl _, q xs (Same.tup s hS)⟩) (fun H' s => ⟨xs, Same.tup s hS, Nat.le_refl _⟩) (fun i y x H' Q hy s hx k => turn i y x H' Q hx hy s k) hd
theorem lcL {K : PySem.W.Frag} {a : Addr} {xs : List V} {g : TG} {te : TE} {vs : List Nat} {σ : St} {H1 : Hp} {D : Addr} {Qd : Hp → Prop} (ys : List V) (hl : ys.length = xs.length) (hz : xs.length ≤ 1000) (hS : SqL K H1 a xs) (hD : H1 D = none)
    (turn : ∀ (i : Nat) (y x : V) (H' : Hp) (Q : VK), xs[i]? = some x → ys[i]? = some y → Same H1 H' → (∀ H4, Same H' H4 → Q y H4) → g x (wipe σ vs) H' fun σ2 H2 => wipe σ2 vs = wipe σ vs ∧ te σ2 H2 Q)
    (hd : ∀ H', Same H1 H' → H' D = some (.lst ys) → Qd H') :
    ∃ W : Nat → Nat → Hp → Prop, (∃ m, W 0 m (upd H1 D (.lst []))) ∧ ∀ i m H, W i m H →
      ((Itl K a).stop i H ∧ Qd H) ∨ ((Itl K a).go i H ∧ ∃ Nx : Hp → Prop, (∀ H', Nx H' → ∃ m', m' < m ∧ W (i + 1) m' H') ∧ ∀ x H', (Itl K a).yld i H x H' → g x (wipe σ vs) H' fun σ2 H2 => wipe σ2 vs = wipe σ vs ∧ tYes σ2 H2 fun b H3 =>
        if b = true then te σ2 H3 fun y H4 => ∃ acc, H4 D = some (.lst acc) ∧ acc.length < sizeLine ∧ Nx (upd H4 D (.lst (acc ++ [y]))) else Nx H3) :=
  lc_go xs.length (fun i x _ => xs[i]? = some x) ys hl hz hD (fun i H' hi s => ⟨xs, xs[i], s.seq hS, List.getElem?_eq_getElem hi⟩)
    (fun i x H' H'' hi s q => by obtain ⟨e, q⟩ := q; rw [e]; exact ⟨Same.refl _, q xs (s.seq hS)⟩) (fun H' s => ⟨xs, s.seq hS, Nat.le_refl _⟩) (fun i y x H' Q hy s hx k => turn i y x H' Q hx hy s k) hd
theorem lcS {z : Str} {g : TG} {te : TE} {vs : List Nat} {σ : St} {H1 : Hp} {D : Addr} {Qd : Hp → Prop} (ys : List V) (hl : ys.length = z.length) (hz : z.length ≤ 1000) (hD : H1 D = none)
    (turn : ∀ (i : Nat) (y : V) (c : Nat) (H' : Hp) (Q : VK), z.cps.toList[i]? = some c → ys[i]? = some y → Same H1 H' → (∀ H4, Same H' H4 → Q y H4) → g (.str ⟨#[c]⟩) (wipe σ vs) H' fun σ2 H2 => wipe σ2 vs = wipe σ vs ∧ te σ2 H2 Q)
    (hd : ∀ H', Same H1 H' → H' D = some (.lst ys) → Qd H') :
    ∃ W : Nat → Nat → Hp → Prop, (∃ m, W 0 m (upd H1 D (.lst []))) ∧ ∀ i m H, W i m H →
      ((Its z).stop i H ∧ Qd H) ∨ ((Its z).go i H ∧ ∃ Nx : Hp → Prop, (∀ H', Nx H' → ∃ m', m' < m ∧ W (i + 1) m' H') ∧ ∀ x H', (Its z).yld i H x H' → g x (wipe σ vs) H' fun σ2 H2 => wipe σ2 vs = wipe σ vs ∧ tYes σ2 H2 fun b H3 =>
        if b = true then te σ2 H3 fun y H4 => ∃ acc, H4 D = some (.lst acc) ∧ acc.length < sizeLine ∧ Nx (upd H4 D (.lst (acc ++ [y]))) else Nx H3) :=
  lc_go z.cps.size (fun i x _ => ∃ c, z.cps.toList[i]? = some c ∧ x = .str ⟨#[c]⟩) ys hl hz hD (fun i H' hi s => hi)
    (fun i x H' H'' hi s q => by obtain ⟨e, c, h1, h2⟩ := q; rw [e]; exact ⟨Same.refl _, c, by rw [Array.getElem?_toList]; exact h1, h2⟩) (fun H' s => Nat.le_refl _)
    (fun i y x H' Q hy s hx k => by obtain ⟨c, h1, h2⟩ := hx; subst h2; exact turn i y c H' Q h1 hy s k) hd
/-! ### data by their parts -/
theorem dp_str {K : PySem.W.Frag} {H : Hp} {v : V} {x : Str} (h : Dp K H v (.str x)) : v = .str x := by cases h; rfl
theorem dp_tup {K : PySem.W.Frag} {H : Hp} {v : V} {ds : List PyData} (h : Dp K H v (.tuple ds)) : ∃ a xs, v = .ref a ∧ SqT K H a xs ∧ DpAll K H xs ds := by
  cases h with
  | tup h1 h2 => exact ⟨_, _, rfl, h1, h2⟩
theorem dpAll_two {K : PySem.W.Frag} {H : Hp} {xs : List V} {d e : PyData} (h : DpAll K H xs [d, e]) : ∃ u v, xs = [u, v] ∧ Dp K H u d ∧ Dp K H v e := by
  cases h with
  | cons h1 h2 =>
    cases h2 with
    | cons h3 h4 =>
      cases h4
      exact ⟨_, _, rfl, h1, h3⟩
theorem dp_two {K : PySem.W.Frag} {H : Hp} {v : V} {d e : PyData} (h : Dp K H v (.tuple [d, e])) : ∃ a u u', v = .ref a ∧ SqT K H a [u, u'] ∧ Dp K H u d ∧ Dp K H u' e := by
  obtain ⟨a, xs, rfl, h1, h2⟩ := dp_tup h
  obtain ⟨u, u', rfl, h3, h4⟩ := dpAll_two h2
  exact ⟨a, u, u', rfl, h1, h3, h4⟩
/-- a row: a field and what it has -/
theorem dp_row {K : PySem.W.Frag} {H : Hp} {v : V} {p : Str × PyData} (h : Dp K H v (rowD p)) : ∃ a u, v = .ref a ∧ SqT K H a [.str p.1, u] ∧ Dp K H u p.2 := by
  obtain ⟨a, u, u', rfl, h1, h2, h3⟩ := dp_two h
  have e := dp_str h2
  subst e
  exact ⟨a, u', rfl, h1, h3⟩
theorem dp_base {K : PySem.W.Frag} {H : Hp} {v : V} {w : Str} (h : Dp K H v (baseD w)) : ∃ a, v = .ref a ∧ SqT K H a [.str "base", .str w] := by
  obtain ⟨a, u, u', rfl, h1, h2, h3⟩ := dp_two h
  have e := dp_str h2
  have e' := dp_str h3
  subst e e'
  exact ⟨a, rfl, h1⟩
theorem dp_rec {K : PySem.W.Frag} {H : Hp} {v : V} {rows : List (Str × PyData)} (h : Dp K H v (recD rows)) : ∃ a b xs, v = .ref a ∧ SqT K H a [.str "record", .ref b] ∧ SqT K H b xs ∧ DpAll K H xs (rows.map rowD) := by
  obtain ⟨a, u, u', rfl, h1, h2, h3⟩ := dp_two h
  have e := dp_str h2
  obtain ⟨b, xs, e', h4, h5⟩ := dp_tup h3
  subst e e'
  exact ⟨a, b, xs, rfl, h1, h4, h5⟩
theorem dp_rows {K : PySem.W.Frag} {H : Hp} {xs : List V} {rows : List (Str × PyData)} (h : DpAll K H xs (rows.map rowD)) {i : Nat} {x : V} (hx : xs[i]? = some x) : ∃ p, rows[i]? = some p ∧ Dp K H x (rowD p) := by
  obtain ⟨d, h1, h2⟩ := dpAll_get h hx
  rw [List.getElem?_map] at h1
  cases e : rows[i]? with
  | none => rw [e] at h1; cases h1
  | some p =>
    rw [e] at h1
    cases h1
    exact ⟨p, rfl, h2⟩
theorem dp_ref {K : PySem.W.Frag} {H : Hp} {a : Addr} {d e : PyData} {u v : V} (hS : SqT K H a [u, v]) (h1 : Dp K H u d) (h2 : Dp K H v e) : Dp K H (.ref a) (.tuple [d, e]) := .tup hS (.cons h1 (.cons h2 .nil))
end K1

end
section
set_option Elab.async false
set_option linter.all false
set_option maxRecDepth 100000
set_option maxHeartbeats 4000000
namespace K1
open PySem PySem.Spec PyProof.Rows L2
/-! ### tuples of which it is known that they have no dict of their own: dict(t) -/
def TupN (H : Hp) (a : Addr) (xs : List V) : Prop := ∃ o : Obj, H a = some (.frz o (.tup xs)) ∧ o.cls = .type "tuple" ∧ o.dict = none
theorem TupN.sq {K : PySem.W.Frag} {H : Hp} {a : Addr} {xs : List V} (h : TupN H a xs) : SqT K H a xs := by
  obtain ⟨o, h, _⟩ := h
  exact .inl (.inr ⟨o, h⟩)
theorem TupN.same {H H' : Hp} {a : Addr} {xs : List V} (s : Same H H') (h : TupN H a xs) : TupN H' a xs := by
  obtain ⟨o, h, q⟩ := h
  exact ⟨o, s _ _ h, q⟩
section
variable {X : Cx}
theorem call_tuple_ofN : CallR X (.type "tuple") (fun xs H Q => ∃ p ys, xs = [.ref p] ∧ SqL X.K H p ys ∧ ∀ (l : Addr) (o : Obj), H l = none → o.cls = .type "tuple" → o.dict = none → Q (.ref l) (upd H l (.frz o (.tup ys)))) := by
  intro pins s σ H xs us Q I r h
  obtain ⟨p, ys, rfl, hq, q⟩ := h
  obtain ⟨u, rfl, rx⟩ := vals1 r
  cases rx
  obtain ⟨its, r', pl, hz⟩ := I.list hq
  have hlen := r'.length
  refine call_tuple_list pl.isList (fun h' kp => ?_) (by simp only [List.size_toArray] <;> omega)
  have I1 : Inv X pins σ H { s with heap := h' } := I.kept (t' := s.toks) kp
  have I2 : Inv X pins σ (upd H h'.objs.size (.frz { cls := .type "tuple", data := .seq its.toArray } (.tup ys))) { s with heap := h'.push { cls := .type "tuple", data := .seq its.toArray } } :=
    I1.laid (t' := s.toks) (fun b o e => Heap.get?_push_of_some _ e) (Nat.le_refl _) (show ObjOk X.prog X.w _ _ _ (.frz _ (.tup ys)) from ⟨Heap.get?_push_size _ rfl, hz, its, r', IsTup.new _ _⟩)
  exact ⟨.ref h'.objs.size, _, I2, rfl, q _ _ (I1.hok.fresh (Nat.le_refl _)) rfl rfl⟩
theorem pairs_vals {pins : List (Addr × Obj)} {σ : L2.St} {H : Hp} {s : Shared} (I : Inv X pins σ H s) : ∀ {ps : List Addr} {kvs : List (Key × V)}, Paired (fun p kv => SqT X.K H p [kV kv.1, kv.2]) ps kvs →
    ∃ (prs : List (Key × Value)) (vps : List (Value × Value)), KV kvs prs ∧ prs.length = ps.length ∧ vps.length = ps.length ∧ (∀ (j : Nat) (u v : Value), vps[j]? = some (u, v) → ∃ (b : Addr) (k : Key), ps[j]? = some b ∧ IsTup s.heap b #[u, v] ∧ prs[j]? = some (k, v) ∧ keyIs k u = true)
  | _, _, .nil => ⟨[], [], .nil, rfl, rfl, fun j u v e => by simp at e⟩
  | _, _, .cons (a := p) (b := kv) h t => by
    obtain ⟨prs, vps, r, hl, hl2, hp⟩ := pairs_vals I t
    obtain ⟨its, rv, ht, _⟩ := I.tuple h
    obtain ⟨u, y, ei, ru, ry⟩ := vals2 rv
    subst ei
    refine ⟨(kv.1, y) :: prs, (u, y) :: vps, .cons ⟨rfl, ry⟩ r, by rw [List.length_cons, List.length_cons, hl], by rw [List.length_cons, List.length_cons, hl2], fun j u' v' e => ?_⟩
    cases j with
    | zero =>
      have e' : (u, y) = (u', v') := Option.some.inj e
      cases e'
      refine ⟨p, kv.1, rfl, ht, rfl, ?_⟩
      obtain ⟨k, v⟩ := kv
      cases k with
      | inl i =>
        obtain ⟨t, e⟩ := ru
        rw [e]
        exact keyIs_int i t
      | inr x =>
        obtain ⟨t, e⟩ := ru
        rw [e]
        exact keyIs_str x t
    | succ j => exact hp j u' v' e
theorem call_dictT (hcalm : X.calm = true) : CallR X (.type "dict") (fun xs H Q => ∃ (a : Addr) (ps : List Addr) (kvs : List (Key × V)), xs = [.ref a] ∧ TupN H a (ps.map V.ref) ∧ Paired (fun p kv => SqT X.K H p [kV kv.1, kv.2]) ps kvs ∧
    ∀ p, H p = none → Q (.ref p) (upd H p (.dK (mergeK [] kvs)))) := by
  intro pins s σ H xs us Q I r q
  obtain ⟨a, ps, kvs, ex, ⟨o, hq, hc, hd⟩, hp, q⟩ := q
  subst ex
  obtain ⟨u, eu, rx⟩ := vals1 r
  subst eu
  cases rx
  obtain ⟨ho, hz, its, rv, o2, e2, _, n, hdat⟩ : ObjOk X.prog X.w H s.heap a (.frz o (.tup (ps.map V.ref))) := I.hok a _ hq
  rw [ho] at e2
  cases e2
  have ei := refs_at rv
  subst ei
  rw [List.length_map] at hz
  obtain ⟨prs, vps, rel, hl, hl2, hpr⟩ := pairs_vals I hp
  have hget : ∀ (j : Nat) (b : Addr), ps[j]? = some b → ps.getD j 0 = b := fun j b e => by
    rw [List.getD_eq_getElem?_getD, e]
    rfl
  have ok : PlainSeq "tuple" s.heap a (ps.map Value.ref).toArray ∧ PairItems s.heap (ps.map Value.ref).toArray (fun j => ps.getD j 0) vps := by
    refine ⟨⟨o, n, ho, hc, hd, hdat⟩, by simp [hl2], fun j k v e => ?_⟩
    obtain ⟨b, k', e1, e2, e3, e4⟩ := hpr j k v e
    show (ps.map Value.ref).toArray[j]? = some (.ref (ps.getD j 0)) ∧ PairAt s.heap (ps.getD j 0) k v
    rw [hget j b e1]
    exact ⟨by simp [e1], .inl e2⟩
  refine PySem.call_dict_pairs (knd := mixKind X.prog X.w) (kvs := prs) (PairArg.tuple a (ps.map Value.ref).toArray (fun j => ps.getD j 0) vps) (I.ok.hd hcalm) ok ⟨by rw [hl, hl2], fun i key v e => ?_⟩ (by rw [hl2]; exact hz) fun h' tk hd' k => ?_
  · obtain ⟨b, k', e1, e2, e3, e4⟩ := hpr i key v e
    exact ⟨k', e3, e4⟩
  · have hm : (s.heap.objs.size == sysModules) = false := beq_eq_false_iff_ne.mpr (Nat.ne_of_gt I.big)
    have hlen : (mergeK [] kvs).length ≤ sizeLine := by
      refine Nat.le_trans (length_mergeK kvs []) ?_
      rw [List.length_nil, Nat.zero_add, rel.length, hl]
      exact hz
    have k' : ∀ b u, s.heap.get? b = some u → h'.get? b = some u := fun b u e => k b u (by simp) e
    exact ⟨.ref s.heap.objs.size, upd H s.heap.objs.size (.dK (mergeK [] kvs)), I.laid (t' := tk) k' (Nat.le_refl _) (show ObjOk X.prog X.w _ _ _ (.dK (mergeK [] kvs)) from ⟨hlen, hm, merged [] prs, KV.merge rel .nil, hd'⟩), rfl, q _ (I.hok.fresh (Nat.le_refl _))⟩
end
end K1

end
section
set_option Elab.async false
set_option linter.all false
set_option maxRecDepth 100000
set_option maxHeartbeats 4000000
namespace K1
open PySem L2
/-! ### the draws: any number below the bound -/
/-- the drawing list at d: what is drawn from, 0, how many were drawn -/
def Drw (H : Hp) (d : Addr) : Prop := ∃ (sa : Addr) (ns : List Int) (n : Int), H d = some (.lst [.ref sa, .int 0, .int n]) ∧ H sa = some (.lst (ns.map V.int)) ∧ ns.length ≤ 63 ∧ 0 ≤ n
/-- all that was there stays, but the drawing list -/
def Aft (H H' : Hp) (d : Addr) : Prop := ∀ x o, x ≠ d → H x = some o → H' x = some o
theorem Aft.refl (H : Hp) (d : Addr) : Aft H H d := fun _ _ _ h => h
theorem Aft.trans {H H1 H2 : Hp} {d : Addr} (a : Aft H H1 d) (b : Aft H1 H2 d) : Aft H H2 d := fun x o n h => b x o n (a x o n h)
theorem Aft.of {H H' : Hp} {d : Addr} (s : Same H H') : Aft H H' d := fun x o _ h => s x o h
theorem Drw.same {H H' : Hp} {d : Addr} (h : Drw H d) (s : Same H H') : Drw H' d := by
  obtain ⟨sa, ns, n, h1, h2, h3⟩ := h
  exact ⟨sa, ns, n, s _ _ h1, s _ _ h2, h3⟩
theorem Drw.ne {H : Hp} {d x : Addr} {o : HO} (h : Drw H d) (hx : H x = some o) (hn : ∀ sa n, o ≠ .lst [.ref sa, .int 0, .int n]) : x ≠ d := fun e => by
  obtain ⟨sa, ns, n, h1, _⟩ := h
  rw [e, h1] at hx
  exact hn sa n (Option.some.inj hx).symm
theorem Aft.tup {K : PySem.W.Frag} {H H' : Hp} {d a : Addr} {xs : List V} (hd : Drw H d) (e : Aft H H' d) (h : SqT K H a xs) : SqT K H' a xs := by
  rcases h with (h | ⟨o, h⟩) | h
  · exact .inl (.inl (e _ _ (hd.ne h fun _ _ z => by cases z) h))
  · exact .inl (.inr ⟨o, e _ _ (hd.ne h fun _ _ z => by cases z) h⟩)
  · exact .inr h
theorem Aft.seq {K : PySem.W.Frag} {H H' : Hp} {d a : Addr} {xs : List V} (hn : a ≠ d) (e : Aft H H' d) (h : SqL K H a xs) : SqL K H' a xs := by
  rcases h with (h | ⟨o, h⟩) | h
  · exact .inl (.inl (e _ _ hn h))
  · exact .inl (.inr ⟨o, e _ _ hn h⟩)
  · exact .inr h
mutual
theorem kd_aft {K : PySem.W.Frag} {H H' : Hp} {d : Addr} (hd : Drw H d) (e : Aft H H' d) {B : List Str} : ∀ (n : Nat) {v : V} {k : PyData}, KdOk B n k → Dp K H v k → Dp K H' v k
  | n + 1, v, _, .inl ⟨w, _, q⟩, h => by
    subst q
    obtain ⟨a, rfl, hS⟩ := dp_base h
    exact dp_ref (Aft.tup hd e hS) (.str _) (.str _)
  | n + 1, v, _, .inr ⟨rows, q, _, hr⟩, h => by
    subst q
    obtain ⟨a, b, xs, rfl, hS, hB, hD⟩ := dp_rec h
    exact dp_ref (Aft.tup hd e hS) (.str _) (.tup (Aft.tup hd e hB) (kds_aft hd e n rows hr hD))
theorem kds_aft {K : PySem.W.Frag} {H H' : Hp} {d : Addr} (hd : Drw H d) (e : Aft H H' d) {B : List Str} : ∀ (n : Nat) (rows : List (Str × PyData)) {vs : List V}, (∀ r ∈ rows, KdOk B n r.2) → DpAll K H vs (rows.map rowD) → DpAll K H' vs (rows.map rowD)
  | n, [], vs, _, h => by cases h; exact .nil
  | n, p :: r, vs, hr, h => by
    cases h with
    | cons h1 h2 =>
      obtain ⟨a, u, rfl, hS, hu⟩ := dp_row h1
      exact .cons (dp_ref (Aft.tup hd e hS) (.str _) (kd_aft hd e n (hr p List.mem_cons_self) hu)) (kds_aft hd e n r (fun x hx => hr x (List.mem_cons_of_mem _ hx)) h2)
end
theorem at_list {xs : List V} {k : Int} (h0 : 0 ≤ k) (h : k < (xs.length : Int)) : ∃ v, xs[k.toNat]? = some v ∧ atI xs k = some v := by
  have hk : k.toNat < xs.length := by omega
  have ek : k = ((k.toNat : Nat) : Int) := by omega
  have q : atI xs ((k.toNat : Nat) : Int) = some xs[k.toNat] := atI_nat (List.getElem?_eq_getElem hk)
  rw [← ek] at q
  exact ⟨_, List.getElem?_eq_getElem hk, q⟩
theorem at_ints {ns : List Int} {k : Int} (h0 : 0 ≤ k) (h : k < (ns.length : Int)) : ∃ v : Int, atI (ns.map V.int) k = some (.int v) := by
  obtain ⟨v, h1, h2⟩ := at_list (xs := ns.map V.int) h0 (by rw [List.length_map]; exact h)
  rw [List.getElem?_map] at h1
  cases e : ns[k.toNat]? with
  | none => rw [e] at h1; cases h1
  | some i =>
    rw [e] at h1
    cases h1
    exact ⟨i, h2⟩
section
variable {P : Program} {w : World} {K : PySem.W.Frag} {mg : Str → Option Value} {base : Heap}
abbrev sCell : Stmt := tp 37
theorem scCell : FnScope ["script", "k"] ["script", "k"] (defScope sCell) := ⟨rfl, rfl, rfl, by decide +kernel, rfl, by decide +kernel, by decide +kernel⟩
def spCell (K : PySem.W.Frag) : Sp := fun vs H Q _ => ∃ (a : Addr) (ns : List Int) (k : Int), vs = [.ref a, .int k] ∧ SqL K H a (ns.map V.int) ∧ 0 ≤ k ∧ ∀ r, Q (.int r) H
theorem ok_cell {f : Addr} {fd : FuncData} (F : Fun K "_law_cell_at" "_law_cell_at" sCell f fd) (ml : mg "len" = none) : FnOk P w K mg base CX0 1 f fd ["script", "k"] (spCell K) := by
  refine F.ok scCell (fun vs H Q E h => ?_) (fun cdv A outer s H vs Q E hr h => ?_)
  · obtain ⟨x, _, _, rfl, _⟩ := h
    rfl
  obtain ⟨a, ns, k, rfl, hS, h0, q⟩ := h
  refine ⟨_, pss_cons (ps_if (pt_cmpR op_lt (pv 1) (pe_callB call_len_seq rfl ml PySem.boot_len (pa_cons (pv 0) pa_nil)) (nomark _)) (pss_one (ps_ret (pe_ix ix_list (pv 0) (pv 1) (fun _ _ => rfl)))) pss_nil)
    (pss_one (ps_ret pe_int)), ?_⟩
  refine ⟨_, rfl, _, rfl, a, _, rfl, .inl hS, _, _, rfl, rfl, _, rfl, ite2 (fun c => ?_) (fun c => ?_)⟩
  · have c' : k < (((ns.map V.int).length : Nat) : Int) := of_decide_eq_true c
    rw [List.length_map] at c'
    obtain ⟨v, hv⟩ := at_ints (ns := ns) h0 c'
    exact ⟨_, rfl, _, rfl, a, _, k, .int v, rfl, rfl, hS, hv, q _⟩
  · exact q 0
abbrev sDraw : Stmt := tp 38
theorem scDraw : FnScope ["cell", "k", "bound", "primes"] ["cell", "k", "bound"] (defScope sDraw) := ⟨rfl, rfl, rfl, by decide +kernel, rfl, by decide +kernel, by decide +kernel⟩
def spDraw : Sp := fun vs H Q _ => ∃ (c k b : Int), vs = [.int c, .int k, .int b] ∧ c.natAbs < 2 ^ 60 ∧ k.natAbs < 2 ^ 60 ∧ 0 < b ∧ ∀ r H', 0 ≤ r → r < b → Same H H' → Q (.int r) H'
def PRM : List Int := [1000003, 1000033, 1000037, 1000039, 1000081, 1000099, 1000117, 1000121, 1000133, 1000151, 1000159, 1000171, 1000183, 1000187, 1000193, 1000199]
theorem prm_at {i : Int} (h0 : 0 ≤ i) (h : i < 16) : ∃ p : Int, 0 < p ∧ atI (PRM.map V.int) i = some (.int p) := by
  have z : ∀ n : Fin 16, ∃ p : Int, 0 < p ∧ PRM[n.val]? = some p := fun n => ⟨PRM.getD n.val 0, by revert n; decide +kernel, by revert n; decide +kernel⟩
  obtain ⟨p, h1, h2⟩ := z ⟨i.toNat, by omega⟩
  refine ⟨p, h1, ?_⟩
  have ek : i = ((i.toNat : Nat) : Int) := by omega
  have q : atI (PRM.map V.int) ((i.toNat : Nat) : Int) = some (.int p) := atI_nat (by rw [List.getElem?_map, h2] <;> rfl)
  rw [← ek] at q
  exact q
theorem ok_draw {f : Addr} {fd : FuncData} (F : Fun K "_law_draw" "_law_draw" sDraw f fd) (mi : mg "int" = none) : FnOk P w K mg base CX0 1 f fd ["cell", "k", "bound"] spDraw := by
  refine F.ok scDraw (fun vs H Q E h => ?_) (fun cdv A outer s H vs Q E hr h => ?_)
  · obtain ⟨x, _, _, rfl, _⟩ := h
    rfl
  obtain ⟨c, k, b, rfl, hc, hk, hb, q⟩ := h
  refine ⟨_, pss_cons (ps_set (i := 3) scDraw.nd rfl (Or.inl rfl) (pe_tup (pa_cons pe_int (pa_cons pe_int (pa_cons pe_int (pa_cons pe_int (pa_cons pe_int (pa_cons pe_int (pa_cons pe_int (pa_cons pe_int (pa_cons pe_int (pa_cons pe_int (pa_cons pe_int (pa_cons pe_int (pa_cons pe_int (pa_cons pe_int (pa_cons pe_int (pa_cons pe_int pa_nil))))))))))))))))))
    (pss_one (ps_ret (pe_op op_modN (pe_op op_modN (pe_callTy call_int1 rfl mi (by decide +kernel) (pa_cons (pe_op op_add (pe_mul (pv 0) pe_int) (pe_mul (pv 1) pe_int)) pa_nil))
      (pe_ix ix_tup (pv 3) (pe_op op_mod (pe_callTy call_int1 rfl mi (by decide +kernel) (pa_cons (pv 1) pa_nil)) pe_int) (fun _ _ => rfl))) (pv 2)))), ?_⟩
  refine ⟨(by show 16 ≤ sizeLine; decide), fun p hp => ?_⟩
  have hp' : upd H p (.tup (PRM.map V.int)) p = some (.tup (PRM.map V.int)) := upd_same
  obtain ⟨m, hm0, hm⟩ := prm_at (i := k % 16) (Int.emod_nonneg _ (by decide)) (Int.emod_lt_of_pos _ (by decide))
  refine ⟨_, rfl, _, _, rfl, rfl, ⟨by omega, by omega⟩, _, rfl, _, _, rfl, rfl, ⟨by omega, by omega⟩, _, _, rfl, rfl, .inl ⟨_, rfl, ?_⟩⟩
  refine ⟨_, rfl, _, rfl, .inl ⟨_, rfl, _, _, rfl, rfl, (by show (0 : Int) < 16; decide), p, _, _, _, rfl, rfl, K1.SqT.of hp', hm, _, _, rfl, rfl, by omega, _, rfl, _, _, rfl, rfl, by omega, ?_⟩⟩
  exact q _ _ (Int.fmod_nonneg_of_pos _ hb) (Int.fmod_lt_of_pos _ hb) (Same.new hp _)
end
end K1

end
section
set_option Elab.async false
set_option linter.all false
set_option maxRecDepth 100000
set_option maxHeartbeats 4000000
namespace K1
open PySem L2
section
variable {P : Program} {w : World} {K : PySem.W.Frag} {mg : Str → Option Value} {base : Heap}
abbrev sNum : Stmt := tp 39
theorem scNum : FnScope ["cell", "k", "bound", "power", "lap", "remains", "small"] ["cell", "k", "bound"] (defScope sNum) := ⟨rfl, rfl, rfl, by decide +kernel, rfl, by decide +kernel, by decide +kernel⟩
def spNum : Sp := fun vs H Q _ => ∃ (c k b : Int), vs = [.int c, .int k, .int b] ∧ 0 ≤ k ∧ k ≤ 100 ∧ 0 < b ∧ ∀ r H', 0 ≤ r → r < b → Same H H' → Q (.int r) H'
theorem pow_small (i : Nat) (h : i < 24) : ((1009 : Int) ^ i).natAbs < 2 ^ 240 ∧ (0 : Int) < 1009 ^ i := by
  have z : ∀ n : Fin 24, ((1009 : Int) ^ n.val).natAbs < 2 ^ 240 ∧ (0 : Int) < 1009 ^ n.val := by decide +kernel
  exact z ⟨i, h⟩
theorem ok_num {f fD : Addr} {fd fdD : FuncData} (F : Fun K "_law_number" "_law_number" sNum f fd) (mi : mg "int" = none) (mr : mg "range" = none)
    (G : FnOk P w K mg base CX0 1 fD fdD ["cell", "k", "bound"] spDraw) (bG : Binds K fdD ["cell", "k", "bound"] []) (kG : PySem.W.keepIn K (.ref fD) = true) (mG : mg "_law_draw" = some (.ref fD)) : FnOk P w K mg base CX0 2 f fd ["cell", "k", "bound"] spNum := by
  refine F.ok scNum (fun vs H Q E h => ?_) (fun cdv A outer s H vs Q E hr h => ?_)
  · obtain ⟨x, _, _, rfl, _⟩ := h
    rfl
  obtain ⟨c, k, b, rfl, h0, h1, hb, q⟩ := h
  refine ⟨_, pss_cons (ps_set (i := 3) scNum.nd rfl (Or.inl rfl) pe_int)
    (pss_cons (ps_for PassesOwn.never rfl (pi_range1 rfl mr (pa_cons (pe_op op_mod (pe_callTy call_int1 rfl mi (by decide +kernel) (pa_cons (pv 1) pa_nil)) pe_int) pa_nil)) (pg_name (i := 4) scNum.nd rfl (Or.inl rfl))
      (pss_one (ps_set (i := 3) scNum.nd rfl (Or.inl rfl) (pe_op op_mulW (pv 3) pe_int))))
    (pss_cons (ps_set (i := 5) scNum.nd rfl (Or.inl rfl) (pe_op op_fdivW (pe_op op_sub (pv 0) (pe_op op_pow pe_int pe_int)) (pv 3)))
    (pss_cons (ps_if (pt_cmpR op_gt (pv 5) pe_int (nomark _)) (pss_one (ps_ret (pe_op op_modN (pe_op op_mod (pe_callTy call_int1 rfl mi (by decide +kernel) (pa_cons (pv 5) pa_nil)) pe_int) (pv 2)))) pss_nil)
    (pss_cons (ps_set (i := 6) scNum.nd rfl (Or.inl rfl) (pe_op op_mod (pe_callTy call_int1 rfl mi (by decide +kernel) (pa_cons (pv 0) pa_nil)) pe_int))
    (pss_one (ps_ret (pe_op op_modN (pe_call G hr rfl mG kG bG .nil pass0 (pa_cons (pe_mul (pe_op op_add (pv 6) (pe_mul pe_int (pv 1))) (pe_op op_add (pe_op op_add (pv 6) (pe_mul pe_int (pv 1))) pe_int))
      (pa_cons (pe_op op_add (pe_op op_mod (pe_callTy call_int1 rfl mi (by decide +kernel) (pa_cons (pv 1) pa_nil)) pe_int) pe_int) (pa_cons pe_int pa_nil)))) (pv 2)))))))), ?_⟩
  have hk0 : 0 ≤ k % 24 := Int.emod_nonneg _ (by decide)
  have hk1 : k % 24 < 24 := Int.emod_lt_of_pos _ (by decide)
  refine ⟨_, rfl, .inl ⟨_, rfl, _, _, rfl, rfl, (by show (0 : Int) < 24; decide), _, rfl, by omega, by omega, ?_⟩⟩
  refine for_range (n := (k % 24).toNat) (fun i σ H' => H' = H ∧ ∃ v, σ = [some (.int c), some (.int k), some (.int b), some (.int (1009 ^ i)), v, none, none]) ⟨rfl, none, rfl⟩ ?_ ?_
  · rintro i σ H' hi ⟨rfl, v, rfl⟩
    have hp := pow_small i (by omega)
    refine ⟨_, rfl, _, _, rfl, rfl, wide_mul hp.1 (show (1009 : Int).natAbs < 2 ^ 10 by decide) (by decide) (by decide) (by decide), rfl, some (.int (0 + (i : Int))), ?_⟩
    rw [Int.pow_succ]
    rfl
  · rintro σ H' ⟨rfl, v, rfl⟩
    have hp := pow_small (k % 24).toNat (by omega)
    refine ⟨_, rfl, _, _, rfl, rfl, ⟨by decide, by decide, by decide +kernel⟩, _, _, rfl, rfl, _, rfl, _, _, rfl, rfl, wide_div hp.2 hp.1 (by decide) (by decide), ?_⟩
    refine ⟨_, rfl, _, _, rfl, rfl, _, rfl, ite2 (fun z => ?_) (fun z => ?_)⟩
    · refine ⟨_, rfl, .inl ⟨_, rfl, _, _, rfl, rfl, (by show (0 : Int) < 1009; decide), _, rfl, _, _, rfl, rfl, by omega, ?_⟩⟩
      exact q _ _ (Int.fmod_nonneg_of_pos _ hb) (Int.fmod_lt_of_pos _ hb) (Same.refl _)
    · refine ⟨_, rfl, .inl ⟨_, rfl, _, _, rfl, rfl, (by show (0 : Int) < 1000003; decide), ?_⟩⟩
      have s0 : 0 ≤ c % 1000003 := Int.emod_nonneg _ (by decide)
      have s1 : c % 1000003 < 1000003 := Int.emod_lt_of_pos _ (by decide)
      have k9 : 0 ≤ k % 9 := Int.emod_nonneg _ (by decide)
      have k9' : k % 9 < 9 := Int.emod_lt_of_pos _ (by decide)
      refine ⟨_, rfl, _, rfl, _, _, rfl, rfl, (by constructor <;> decide), _, _, rfl, rfl, _, rfl, _, rfl, _, _, rfl, rfl, (by constructor <;> decide), _, _, rfl, rfl, _, _, rfl, rfl, _, _, rfl, rfl, ?_, ?_⟩
      · constructor <;> omega
      refine ⟨_, rfl, .inl ⟨_, rfl, _, _, rfl, rfl, (by show (0 : Int) < 9; decide), _, _, rfl, rfl, _, _, _, rfl, ?_, ?_, by decide, fun r H2 r0 r1 s2 => ?_⟩⟩
      · have a1 : (c % 1000003 + 977 * k).natAbs < 2 ^ 21 := by omega
        have a2 : (c % 1000003 + 31 * k + 5).natAbs < 2 ^ 21 := by omega
        exact Nat.lt_trans (wide_lt a1 a2) (by decide)
      · omega
      · refine ⟨_, rfl, _, _, rfl, rfl, by omega, ?_⟩
        exact q _ _ (Int.fmod_nonneg_of_pos _ hb) (Int.fmod_lt_of_pos _ hb) s2
end
end K1

end
section
set_option Elab.async false
set_option linter.all false
set_option maxRecDepth 100000
set_option maxHeartbeats 4000000
namespace K1
open PySem L2
section
variable {P : Program} {w : World} {K : PySem.W.Frag} {mg : Str → Option Value} {base : Heap}
abbrev sNext : Stmt := tp 40
theorem scNext : FnScope ["draw", "bound", "at", "cell"] ["draw", "bound"] (defScope sNext) := ⟨rfl, rfl, rfl, by decide +kernel, rfl, by decide +kernel, by decide +kernel⟩
/-- the drawing list at d, with what is drawn from at sa -/
def DrwS (H : Hp) (d sa : Addr) : Prop := ∃ (ns : List Int) (n : Int), H d = some (.lst [.ref sa, .int 0, .int n]) ∧ H sa = some (.lst (ns.map V.int)) ∧ ns.length ≤ 63 ∧ 0 ≤ n
theorem DrwS.drw {H : Hp} {d sa : Addr} (h : DrwS H d sa) : Drw H d := ⟨sa, h⟩
def spNext : Sp := fun vs H Q _ => ∃ (d sa : Addr) (b : Int), vs = [.ref d, .int b] ∧ DrwS H d sa ∧ 0 < b ∧ ∀ r H', 0 ≤ r → r < b → Aft H H' d → DrwS H' d sa → Q (.int r) H'
theorem ok_next {f f1 f2 : Addr} {fd fd1 fd2 : FuncData} (F : Fun K "_law_next" "_law_next" sNext f fd) (mi : mg "int" = none)
    (G1 : FnOk P w K mg base CX0 1 f1 fd1 ["script", "k"] (spCell K)) (b1 : Binds K fd1 ["script", "k"] []) (k1 : PySem.W.keepIn K (.ref f1) = true) (m1 : mg "_law_cell_at" = some (.ref f1))
    (G2 : FnOk P w K mg base CX0 2 f2 fd2 ["cell", "k", "bound"] spNum) (b2 : Binds K fd2 ["cell", "k", "bound"] []) (k2 : PySem.W.keepIn K (.ref f2) = true) (m2 : mg "_law_number" = some (.ref f2)) : FnOk P w K mg base CX0 3 f fd ["draw", "bound"] spNext := by
  refine F.ok scNext (fun vs H Q E h => ?_) (fun cdv A outer s H vs Q E hr h => ?_)
  · obtain ⟨x, _, _, rfl, _⟩ := h
    rfl
  obtain ⟨d, sa, b, rfl, ⟨ns, n, hd, hsa, hlen, hn⟩, hb, q⟩ := h
  refine ⟨_, pss_cons (ps_asg (pe_op op_add (pe_ix ix_list (pv 0) pe_int (fun _ _ => rfl)) pe_int) (pg_sub (pv 0) pe_int set_list))
    (pss_cons (ps_set (i := 2) scNext.nd rfl (Or.inl rfl) (pe_op op_fdiv (pe_ix ix_list (pv 0) pe_int (fun _ _ => rfl)) pe_int))
    (pss_cons (ps_set (i := 3) scNext.nd rfl (Or.inl rfl) (pe_op op_add (pe_call G1 (hr.mono (by decide)) rfl m1 k1 b1 .nil pass0 (pa_cons (pe_ix ix_list (pv 0) pe_int (fun _ _ => rfl)) (pa_cons (pe_op op_add (pe_ix ix_list (pv 0) pe_int (fun _ _ => rfl)) (pv 2)) pa_nil))) (pe_mul pe_int (pv 2))))
    (pss_one (ps_ret (pe_call G2 hr rfl m2 k2 b2 .nil pass0 (pa_cons (pv 3) (pa_cons (pe_op op_add (pe_op op_mod (pe_callTy call_int1 rfl mi (by decide +kernel) (pa_cons (pe_ix ix_list (pv 0) pe_int (fun _ _ => rfl)) pa_nil)) pe_int) pe_int) (pa_cons (pv 1) pa_nil)))))))), ?_⟩
  have nsd : sa ≠ d := fun e => by
    rw [e, hd] at hsa
    have z := congrArg (fun o => match o with
      | HO.lst (.ref _ :: _) => true
      | _ => false) (Option.some.inj hsa)
    cases ns with
    | nil => cases z
    | cons => cases z
  refine ⟨_, rfl, d, _, 2, .int n, rfl, rfl, SqL.of hd, rfl, _, _, rfl, rfl, ?_⟩
  refine ⟨_, rfl, d, _, _, 2, rfl, rfl, hd, rfl, ?_⟩
  have h2 : upd H d (.lst [.ref sa, .int 0, .int (n + 1)]) d = some (.lst [.ref sa, .int 0, .int (n + 1)]) := upd_same
  refine ⟨_, rfl, d, _, 2, .int (n + 1), rfl, rfl, SqL.of h2, rfl, _, _, rfl, rfl, ⟨by decide, by decide⟩, ?_⟩
  have ha : (0 : Int) ≤ (n + 1) / 12 := Int.ediv_nonneg (by omega) (by decide)
  have s2 : upd H d (.lst [.ref sa, .int 0, .int (n + 1)]) sa = some (.lst (ns.map V.int)) := by rw [upd_ne nsd]; exact hsa
  refine ⟨_, rfl, d, _, 0, .ref sa, rfl, rfl, SqL.of h2, rfl, _, rfl, d, _, 1, .int 0, rfl, rfl, SqL.of h2, rfl, _, rfl, _, _, rfl, rfl, sa, ns, _, rfl, SqL.of s2, by omega, fun r => ?_⟩
  refine ⟨_, rfl, _, _, rfl, rfl, (by constructor <;> decide), _, _, rfl, rfl, ?_⟩
  refine ⟨_, rfl, _, rfl, d, _, 2, .int (n + 1), rfl, rfl, SqL.of h2, rfl, .inl ⟨_, rfl, _, _, rfl, rfl, (by show (0 : Int) < 12; decide), _, _, rfl, rfl, _, rfl, _, _, _, rfl, ?_, ?_, hb, fun r2 H2 r0 r1 s3 => ?_⟩⟩
  · have := Int.emod_nonneg (n + 1) (show (12 : Int) ≠ 0 by decide)
    omega
  · have := Int.emod_lt_of_pos (n + 1) (show (0 : Int) < 12 by decide)
    omega
  · refine q r2 H2 r0 r1 (fun x o hx ho => s3 _ _ (by rw [upd_ne hx]; exact ho)) ⟨ns, n + 1, s3 _ _ h2, s3 _ _ s2, hlen, by omega⟩
abbrev sPick : Stmt := tp 41
theorem scPick : FnScope ["draw", "things"] ["draw", "things"] (defScope sPick) := ⟨rfl, rfl, rfl, by decide +kernel, rfl, by decide +kernel, by decide +kernel⟩
def spPick (K : PySem.W.Frag) : Sp := fun vs H Q _ => ∃ (d sa l : Addr) (xs : List V), vs = [.ref d, .ref l] ∧ DrwS H d sa ∧ SqL K H l xs ∧ l ≠ d ∧ xs ≠ [] ∧ ∀ (i : Nat) (x : V) (H' : Hp), xs[i]? = some x → Aft H H' d → DrwS H' d sa → Q x H'
theorem ok_pick {f f1 : Addr} {fd fd1 : FuncData} (F : Fun K "_law_pick" "_law_pick" sPick f fd) (ml : mg "len" = none)
    (G1 : FnOk P w K mg base CX0 3 f1 fd1 ["draw", "bound"] spNext) (b1 : Binds K fd1 ["draw", "bound"] []) (k1 : PySem.W.keepIn K (.ref f1) = true) (m1 : mg "_law_next" = some (.ref f1)) : FnOk P w K mg base CX0 4 f fd ["draw", "things"] (spPick K) := by
  refine F.ok scPick (fun vs H Q E h => ?_) (fun cdv A outer s H vs Q E hr h => ?_)
  · obtain ⟨x, _, _, _, rfl, _⟩ := h
    rfl
  obtain ⟨d, sa, l, xs, rfl, hd, hl, hne, hx, q⟩ := h
  refine ⟨_, pss_one (ps_ret (pe_ix ix_list (pv 1) (pe_call G1 hr rfl m1 k1 b1 .nil pass0 (pa_cons (pv 0) (pa_cons (pe_callB call_len_seq rfl ml PySem.boot_len (pa_cons (pv 1) pa_nil)) pa_nil))) (fun _ _ => rfl))), ?_⟩
  have h0 : 0 < xs.length := List.length_pos_iff.mpr hx
  refine ⟨_, rfl, _, rfl, _, rfl, l, _, rfl, .inl hl, d, sa, _, rfl, hd, by omega, fun r H' r0 r1 a1 d1 => ?_⟩
  obtain ⟨v, e1, e2⟩ := at_list r0 r1
  exact ⟨l, xs, r, v, rfl, rfl, Aft.seq hne a1 hl, e2, q _ v H' e1 a1 d1⟩
end
end K1

end
section
set_option Elab.async false
set_option linter.all false
set_option maxRecDepth 100000
set_option maxHeartbeats 4000000
namespace K1
open PySem L2
def anyD : PyData := .tuple [.str "any"]
/-- the constants of kinds -/
structure KC (K : PySem.W.Frag) (mg : Str → Option Value) (aA aN : Addr) : Prop where
  gA : mg "ANY" = some (.ref aA)
  tA : ∀ H, SqT K H aA [.str "any"]
  gN : mg "NO_WORDS" = some (.ref aN)
  tN : ∀ H, SqT K H aN [.str "any", .str "give", .str "let"]
  len : mg "len" = none
  all : mg "all" = none
  zip : mg "zip" = none
  isi : mg "isinstance" = none
section
variable {P : Program} {w : World} {K : PySem.W.Frag} {mg : Str → Option Value} {base : Heap} {aA aN : Addr}
abbrev sText : Stmt := tp 17
theorem scText : FnScope ["told", "rows", "field", "kind"] ["told"] (defScope sText) := ⟨rfl, rfl, rfl, by decide +kernel, rfl, by decide +kernel, by decide +kernel⟩
def spText (K : PySem.W.Frag) (n : Nat) : Sp := fun vs H Q _ => ∃ v d, vs = [v] ∧ Dp K H v d ∧ ((1 ≤ n ∧ d = anyD ∧ Q (.str "any") H) ∨ (n ≤ 5 ∧ KdOk BAS n d ∧ ∀ H', Same H H' → Q (.str (textD n d)) H'))
theorem ok_text {n : Nat} {f : Addr} {fd : FuncData} (F : Fun K "type_text" "type_text" sText f fd) (T : KC K mg aA aN) (G : FnOk P w K mg base CX0 n f fd ["told"] (spText K n)) (bG : Binds K fd ["told"] []) (mG : mg "type_text" = some (.ref f)) :
    FnOk P w K mg base CX0 (n + 1) f fd ["told"] (spText K (n + 1)) := by
  refine F.ok scText (fun vs H Q E h => ?_) (fun cdv A outer s H vs Q E hr h => ?_)
  · obtain ⟨v, d, rfl, _⟩ := h
    rfl
  obtain ⟨v, d, rfl, hd, q⟩ := h
  refine ⟨_, pss_cons (ps_if (pt_cmpR (op_eqD hr.units) (pv 0) (pgl T.gA) (nomark _)) (pss_one (ps_ret pe_str)) pss_nil)
    (pss_cons (ps_if (pt_cmpR (op_eqD hr.units) (pe_ix ix_tup (pv 0) pe_int (fun _ _ => rfl)) pe_str (nomark _)) (pss_one (ps_ret (pe_ix ix_tup (pv 0) pe_int (fun _ _ => rfl)))) pss_nil)
    (pss_cons (ps_setLc (i := 1) (own := [("field", 2), ("kind", 3)]) (g := gTup K 2 (gCons (gName 2) (gCons (gName 3) gNil))) rfl scText.nd rfl rfl (sw_true rfl rfl rfl (by decide +kernel)) (pi_tup (pe_ix ix_tup (pv 0) pe_int (fun _ _ => rfl)))
      (blkOk_by (N := ["told", "rows", "field", "kind"]) (sc := defScope sText) (by decide +kernel)) (fun _ _ _ _ _ => pg_tup rfl (pgs_cons (pg_name (i := 2) scText.nd rfl (Or.inl rfl)) (pgs_cons (pg_name (i := 3) scText.nd rfl (Or.inl rfl)) pgs_nil)))
      (fun _ _ _ _ _ => pts_nil)
      (fun _ _ _ _ _ => pe_op op_add_str (pe_op op_add_str (pv 2) pe_str) (pe_call G hr rfl mG F.kp bG .nil pass0 (pa_cons (pv 3) pa_nil))))
    (pss_one (ps_ret (pe_op op_add_str (pe_op op_add_str pe_str (pe_join pe_str (pv 1))) pe_str))))), ?_⟩
  have dA : SeqAt.shaped anyD = true := by decide +kernel
  rcases q with ⟨_, e, q⟩ | ⟨hn, hk, q⟩
  · subst e
    refine ⟨_, rfl, anyD, anyD, hd, .tup (T.tA _) (.cons (.str _) .nil), dA, dA, _, rfl, iteT ?_⟩
    exact q
  have sh := shaped_ok hk (by omega)
  rcases hk with ⟨wd, hw, e⟩ | ⟨rows, e, hs, hr'⟩
  · subst e
    obtain ⟨a, rfl, hS⟩ := dp_base hd
    refine ⟨_, rfl, baseD wd, anyD, hd, .tup (T.tA _) (.cons (.str _) .nil), sh, dA, _, rfl, iteF ?_⟩
    refine ⟨_, rfl, a, _, 0, .str "base", rfl, rfl, hS, rfl, .str "base", .str "base", .str _, .str _, by decide +kernel, by decide +kernel, _, rfl, iteT ?_⟩
    exact ⟨_, rfl, a, _, 1, .str wd, rfl, rfl, hS, rfl, q H (Same.refl H)⟩
  · subst e
    obtain ⟨a, b, xs, rfl, hS, hB, hD⟩ := dp_rec hd
    have hlen : xs.length = rows.length := by rw [dpAll_len hD, List.length_map]
    have h3 := len_fld hs
    rw [List.length_map] at h3
    refine ⟨_, rfl, recD rows, anyD, hd, .tup (T.tA _) (.cons (.str _) .nil), sh, dA, _, rfl, iteF ?_⟩
    refine ⟨_, rfl, a, _, 0, .str "record", rfl, rfl, hS, rfl, .str "record", .str "base", .str _, .str _, by decide +kernel, by decide +kernel, _, rfl, iteF ?_⟩
    refine ⟨_, rfl, a, _, 1, .ref b, rfl, rfl, hS, rfl, b, rfl, ⟨xs, hB⟩, fun D hN => lcT ((rows.map fun p => (p.1 ++ (": " : Str)) ++ textD n p.2).map V.str) (by rw [List.length_map, List.length_map, hlen]) (by omega) hB hN (fun i y x H' Q' hx hy s k => ?_) fun H' s hL => ?_⟩
    · obtain ⟨p, hp, hd'⟩ := dp_rows hD hx
      have hd' := dp_same s hd'
      obtain ⟨c, u, rfl, hC, hu⟩ := dp_row hd'
      rw [List.getElem?_map, List.getElem?_map, hp] at hy
      cases hy
      have hpm : p ∈ rows := List.mem_of_getElem? hp
      have h1 : ∀ x ∈ FLD, x.length = 1 := by decide +kernel
      have hl1 := h1 p.1 (hs.subset (List.mem_map.mpr ⟨p, hpm, rfl⟩))
      have hl2 : (": " : Str).length = 2 := by decide +kernel
      have hl3 := len_text n p.2 (hr' p hpm)
      have hl4 := pow20 (n := n) (by omega)
      refine ⟨c, _, rfl, hC, rfl, _, _, rfl, _, _, rfl, rfl, rfl, ?_⟩
      refine ⟨_, rfl, _, _, rfl, rfl, small_le (by rw [hl1, hl2]; decide), ?_⟩
      refine ⟨_, rfl, u, p.2, rfl, hu, .inr ⟨by omega, hr' p hpm, fun H4 s4 => ⟨_, _, rfl, rfl, ?_, k H4 s4⟩⟩⟩
      rw [len_app, hl1, hl2, sizeLine_eq]
      omega
    · have hL' : H' D = some (.lst ((rows.map fun p => (p.1 ++ (": " : Str)) ++ textD n p.2).map V.str)) := hL
      have hm : ∀ x ∈ (rows.map fun p => (p.1 ++ (": " : Str)) ++ textD n p.2), x.length ≤ 20 ^ n + 3 := fun x hx => by
        obtain ⟨p, hp, e⟩ := List.mem_map.mp hx
        subst e
        have h1 : ∀ x ∈ FLD, x.length = 1 := by decide +kernel
        rw [len_app, len_app, h1 p.1 (hs.subset (List.mem_map.mpr ⟨p, hp, rfl⟩)), show (": " : Str).length = 2 by decide +kernel]
        have hl3 := len_text n p.2 (hr' p hp)
        omega
      have hsum := sum_len hm
      have hj := len_join _ _ hm
      rw [List.length_map] at hsum hj
      have hl4 := pow20 (n := n) (by omega)
      have h5 : rows.length * (20 ^ n + 3) ≤ 3 * (20 ^ n + 3) := Nat.mul_le_mul_right _ h3
      have h6 : rows.length * (20 ^ n + 3 + 2) ≤ 3 * (20 ^ n + 3 + 2) := Nat.mul_le_mul_right _ h3
      refine ⟨⟨_, rfl⟩, _, rfl, _, D, _, rfl, rfl, .inl (SqL.of hL'), ?_, _, _, rfl, rfl, ?_, _, _, rfl, rfl, ?_, ?_⟩
      · rw [List.length_map, show (", " : Str).length = 2 by decide +kernel]
        omega
      · rw [TL.join_eq, show ("{" : Str).length = 1 by decide +kernel, sizeLine_eq]
        omega
      · rw [TL.join_eq, len_app, show ("{" : Str).length = 1 by decide +kernel, show ("}" : Str).length = 1 by decide +kernel, sizeLine_eq]
        omega
      · rw [TL.join_eq, ← text_rec]
        exact q H' s
end
end K1

end
section
set_option Elab.async false
set_option linter.all false
set_option maxRecDepth 100000
set_option maxHeartbeats 4000000
namespace K1
open PySem L2
/-! ### types as they stand in the heap -/
structure Rw where
  c : Addr
  f : Str
  u : V
  k : PyData
def Rw.pair (r : Rw) : Str × PyData := (r.f, r.k)
def KdH (K : PySem.W.Frag) (H : Hp) (B : List Str) : Nat → V → PyData → Prop
  | 0, _, _ => False
  | n + 1, v, d => (∃ w a, w ∈ B ∧ d = baseD w ∧ v = .ref a ∧ SqT K H a [.str "base", .str w]) ∨
    (∃ (a b : Addr) (L : List Rw), d = recD (L.map Rw.pair) ∧ (L.map (·.f)).Sublist FLD ∧ v = .ref a ∧ SqT K H a [.str "record", .ref b] ∧ TupN H b (L.map fun r => V.ref r.c) ∧
      ∀ r ∈ L, SqT K H r.c [.str r.f, r.u] ∧ KdH K H B n r.u r.k)
theorem pair_f (L : List Rw) : (L.map Rw.pair).map (·.1) = L.map (·.f) := by
  rw [List.map_map]
  rfl
section
variable {K : PySem.W.Frag} {H H' : Hp} {B B' : List Str}
theorem KdH.ok : ∀ {n : Nat} {v : V} {d : PyData}, KdH K H B n v d → KdOk B n d
  | n + 1, v, d, .inl ⟨w, a, hw, e, _⟩ => .inl ⟨w, hw, e⟩
  | n + 1, v, d, .inr ⟨a, b, L, e, hs, _, _, _, hL⟩ => .inr ⟨L.map Rw.pair, e, by rw [pair_f]; exact hs, fun p hp => by
      obtain ⟨r, hr, e⟩ := List.mem_map.mp hp
      subst e
      exact KdH.ok (hL r hr).2⟩
theorem dpAll_of {L : List Rw} (h : ∀ r ∈ L, Dp K H (.ref r.c) (rowD r.pair)) : DpAll K H (L.map fun r => V.ref r.c) ((L.map Rw.pair).map rowD) := by
  induction L with
  | nil => exact .nil
  | cons r L ih => exact .cons (h r List.mem_cons_self) (ih fun x hx => h x (List.mem_cons_of_mem _ hx))
theorem KdH.dp : ∀ {n : Nat} {v : V} {d : PyData}, KdH K H B n v d → Dp K H v d
  | n + 1, v, d, .inl ⟨w, a, hw, e, ev, hS⟩ => by
    subst e ev
    exact dp_ref hS (.str _) (.str _)
  | n + 1, v, d, .inr ⟨a, b, L, e, hs, ev, hS, hT, hL⟩ => by
    subst e ev
    exact dp_ref hS (.str _) (.tup hT.sq (dpAll_of fun r hr => dp_ref (hL r hr).1 (.str _) (KdH.dp (hL r hr).2)))
theorem KdH.same (s : Same H H') : ∀ {n : Nat} {v : V} {d : PyData}, KdH K H B n v d → KdH K H' B n v d
  | n + 1, v, d, .inl ⟨w, a, hw, e, ev, hS⟩ => .inl ⟨w, a, hw, e, ev, Same.tup s hS⟩
  | n + 1, v, d, .inr ⟨a, b, L, e, hs, ev, hS, hT, hL⟩ => .inr ⟨a, b, L, e, hs, ev, Same.tup s hS, hT.same s, fun r hr => ⟨Same.tup s (hL r hr).1, KdH.same s (hL r hr).2⟩⟩
theorem TupN.aft {d a : Addr} {xs : List V} (hd : Drw H d) (e : Aft H H' d) (h : TupN H a xs) : TupN H' a xs := by
  obtain ⟨o, h, q⟩ := h
  exact ⟨o, e _ _ (hd.ne h fun _ _ z => by cases z) h, q⟩
theorem KdH.aft {dd : Addr} (hd : Drw H dd) (s : Aft H H' dd) : ∀ {n : Nat} {v : V} {d : PyData}, KdH K H B n v d → KdH K H' B n v d
  | n + 1, v, d, .inl ⟨w, a, hw, e, ev, hS⟩ => .inl ⟨w, a, hw, e, ev, Aft.tup hd s hS⟩
  | n + 1, v, d, .inr ⟨a, b, L, e, hs, ev, hS, hT, hL⟩ => .inr ⟨a, b, L, e, hs, ev, Aft.tup hd s hS, hT.aft hd s, fun r hr => ⟨Aft.tup hd s (hL r hr).1, KdH.aft hd s (hL r hr).2⟩⟩
theorem KdH.mono : ∀ {n : Nat} {v : V} {d : PyData}, KdH K H B n v d → KdH K H B (n + 1) v d
  | n + 1, v, d, .inl h => .inl h
  | n + 1, v, d, .inr ⟨a, b, L, e, hs, ev, hS, hT, hL⟩ => .inr ⟨a, b, L, e, hs, ev, hS, hT, fun r hr => ⟨(hL r hr).1, KdH.mono (hL r hr).2⟩⟩
end
/-! ### the dict that dict(rows) makes -/
def kvR (L : List Rw) : List (Key × V) := L.map fun r => (Sum.inr r.f, r.u)
def lookR (f : Str) (L : List Rw) : Option Rw := L.find? fun r => decide (r.f = f)
theorem merge_new : ∀ {more kvs : List (Key × V)}, (more.map (·.1)).Nodup → (∀ p ∈ more, valV kvs p.1 = none) → mergeK kvs more = kvs ++ more
  | [], kvs, _, _ => by
    show kvs = kvs ++ []
    rw [List.append_nil]
  | p :: r, kvs, hn, hk => by
    have h1 : putK kvs p.1 p.2 = kvs ++ [(p.1, p.2)] := putK_new p.2 (hk p List.mem_cons_self)
    show mergeK (putK kvs p.1 p.2) r = _
    rw [h1, merge_new (List.nodup_cons.mp hn).2 fun q hq => ?_, List.append_assoc]
    · rfl
    · rw [valV_snoc p.1 q.1 p.2 kvs (hk p List.mem_cons_self), if_neg fun z : q.1 = p.1 => (List.nodup_cons.mp hn).1 (List.mem_map.mpr ⟨q, hq, z⟩)]
      exact hk q (List.mem_cons_of_mem _ hq)
theorem val_kvR (f : Str) : ∀ L : List Rw, valV (kvR L) (Sum.inr f) = (lookR f L).map (·.u)
  | [] => rfl
  | r :: L => by
    unfold lookR
    rw [List.find?_cons]
    by_cases h : r.f = f
    · rw [decide_eq_true h]
      exact valV_pos (congrArg Sum.inr h)
    · rw [decide_eq_false h]
      show valV (kvR (r :: L)) (Sum.inr f) = Option.map (fun x => x.u) (lookR f L)
      rw [← val_kvR f L]
      exact valV_neg fun z => h (Sum.inr.inj z)
theorem look_pair (f : Str) : ∀ L : List Rw, (L.map Rw.pair).lookup f = (lookR f L).map (·.k)
  | [] => rfl
  | r :: L => by
    unfold lookR
    rw [List.find?_cons, List.map_cons]
    by_cases h : r.f = f
    · rw [decide_eq_true h]
      show List.lookup f ((r.f, r.k) :: _) = _
      rw [List.lookup_cons, h, beq_self_eq_true]
      rfl
    · rw [decide_eq_false h]
      show List.lookup f ((r.f, r.k) :: _) = _
      rw [List.lookup_cons, beq_eq_false_iff_ne.mpr (Ne.symm h)]
      exact look_pair f L
theorem merge_kvR {L : List Rw} (h : (L.map (·.f)).Sublist FLD) : mergeK [] (kvR L) = kvR L := by
  rw [merge_new ?_ fun _ _ => valV_nil]
  · rfl
  · have hn := nodup_fld _ h
    have e : (kvR L).map (·.1) = (L.map (·.f)).map Sum.inr := by
      unfold kvR
      rw [List.map_map, List.map_map]
      rfl
    rw [e]
    exact List.Pairwise.map Sum.inr (fun a b hab z => hab (Sum.inr.inj z)) hn
theorem lookR_mem {f : Str} {L : List Rw} {r : Rw} (h : lookR f L = some r) : r ∈ L ∧ r.f = f := by
  unfold lookR at h
  exact ⟨List.mem_of_find?_eq_some h, by simpa using List.find?_some h⟩
theorem eqv_base (u v : Str) : PyData.eqv (baseD u) (baseD v) = decide (u = v) := by
  show (((("base" : Str) == ("base" : Str)) && ((u == v) && true)) : Bool) = decide (u = v)
  rw [show (("base" : Str) == ("base" : Str)) = true by decide +kernel, Bool.true_and, Bool.and_true]
  by_cases h : u = v
  · rw [h, beq_self_eq_true, decide_eq_true rfl]
  · rw [beq_eq_false_iff_ne.mpr h, decide_eq_false h]
theorem in_strs (v : Str) (ys : List Str) : inV (.str v) (ys.map V.str) = decide (v ∈ ys) := by
  unfold inV
  rw [List.any_map]
  by_cases h : v ∈ ys
  · rw [decide_eq_true h, List.any_eq_true]
    exact ⟨v, h, by show (v == v) = true; rw [beq_self_eq_true]⟩
  · rw [decide_eq_false h, List.any_eq_false]
    intro x hx z
    have z' : (x == v) = true := z
    exact h (beq_iff_eq.mp z' ▸ hx)
theorem flat_strs (ys : List Str) : (ys.map V.str).all flatV = true := by
  rw [List.all_map, List.all_eq_true]
  intro x _
  rfl
end K1

end
section
set_option Elab.async false
set_option linter.all false
set_option maxRecDepth 100000
set_option maxHeartbeats 4000000
namespace K1
open PySem L2
/-- the dict of those above each base type -/
def Abv (H : Hp) (dA : Addr) (B : List Str) (ab : Str → Str → Bool) : Prop := ∃ kvs, H dA = some (.dK kvs) ∧ ∀ u ∈ B, ∃ (l : Addr) (ys : List Str), valV kvs (Sum.inr u) = some (.ref l) ∧ H l = some (.lst (ys.map V.str)) ∧ ∀ v, ab u v = decide (v ∈ ys)
theorem Abv.same {H H' : Hp} {dA : Addr} {B : List Str} {ab : Str → Str → Bool} (s : Same H H') (h : Abv H dA B ab) : Abv H' dA B ab := by
  obtain ⟨kvs, h1, h2⟩ := h
  refine ⟨kvs, s _ _ h1, fun u hu => ?_⟩
  obtain ⟨l, ys, e1, e2, e3⟩ := h2 u hu
  exact ⟨l, ys, e1, s _ _ e2, e3⟩
theorem none_left {P : Program} {w : World} {K : PySem.W.Frag} {mg : Str → Option Value} {base : Heap} {f : Addr} {fd : FuncData} {ps : List Str} {sp : Sp} (no : ∀ vs H Q E, ¬ sp vs H Q E) : FnOk P w K mg base CX0 0 f fd ps sp :=
  ⟨fun vs H Q E h => absurd h (no vs H Q E), fun A outer s H args us vs Q E _ _ _ _ h => absurd h (no vs H Q E)⟩
theorem paired_rows {K : PySem.W.Frag} {H : Hp} : ∀ {L : List Rw}, (∀ r ∈ L, SqT K H r.c [.str r.f, r.u]) → Paired (fun (p : Addr) (kv : Key × V) => SqT K H p [kV kv.1, kv.2]) (L.map (·.c)) (kvR L)
  | [], _ => .nil
  | r :: L, h => .cons (h r List.mem_cons_self) (paired_rows fun x hx => h x (List.mem_cons_of_mem _ hx))
section
variable {P : Program} {w : World} {K : PySem.W.Frag} {mg : Str → Option Value} {base : Heap} {aA aN : Addr}
abbrev sUnder : Stmt := tp 25
theorem scUnder : FnScope ["above", "one", "other", "held", "field", "kind"] ["above", "one", "other"] (defScope sUnder) := ⟨rfl, rfl, rfl, by decide +kernel, rfl, by decide +kernel, by decide +kernel⟩
def spUnder (K : PySem.W.Frag) (B : List Str) (ab : Str → Str → Bool) (n : Nat) : Sp := fun vs H Q _ => ∃ dA v v', vs = [.ref dA, v, v'] ∧
  ((∃ d, Dp K H v' anyD ∧ KdH K H B n v d ∧ Q (.bl true) H) ∨ (∃ d d', n ≤ 20 ∧ Abv H dA B ab ∧ KdH K H B n v d ∧ KdH K H B n v' d' ∧ ∀ H', Same H H' → Q (.bl (underD ab n d d')) H'))
theorem bas_of {B : List Str} (hB : ∀ w ∈ B, w ∈ BAS) {n : Nat} {d : PyData} (h : KdOk B n d) (hn : n ≤ 20) : SeqAt.shaped d = true := shaped_ok (h.sub hB) hn
theorem ok_under {B : List Str} {ab : Str → Str → Bool} (hB : ∀ w ∈ B, w ∈ BAS) {n : Nat} {f : Addr} {fd : FuncData} (F : Fun K "is_under" "is_under" sUnder f fd) (T : KC K mg aA aN) (mD : mg "dict" = none) (G : FnOk P w K mg base CX0 n f fd ["above", "one", "other"] (spUnder K B ab n)) (bG : Binds K fd ["above", "one", "other"] []) (mG : mg "is_under" = some (.ref f)) :
    FnOk P w K mg base CX0 (n + 1) f fd ["above", "one", "other"] (spUnder K B ab (n + 1)) := by
  refine F.ok scUnder (fun vs H Q E h => ?_) (fun cdv A outer s H vs Q E hr h => ?_)
  · obtain ⟨dA, v, v', rfl, _⟩ := h
    rfl
  obtain ⟨dA, v, v', rfl, q⟩ := h
  refine ⟨_, pss_cons (ps_if (pt_cmpR (op_eqD hr.units) (pv 2) (pgl T.gA) (nomark _)) (pss_one (ps_ret pe_bl)) pss_nil)
    (pss_cons (ps_if (pt_cmpR (op_neD hr.units) (pe_ix ix_tup (pv 1) pe_int (fun _ _ => rfl)) (pe_ix ix_tup (pv 2) pe_int (fun _ _ => rfl)) (nomark _)) (pss_one (ps_ret pe_bl)) pss_nil)
    (pss_cons (ps_if (pt_cmpR (op_eqD hr.units) (pe_ix ix_tup (pv 1) pe_int (fun _ _ => rfl)) pe_str (nomark _)) (pss_one (ps_ret (pe_or (pe_cmpR (op_eqD hr.units) (pv 1) (pv 2) (nomark _))
        (pe_one (pe_cmpR op_in_seq (pe_ix ix_tup (pv 2) pe_int (fun _ _ => rfl)) (pe_dget2 (hu_of hr) (pv 0) (pe_ix ix_tup (pv 1) pe_int (fun _ _ => rfl)) (pe_lst pa_nil) ⟨rfl, rfl, rfl, rfl⟩) (by rfl)))))) pss_nil)
    (pss_cons (ps_set (i := 3) scUnder.nd rfl (Or.inr rfl) (pe_callTy (call_dictT rfl) rfl mD (by decide +kernel) (pa_cons (pe_ix ix_tup (pv 1) pe_int (fun _ _ => rfl)) pa_nil)))
    (pss_one (ps_ret (pe_callB (cr_all rfl) rfl T.all (by decide +kernel) (pa_cons (pe_lc (own := [("field", 4), ("kind", 5)]) (g := gTup K 2 (gCons (gName 4) (gCons (gName 5) gNil))) rfl scUnder.nd (pi_tup (pe_ix ix_tup (pv 2) pe_int (fun _ _ => rfl)))
      (blkOk_by (N := ["above", "one", "other", "held", "field", "kind"]) (sc := defScope sUnder) (by decide +kernel)) (fun _ _ _ _ _ => pg_tup rfl (pgs_cons (pg_name (i := 4) scUnder.nd rfl (Or.inl rfl)) (pgs_cons (pg_name (i := 5) scUnder.nd rfl (Or.inl rfl)) pgs_nil)))
      (fun _ _ _ _ _ => pts_nil)
      (fun _ _ _ _ _ => pe_and (pe_cmp (pc_din (hu_of hr) (pv 4) (pv 3)) rfl) (pe_one (pe_call G hr rfl mG F.kp bG .nil pass0 (pa_cons (pv 0) (pa_cons (pe_dget (hu_of hr) (pv 3) (pv 4) (fun _ _ => rfl)) (pa_cons (pv 5) pa_nil)))))))
      pa_nil))))))), ?_⟩
  have dA' : SeqAt.shaped anyD = true := by decide +kernel
  have sb : SeqAt.shaped (.str "base") = true := by decide +kernel
  have sr : SeqAt.shaped (.str "record") = true := by decide +kernel
  rcases q with ⟨d, hd', hd, q⟩ | ⟨d, d', hn, hA, hd, hd', q⟩
  · exact ⟨_, rfl, anyD, anyD, hd', .tup (T.tA _) (.cons (.str _) .nil), dA', dA', _, rfl, iteT q⟩
  have dp := hd.dp
  have dp' := hd'.dp
  have sd := bas_of hB hd.ok hn
  have sd' := bas_of hB hd'.ok hn
  rcases hd with ⟨u, a, hu, e, ev, hS⟩ | ⟨a, b, L, e, hs, ev, hS, hT, hL⟩ <;> rcases hd' with ⟨u', a', hu', e', ev', hS'⟩ | ⟨a', b', L', e', hs', ev', hS', hT', hL'⟩ <;> subst e ev e' ev'
  · refine ⟨_, rfl, baseD u', anyD, dp', .tup (T.tA _) (.cons (.str _) .nil), sd', dA', _, rfl, iteF ?_⟩
    refine ⟨_, rfl, a, _, 0, .str "base", rfl, rfl, hS, rfl, _, rfl, a', _, 0, .str "base", rfl, rfl, hS', rfl, .str "base", .str "base", .str _, .str _, sb, sb, _, rfl, iteF ?_⟩
    refine ⟨_, rfl, a, _, 0, .str "base", rfl, rfl, hS, rfl, .str "base", .str "base", .str _, .str _, sb, sb, _, rfl, iteT ?_⟩
    refine ⟨_, rfl, _, rfl, baseD u, baseD u', dp, dp', sd, sd', _, rfl, ite2 (fun c => ?_) (fun c => ?_)⟩
    · have z := q H (Same.refl H)
      rw [under_base, ← eqv_base, c, Bool.true_or] at z
      exact z
    · obtain ⟨kvs, hk, hkv⟩ := hA
      obtain ⟨l, ys, h1, h2, h3⟩ := hkv u hu
      refine ⟨_, rfl, a', _, 1, .str u', rfl, rfl, hS', rfl, _, rfl, dA, rfl, .inl ⟨kvs, .inl hk⟩, _, rfl, a, _, 1, .str u, rfl, rfl, hS, rfl, (by show 0 ≤ sizeLine; decide), fun p hp => ?_⟩
      have s := Same.new hp (.lst [])
      refine ⟨some (.ref l), ?_, l, ys.map V.str, rfl, .inl (SqL.of (s _ _ h2)), rfl, flat_strs ys, ?_⟩
      · rw [← h1]
        exact DGet.k (k := Sum.inr u) (s _ _ hk)
      · have z := q _ s
        rw [under_base, ← eqv_base, Bool.eq_false_iff.mpr c, Bool.false_or, h3, ← in_strs] at z
        exact z
  · refine ⟨_, rfl, recD (L'.map Rw.pair), anyD, dp', .tup (T.tA _) (.cons (.str _) .nil), sd', dA', _, rfl, iteF ?_⟩
    refine ⟨_, rfl, a, _, 0, .str "base", rfl, rfl, hS, rfl, _, rfl, a', _, 0, .str "record", rfl, rfl, hS', rfl, .str "base", .str "record", .str _, .str _, sb, sr, _, rfl, iteT ?_⟩
    exact q H (Same.refl H)
  · refine ⟨_, rfl, baseD u', anyD, dp', .tup (T.tA _) (.cons (.str _) .nil), sd', dA', _, rfl, iteF ?_⟩
    refine ⟨_, rfl, a, _, 0, .str "record", rfl, rfl, hS, rfl, _, rfl, a', _, 0, .str "base", rfl, rfl, hS', rfl, .str "record", .str "base", .str _, .str _, sr, sb, _, rfl, iteT ?_⟩
    exact q H (Same.refl H)
  · refine ⟨_, rfl, recD (L'.map Rw.pair), anyD, dp', .tup (T.tA _) (.cons (.str _) .nil), sd', dA', _, rfl, iteF ?_⟩
    refine ⟨_, rfl, a, _, 0, .str "record", rfl, rfl, hS, rfl, _, rfl, a', _, 0, .str "record", rfl, rfl, hS', rfl, .str "record", .str "record", .str _, .str _, sr, sr, _, rfl, iteF ?_⟩
    refine ⟨_, rfl, a, _, 0, .str "record", rfl, rfl, hS, rfl, .str "record", .str "base", .str _, .str _, sr, sb, _, rfl, iteF ?_⟩
    refine ⟨_, rfl, a, _, 1, .ref b, rfl, rfl, hS, rfl, b, L.map (·.c), kvR L, rfl, by rw [List.map_map]; exact hT, ?_, fun p hp => ?_⟩
    · exact paired_rows fun r hr => (hL r hr).1
    have s1 := Same.new hp (.dK (mergeK [] (kvR L)))
    have hp' : upd H p (.dK (mergeK [] (kvR L))) p = some (.dK (kvR L)) := by rw [upd_same, merge_kvR hs]
    have h3 := len_fld hs'
    rw [List.length_map] at h3
    refine ⟨_, rfl, a', _, 1, .ref b', rfl, rfl, Same.tup s1 hS', rfl, b', rfl, ⟨_, (hT'.same s1).sq⟩, fun D hN => lcT ((L'.map fun r => match (L.map Rw.pair).lookup r.f with
      | some k' => underD ab n k' r.k
      | none => false).map V.bl) (by rw [List.length_map, List.length_map, List.length_map]) (by rw [List.length_map]; omega) (hT'.same s1).sq hN (fun i y x H' Q' hx hy s k => ?_) fun H' s hL => ?_⟩
    · rw [List.getElem?_map] at hx hy
      rw [List.getElem?_map] at hy
      cases er : L'[i]? with
      | none => rw [er] at hx; cases hx
      | some r =>
        rw [er] at hx hy
        cases hx
        cases hy
        have hr2 : r ∈ L' := List.mem_of_getElem? er
        obtain ⟨hc, hk⟩ := hL' r hr2
        have s2 := s1.trans s
        have hp2 := s _ _ hp'
        refine ⟨r.c, _, rfl, Same.tup s2 hc, rfl, _, _, rfl, _, _, rfl, rfl, rfl, ?_⟩
        refine ⟨_, rfl, _, rfl, p, _, rfl, DGet.k (k := Sum.inr r.f) hp2, _, rfl, ?_⟩
        have k' : ∀ H4, Same H' H4 → Q' (.bl (match (L.map Rw.pair).lookup r.f with
          | some k' => underD ab n k' r.k
          | none => false)) H4 := k
        rw [look_pair] at k'
        rw [val_kvR]
        cases el : lookR r.f L with
        | none =>
          rw [el] at k'
          exact iteF (k' H' (Same.refl H'))
        | some r0 =>
          rw [el] at k'
          obtain ⟨m0, f0⟩ := lookR_mem el
          refine iteT ⟨_, rfl, _, rfl, _, rfl, p, r0.u, rfl, ?_, _, rfl, dA, r0.u, r.u, rfl, .inr ⟨r0.k, r.k, by omega, hA.same s2, ((hL r0 m0).2).same s2, hk.same s2, fun H4 s4 => k' H4 s4⟩⟩
          have z := DGet.k (k := Sum.inr r.f) hp2
          rw [val_kvR, el] at z
          exact z
    · refine ⟨D, _, rfl, SqL.of hL, ?_⟩
      have z := q H' (s1.trans s)
      rw [under_rec, List.map_map] at z
      exact z
end
end K1

end
section
set_option Elab.async false
set_option linter.all false
set_option maxRecDepth 100000
set_option maxHeartbeats 4000000
namespace K1
open PySem L2
/-! ### the law's own look -/
theorem hu65 {A : Around} {k : Nat} (hr : Room k A) : A.units + 65 < cLine := by have := hr.un; omega
def pairD (p : Str × Str) : PyData := .tuple [.str p.1, .str p.2]
theorem eqv_pair (p q : Str × Str) : PyData.eqv (pairD p) (pairD q) = decide (p = q) := by
  obtain ⟨a, b⟩ := p
  obtain ⟨c, d⟩ := q
  show (((a == c) && ((b == d) && true)) : Bool) = decide ((a, b) = (c, d))
  rw [Bool.and_true]
  by_cases h : a = c
  · by_cases h2 : b = d
    · rw [h, h2, beq_self_eq_true, beq_self_eq_true, decide_eq_true rfl]
      rfl
    · rw [beq_eq_false_iff_ne.mpr h2, Bool.and_false, decide_eq_false fun z => h2 (Prod.mk.inj z).2]
  · rw [beq_eq_false_iff_ne.mpr h, Bool.false_and, decide_eq_false fun z => h (Prod.mk.inj z).1]
theorem any_pair (q : Str × Str) (ps : List (Str × Str)) : ((ps.map pairD).any fun z => PyData.eqv z (pairD q)) = decide (q ∈ ps) := by
  rw [List.any_map]
  by_cases h : q ∈ ps
  · rw [decide_eq_true h, List.any_eq_true]
    exact ⟨q, h, (eqv_pair q q).trans (decide_eq_true rfl)⟩
  · rw [decide_eq_false h, List.any_eq_false]
    intro x hx z
    have z' : PyData.eqv (pairD x) (pairD q) = true := z
    rw [eqv_pair] at z'
    exact h (of_decide_eq_true z' ▸ hx)
def ordB (ps : List (Str × Str)) (u v : Str) : Bool := decide ((u, v) ∈ ps)
/-- the law's own dict: the order, a list of pairs -/
def OwnO (K : PySem.W.Frag) (H : Hp) (dR : Addr) (ps : List (Str × Str)) : Prop := ∃ lo, H dR = some (.dK [(Sum.inr "order", .ref lo)]) ∧ Dp K H (.ref lo) (.list (ps.map pairD)) ∧ SeqAt.shaped (.list (ps.map pairD)) = true
theorem OwnO.same {K : PySem.W.Frag} {H H' : Hp} {dR : Addr} {ps : List (Str × Str)} (s : Same H H') (h : OwnO K H dR ps) : OwnO K H' dR ps := by
  obtain ⟨lo, h1, h2, h3⟩ := h
  exact ⟨lo, s _ _ h1, dp_same s h2, h3⟩
section
variable {P : Program} {w : World} {K : PySem.W.Frag} {mg : Str → Option Value} {base : Heap}
abbrev sBelow : Stmt := tp 42
theorem scBelow : FnScope ["room", "one", "other", "mine", "field", "kind"] ["room", "one", "other"] (defScope sBelow) := ⟨rfl, rfl, rfl, by decide +kernel, rfl, by decide +kernel, by decide +kernel⟩
def spBelow (K : PySem.W.Frag) (B : List Str) (ps : List (Str × Str)) (n : Nat) : Sp := fun vs H Q _ => ∃ dR v v' d d', vs = [.ref dR, v, v'] ∧
  n ≤ 20 ∧ OwnO K H dR ps ∧ KdH K H B n v d ∧ KdH K H B n v' d' ∧ ∀ H', Same H H' → Q (.bl (underD (ordB ps) n d d')) H'
theorem ok_below {B : List Str} {ps : List (Str × Str)} (hB : ∀ w ∈ B, w ∈ BAS) {n : Nat} {f : Addr} {fd : FuncData} (F : Fun K "_law_below" "_law_below" sBelow f fd) (mA : mg "all" = none) (mD : mg "dict" = none) (G : FnOk P w K mg base CX0 n f fd ["room", "one", "other"] (spBelow K B ps n)) (bG : Binds K fd ["room", "one", "other"] []) (mG : mg "_law_below" = some (.ref f)) :
    FnOk P w K mg base CX0 (n + 1) f fd ["room", "one", "other"] (spBelow K B ps (n + 1)) := by
  refine F.ok scBelow (fun vs H Q E h => ?_) (fun cdv A outer s H vs Q E hr h => ?_)
  · obtain ⟨dA, v, v', d, d', rfl, _⟩ := h
    rfl
  obtain ⟨dR, v, v', d, d', rfl, hn, hA, hd, hd', q⟩ := h
  refine ⟨_, pss_cons (ps_if (pt_cmpR (op_eqD hr.units) (pv 2) (pe_tup (pa_cons pe_str pa_nil)) (nomark _)) (pss_one (ps_ret pe_bl)) pss_nil)
    (pss_cons (ps_if (pt_cmpR (op_neD hr.units) (pe_ix ix_tup (pv 1) pe_int (fun _ _ => rfl)) (pe_ix ix_tup (pv 2) pe_int (fun _ _ => rfl)) (nomark _)) (pss_one (ps_ret pe_bl)) pss_nil)
    (pss_cons (ps_if (pt_cmpR (op_eqD hr.units) (pe_ix ix_tup (pv 1) pe_int (fun _ _ => rfl)) pe_str (nomark _)) (pss_one (ps_ret (pe_or (pe_cmpR (op_eqD hr.units) (pv 1) (pv 2) (nomark _))
        (pe_one (pe_cmpR (op_inD (hu65 hr)) (pe_tup (pa_cons (pe_ix ix_tup (pv 1) pe_int (fun _ _ => rfl)) (pa_cons (pe_ix ix_tup (pv 2) pe_int (fun _ _ => rfl)) pa_nil))) (pe_dget (hu_of hr) (pv 0) pe_str (fun _ _ => rfl)) (by rfl)))))) pss_nil)
    (pss_cons (ps_set (i := 3) scBelow.nd rfl (Or.inr rfl) (pe_callTy (call_dictT rfl) rfl mD (by decide +kernel) (pa_cons (pe_ix ix_tup (pv 1) pe_int (fun _ _ => rfl)) pa_nil)))
    (pss_one (ps_ret (pe_callB (cr_all rfl) rfl mA (by decide +kernel) (pa_cons (pe_lc (own := [("field", 4), ("kind", 5)]) (g := gTup K 2 (gCons (gName 4) (gCons (gName 5) gNil))) rfl scBelow.nd (pi_tup (pe_ix ix_tup (pv 2) pe_int (fun _ _ => rfl)))
      (blkOk_by (N := ["room", "one", "other", "mine", "field", "kind"]) (sc := defScope sBelow) (by decide +kernel)) (fun _ _ _ _ _ => pg_tup rfl (pgs_cons (pg_name (i := 4) scBelow.nd rfl (Or.inl rfl)) (pgs_cons (pg_name (i := 5) scBelow.nd rfl (Or.inl rfl)) pgs_nil)))
      (fun _ _ _ _ _ => pts_nil)
      (fun _ _ _ _ _ => pe_and (pe_cmp (pc_din (hu_of hr) (pv 4) (pv 3)) rfl) (pe_one (pe_call G hr rfl mG F.kp bG .nil pass0 (pa_cons (pv 0) (pa_cons (pe_dget (hu_of hr) (pv 3) (pv 4) (fun _ _ => rfl)) (pa_cons (pv 5) pa_nil)))))))
      pa_nil))))))), ?_⟩
  have dA' : SeqAt.shaped anyD = true := by decide +kernel
  have sb : SeqAt.shaped (.str "base") = true := by decide +kernel
  have sr : SeqAt.shaped (.str "record") = true := by decide +kernel
  refine ⟨_, rfl, (by show 1 ≤ sizeLine; decide), fun t ht => ?_⟩
  have s0 := Same.new ht (.tup [.str "any"])
  have ht' : SqT K (upd H t (.tup [.str "any"])) t [.str "any"] := SqT.of upd_same
  replace hA := hA.same s0
  replace hd := hd.same s0
  replace hd' := hd'.same s0
  have q : ∀ H', Same (upd H t (.tup [.str "any"])) H' → Q (.bl (underD (ordB ps) (n + 1) d d')) H' := fun H' s => q H' (s0.trans s)
  generalize upd H t (.tup [.str "any"]) = H1 at *
  have dp := hd.dp
  have dp' := hd'.dp
  have sd := bas_of hB hd.ok hn
  have sd' := bas_of hB hd'.ok hn
  rcases hd with ⟨u, a, hu, e, ev, hS⟩ | ⟨a, b, L, e, hs, ev, hS, hT, hL⟩ <;> rcases hd' with ⟨u', a', hu', e', ev', hS'⟩ | ⟨a', b', L', e', hs', ev', hS', hT', hL'⟩ <;> subst e ev e' ev'
  · refine ⟨baseD u', anyD, dp', .tup ht' (.cons (.str _) .nil), sd', dA', _, rfl, iteF ?_⟩
    refine ⟨_, rfl, a, _, 0, .str "base", rfl, rfl, hS, rfl, _, rfl, a', _, 0, .str "base", rfl, rfl, hS', rfl, .str "base", .str "base", .str _, .str _, sb, sb, _, rfl, iteF ?_⟩
    refine ⟨_, rfl, a, _, 0, .str "base", rfl, rfl, hS, rfl, .str "base", .str "base", .str _, .str _, sb, sb, _, rfl, iteT ?_⟩
    refine ⟨_, rfl, _, rfl, baseD u, baseD u', dp, dp', sd, sd', _, rfl, ite2 (fun c => ?_) (fun c => ?_)⟩
    · have z := q _ (Same.refl _)
      rw [under_base, ← eqv_base, c, Bool.true_or] at z
      exact z
    · obtain ⟨lo, h1, h2, h3⟩ := hA
      refine ⟨_, rfl, a, _, 1, .str u, rfl, rfl, hS, rfl, _, rfl, a', _, 1, .str u', rfl, rfl, hS', rfl, (by show 2 ≤ sizeLine; decide), fun p hp => ?_⟩
      have s := Same.new hp (.tup [.str u, .str u'])
      refine ⟨_, rfl, dR, .ref lo, rfl, DGet.k (k := Sum.inr "order") (s _ _ h1), pairD (u, u'), ps.map pairD, .tup (SqT.of upd_same) (.cons (.str _) (.cons (.str _) .nil)), dp_same s h2, ?_, h3, ?_⟩
      · have e1 := shaped_tup sd (.str u) (by simp [baseD])
        have e2 := shaped_tup sd' (.str u') (by simp [baseD])
        refine shaped_mk ?_ (by simp [pairD, PyData.depth, PyData.depthAll])
        simp only [pairD, PyData.canLay0, PyData.canLayAll0]
        have l1 := SeqAt.canLay_of_shaped e1
        have l2 := SeqAt.canLay_of_shaped e2
        simp only [PyData.canLay0] at l1 l2
        rw [l1, l2]
        rfl
      · have z := q _ s
        rw [under_base, ← eqv_base, Bool.eq_false_iff.mpr c, Bool.false_or] at z
        rw [any_pair]
        exact z
  · refine ⟨recD (L'.map Rw.pair), anyD, dp', .tup ht' (.cons (.str _) .nil), sd', dA', _, rfl, iteF ?_⟩
    refine ⟨_, rfl, a, _, 0, .str "base", rfl, rfl, hS, rfl, _, rfl, a', _, 0, .str "record", rfl, rfl, hS', rfl, .str "base", .str "record", .str _, .str _, sb, sr, _, rfl, iteT ?_⟩
    exact q _ (Same.refl _)
  · refine ⟨baseD u', anyD, dp', .tup ht' (.cons (.str _) .nil), sd', dA', _, rfl, iteF ?_⟩
    refine ⟨_, rfl, a, _, 0, .str "record", rfl, rfl, hS, rfl, _, rfl, a', _, 0, .str "base", rfl, rfl, hS', rfl, .str "record", .str "base", .str _, .str _, sr, sb, _, rfl, iteT ?_⟩
    exact q _ (Same.refl _)
  · refine ⟨recD (L'.map Rw.pair), anyD, dp', .tup ht' (.cons (.str _) .nil), sd', dA', _, rfl, iteF ?_⟩
    refine ⟨_, rfl, a, _, 0, .str "record", rfl, rfl, hS, rfl, _, rfl, a', _, 0, .str "record", rfl, rfl, hS', rfl, .str "record", .str "record", .str _, .str _, sr, sr, _, rfl, iteF ?_⟩
    refine ⟨_, rfl, a, _, 0, .str "record", rfl, rfl, hS, rfl, .str "record", .str "base", .str _, .str _, sr, sb, _, rfl, iteF ?_⟩
    refine ⟨_, rfl, a, _, 1, .ref b, rfl, rfl, hS, rfl, b, L.map (·.c), kvR L, rfl, by rw [List.map_map]; exact hT, ?_, fun p hp => ?_⟩
    · exact paired_rows fun r hr => (hL r hr).1
    have s1 := Same.new hp (.dK (mergeK [] (kvR L)))
    have hp' : upd H1 p (.dK (mergeK [] (kvR L))) p = some (.dK (kvR L)) := by rw [upd_same, merge_kvR hs]
    have h3 := len_fld hs'
    rw [List.length_map] at h3
    refine ⟨_, rfl, a', _, 1, .ref b', rfl, rfl, Same.tup s1 hS', rfl, b', rfl, ⟨_, (hT'.same s1).sq⟩, fun D hN => lcT ((L'.map fun r => match (L.map Rw.pair).lookup r.f with
      | some k' => underD (ordB ps) n k' r.k
      | none => false).map V.bl) (by rw [List.length_map, List.length_map, List.length_map]) (by rw [List.length_map]; omega) (hT'.same s1).sq hN (fun i y x H' Q' hx hy s k => ?_) fun H' s hL => ?_⟩
    · rw [List.getElem?_map] at hx hy
      rw [List.getElem?_map] at hy
      cases er : L'[i]? with
      | none => rw [er] at hx; cases hx
      | some r =>
        rw [er] at hx hy
        cases hx
        cases hy
        have hr2 : r ∈ L' := List.mem_of_getElem? er
        obtain ⟨hc, hk⟩ := hL' r hr2
        have s2 := s1.trans s
        have hp2 := s _ _ hp'
        refine ⟨r.c, _, rfl, Same.tup s2 hc, rfl, _, _, rfl, _, _, rfl, rfl, rfl, ?_⟩
        refine ⟨_, rfl, _, rfl, p, _, rfl, DGet.k (k := Sum.inr r.f) hp2, _, rfl, ?_⟩
        have k' : ∀ H4, Same H' H4 → Q' (.bl (match (L.map Rw.pair).lookup r.f with
          | some k' => underD (ordB ps) n k' r.k
          | none => false)) H4 := k
        rw [look_pair] at k'
        rw [val_kvR]
        cases el : lookR r.f L with
        | none =>
          rw [el] at k'
          exact iteF (k' H' (Same.refl H'))
        | some r0 =>
          rw [el] at k'
          obtain ⟨m0, f0⟩ := lookR_mem el
          refine iteT ⟨_, rfl, _, rfl, _, rfl, p, r0.u, rfl, ?_, _, rfl, dR, r0.u, r.u, r0.k, r.k, rfl, by omega, hA.same s2, ((hL r0 m0).2).same s2, hk.same s2, fun H4 s4 => k' H4 s4⟩
          have z := DGet.k (k := Sum.inr r.f) hp2
          rw [val_kvR, el] at z
          exact z
    · refine ⟨D, _, rfl, SqL.of hL, ?_⟩
      have z := q H' (s1.trans s)
      rw [under_rec, List.map_map] at z
      exact z
end
end K1

end
section
set_option Elab.async false
set_option linter.all false
set_option maxRecDepth 100000
set_option maxHeartbeats 4000000
namespace K1
open PySem PySem.Spec PyProof.Rows L2
/-! ### data of small size -/
mutual
def tinyD : PyData → Bool
  | .none | .bool _ | .int _ => true
  | .str x => decide (x.length ≤ 20)
  | .list xs | .tuple xs => decide (xs.length ≤ 20) && tinyAll xs
  | .dict _ => false
def tinyAll : List PyData → Bool
  | [] => true
  | x :: xs => tinyD x && tinyAll xs
end
theorem tinyAll_of : ∀ {ds : List PyData}, (∀ d ∈ ds, tinyD d = true) → tinyAll ds = true
  | [], _ => by simp only [tinyAll]
  | d :: ds, h => by simp only [tinyAll, h d List.mem_cons_self, tinyAll_of fun x hx => h x (List.mem_cons_of_mem _ hx), Bool.and_self]
theorem of_tinyAll : ∀ {ds : List PyData}, tinyAll ds = true → ∀ d ∈ ds, tinyD d = true
  | x :: ds, h, d, hd => by
    simp only [tinyAll, Bool.and_eq_true] at h
    rcases List.mem_cons.mp hd with e | e
    · rw [e]
      exact h.1
    · exact of_tinyAll h.2 d e
theorem tiny_tup {ds : List PyData} (h : tinyD (.tuple ds) = true) : ds.length ≤ 20 ∧ ∀ d ∈ ds, tinyD d = true := by
  simp only [tinyD, Bool.and_eq_true, decide_eq_true_eq] at h
  exact ⟨h.1, of_tinyAll h.2⟩
theorem tiny_str {x : Str} (h : tinyD (.str x) = true) : x.length ≤ 20 := by
  simp only [tinyD, decide_eq_true_eq] at h
  exact h
theorem tiny_ok : ∀ (n : Nat) (d : PyData), KdOk BAS n d → tinyD d = true
  | n + 1, _, .inl ⟨w, hw, e⟩ => by
    subst e
    have z : ∀ w ∈ BAS, tinyD (baseD w) = true := by decide +kernel
    exact z w hw
  | n + 1, _, .inr ⟨rows, e, hs, hr⟩ => by
    subst e
    have z : ∀ x ∈ FLD, tinyD (.str x) = true := by decide +kernel
    have h1 : tinyAll (rows.map rowD) = true := tinyAll_of fun d hd => by
      obtain ⟨p, hp, e⟩ := List.mem_map.mp hd
      subst e
      have q1 := z p.1 (hs.subset (List.mem_map.mpr ⟨p, hp, rfl⟩))
      have q2 := tiny_ok n p.2 (hr p hp)
      simp only [rowD, tinyD, tinyAll, Bool.and_eq_true, decide_eq_true_eq, List.length_cons, List.length_nil] at *
      exact ⟨by decide, q1, q2, trivial⟩
    have h3 := len_fld hs
    rw [List.length_map] at h3
    have h4 : (rows.map rowD).length ≤ 20 := by rw [List.length_map]; omega
    have h5 : tinyD (.str "record") = true := by decide +kernel
    simp only [recD, tinyD, tinyAll, Bool.and_eq_true, decide_eq_true_eq, List.length_cons, List.length_nil] at *
    exact ⟨by decide, h5, ⟨h4, h1⟩, trivial⟩
/-! ### of which class they are -/
def tyS : PyData → String
  | .none => "NoneType"
  | .bool _ => "bool"
  | .int _ => "int"
  | .str _ => "str"
  | .list _ => "list"
  | .tuple _ => "tuple"
  | .dict _ => "dict"
theorem dp_ty {K : PySem.W.Frag} {H : Hp} {v : V} {d : PyData} (h : Dp K H v d) : TyX K H v (.type (tyS d)) := by
  cases h with
  | non => exact .base .non
  | bl b => exact .base (.bl b)
  | int i => exact .base (.int i)
  | str x => exact .base (.str x)
  | lst hS _ =>
    rcases hS with (h | ⟨o, h⟩) | ⟨o, its, n, h, hc, _⟩
    · exact .base (.lst h)
    · exact .base (.frz h)
    · exact .kList h hc
  | tup hS _ =>
    rcases hS with (h | ⟨o, h⟩) | ⟨o, its, n, h, hc, _⟩
    · exact .base (.tup h)
    · exact .fTuple h
    · exact .kTuple h hc
def isStrD : PyData → Bool
  | .str _ => true
  | _ => false
def isTupD : PyData → Bool
  | .tuple _ => true
  | _ => false
theorem kit_str (d : PyData) : kitB (tyS d) "str" = some (isStrD d) := by
  cases d
  · exact (by decide +kernel : kitB "NoneType" "str" = some false)
  · exact (by decide +kernel : kitB "bool" "str" = some false)
  · exact (by decide +kernel : kitB "int" "str" = some false)
  · exact (by decide +kernel : kitB "str" "str" = some true)
  · exact (by decide +kernel : kitB "list" "str" = some false)
  · exact (by decide +kernel : kitB "tuple" "str" = some false)
  · exact (by decide +kernel : kitB "dict" "str" = some false)
theorem kit_tup (d : PyData) : kitB (tyS d) "tuple" = some (isTupD d) := by
  cases d
  · exact (by decide +kernel : kitB "NoneType" "tuple" = some false)
  · exact (by decide +kernel : kitB "bool" "tuple" = some false)
  · exact (by decide +kernel : kitB "int" "tuple" = some false)
  · exact (by decide +kernel : kitB "str" "tuple" = some false)
  · exact (by decide +kernel : kitB "list" "tuple" = some false)
  · exact (by decide +kernel : kitB "tuple" "tuple" = some true)
  · exact (by decide +kernel : kitB "dict" "tuple" = some false)
section
variable {P : Program} {w : World} {K : PySem.W.Frag} {mg : Str → Option Value} {base : Heap} {aA aN : Addr}
theorem pe_strT {X : Cx} {p : Pos} (hm : X.mg "str" = none) (hg : Gl X "str" := by rfl) : PE X (.Name "str" p) (tC (.ty "str")) := pe_bltn hg hm (by decide +kernel) rfl
theorem pe_tupT {X : Cx} {p : Pos} (hm : X.mg "tuple" = none) (hg : Gl X "tuple" := by rfl) : PE X (.Name "tuple" p) (tC (.ty "tuple")) := pe_bltn hg hm (by decide +kernel) rfl
/-- the numbers among the constants of kinds, and the built-in names -/
structure KN (mg : Str → Option Value) : Prop where
  gL : ∃ t, mg "LONGEST" = some (.int 10 t)
  gD : ∃ t, mg "DEEPEST" = some (.int 8 t)
  str : mg "str" = none
  tup : mg "tuple" = none
abbrev sWord : Stmt := tp 10
theorem scWord : FnScope ["thing", "letter"] ["thing"] (defScope sWord) := ⟨rfl, rfl, rfl, by decide +kernel, rfl, by decide +kernel, by decide +kernel⟩
def spWord (K : PySem.W.Frag) : Sp := fun vs H Q _ => ∃ v d, vs = [v] ∧ Dp K H v d ∧ tinyD d = true ∧ ∀ H', Same H H' → Q (.bl (isWordD d)) H'
theorem ok_word {f f1 : Addr} {fd fd1 : FuncData} (F : Fun K "is_word" "is_word" sWord f fd) (T : KC K mg aA aN) (N : KN mg)
    (G1 : FnOk P w K mg base CX0 1 f1 fd1 ["letter"] spSmall) (b1 : Binds K fd1 ["letter"] []) (k1 : PySem.W.keepIn K (.ref f1) = true) (m1 : mg "is_small" = some (.ref f1)) : FnOk P w K mg base CX0 2 f fd ["thing"] (spWord K) := by
  refine F.ok scWord (fun vs H Q E h => ?_) (fun cdv A outer s H vs Q E hr h => ?_)
  · obtain ⟨x, _, rfl, _⟩ := h
    rfl
  obtain ⟨v, d, rfl, hd, ht, q⟩ := h
  obtain ⟨tk, gL⟩ := N.gL
  refine ⟨_, pss_cons (ps_if (PW.pt (pw_or (pt_not (pt_val (pe_callB call_isi rfl T.isi (by decide +kernel) (pa_cons (pv 0) (pa_cons (pe_strT N.str) pa_nil)))))
      (pw_or1 (pt_not (pt_chain op_le op_le pe_int (pe_callB call_len_str rfl T.len PySem.boot_len (pa_cons (pv 0) pa_nil)) (pe_glob (v := .int 10) rfl gL ⟨_, rfl⟩)))))) (pss_one (ps_ret pe_bl)) pss_nil)
    (pss_one (ps_ret (pe_and (pe_cmpR op_notIn_seq (pv 0) (pgl T.gN) (by rfl)) (pe_one (pe_callB (cr_all rfl) rfl T.all (by decide +kernel) (pa_cons (pe_lc (own := [("letter", 1)]) (g := gName 1) rfl scWord.nd (pi_str (pv 0))
      (blkOk_by (N := ["thing", "letter"]) (sc := defScope sWord) (by decide +kernel)) (fun _ _ _ _ _ => pg_name (i := 1) scWord.nd rfl (Or.inl rfl))
      (fun _ _ _ _ _ => pts_nil) (fun _ _ _ _ _ => pe_call G1 hr rfl m1 k1 b1 .nil pass0 (pa_cons (pv 1) pa_nil))) pa_nil)))))), ?_⟩
  refine ⟨_, rfl, v, .ty "str", .type (tyS d), .type "str", isStrD d, rfl, .ty _, dp_ty hd, kit_ty (kit_str d), _, rfl, ?_⟩
  have hx : ∀ x : Str, d = .str x → d = .str x ∧ v = .str x := fun x e => ⟨e, by subst e; exact dp_str hd⟩
  cases d with
  | str x =>
    obtain ⟨_, rfl⟩ := hx x rfl
    have hl := tiny_str ht
    refine iteF ?_
    refine ⟨_, rfl, _, rfl, small_le (by omega), _, _, rfl, rfl, _, rfl, ite2 (fun c => ?_) (fun c => ?_)⟩
    · refine ⟨_, _, rfl, rfl, _, rfl, ?_⟩
      have c1 : 1 ≤ (x.length : Int) := of_decide_eq_true c
      cases c2 : decide ((x.length : Int) ≤ 10) with
      | false =>
        have c2' : ¬ x.length ≤ 10 := by
          have := of_decide_eq_false c2
          omega
        refine iteT ?_
        have e : isWordD (.str x) = false := by
          show wordB x = false
          unfold wordB
          rw [decide_eq_false c2', Bool.and_false, Bool.false_and, Bool.false_and]
        rw [← e]
        exact q H (Same.refl H)
      | true =>
        have c2' : x.length ≤ 10 := by
          have := of_decide_eq_true c2
          omega
        have c1' : 1 ≤ x.length := by omega
        refine iteF ?_
        have e : isWordD (.str x) = (!noWord x && ((signs x).map smallS).all id) := by
          show wordB x = _
          unfold wordB
          rw [decide_eq_true c1', decide_eq_true c2', Bool.true_and, Bool.true_and]
        refine ⟨_, rfl, _, _, rfl, .inr (T.tN _), rfl, rfl, !noWord x, rfl, ite2 (fun z => ?_) (fun z => ?_)⟩
        · refine ⟨_, rfl, x, rfl, fun D hN => lcS (((signs x).map smallS).map V.bl) (by simp [signs, Str.length]) (by omega) hN (fun i y cc H' Q' hc hy s k => ?_) fun H' s hL => ?_⟩
          · rw [List.getElem?_map, List.getElem?_map] at hy
            unfold signs at hy
            rw [List.getElem?_map, hc] at hy
            cases hy
            exact ⟨rfl, _, rfl, _, rfl, k H' (Same.refl H')⟩
          · refine ⟨D, _, rfl, SqL.of hL, ?_⟩
            have zz := q H' s
            rw [e, z, Bool.true_and] at zz
            exact zz
        · have zz := q H (Same.refl H)
          rw [e, Bool.eq_false_iff.mpr z, Bool.false_and] at zz
          exact zz
    · refine ⟨_, rfl, iteT ?_⟩
      have c1 : ¬ (1 : Int) ≤ (x.length : Int) := of_decide_eq_false (Bool.eq_false_iff.mpr c)
      have c1' : ¬ 1 ≤ x.length := by omega
      have e : isWordD (.str x) = false := by
        show wordB x = false
        unfold wordB
        rw [decide_eq_false c1', Bool.false_and, Bool.false_and, Bool.false_and]
      rw [← e]
      exact q H (Same.refl H)
  | none => exact iteT (q H (Same.refl H))
  | bool b => exact iteT (q H (Same.refl H))
  | int i => exact iteT (q H (Same.refl H))
  | list l => exact iteT (q H (Same.refl H))
  | tuple l => exact iteT (q H (Same.refl H))
  | dict l => exact iteT (q H (Same.refl H))
end
end K1

end
section
set_option Elab.async false
set_option linter.all false
set_option maxRecDepth 100000
set_option maxHeartbeats 4000000
namespace K1
open PySem PySem.Spec PyProof.Rows L2
section
variable {P : Program} {w : World} {K : PySem.W.Frag} {mg : Str → Option Value} {base : Heap} {aA aN : Addr}
/-- data that may be asked -/
def Fine (d : PyData) : Prop := tinyD d = true ∧ SeqAt.shaped d = true
theorem Fine.tup {ds : List PyData} (h : Fine (.tuple ds)) : ds.length ≤ 20 ∧ ∀ d ∈ ds, Fine d := ⟨(tiny_tup h.1).1, fun d hd => ⟨(tiny_tup h.1).2 d hd, shaped_tup h.2 d hd⟩⟩
abbrev sRow : Stmt := tp 16
theorem scRow : FnScope ["thing", "deepest"] ["thing", "deepest"] (defScope sRow) := ⟨rfl, rfl, rfl, by decide +kernel, rfl, by decide +kernel, by decide +kernel⟩
def spRow (K : PySem.W.Frag) (N : Nat) : Sp := fun vs H Q _ => ∃ v d n, n < N ∧ vs = [v, .int (n : Nat)] ∧ Dp K H v d ∧ Fine d ∧ ∀ H', Same H H' → Q (.bl (isRowW (isNest n) d)) H'
def spNest (K : PySem.W.Frag) (N : Nat) : Sp := fun vs H Q _ => ∃ v d n, n < N ∧ vs = [v, .int (n : Nat)] ∧ Dp K H v d ∧ Fine d ∧ ∀ H', Same H H' → Q (.bl (isNest n d)) H'
theorem ok_row {M k : Nat} {f f1 f2 : Addr} {fd fd1 fd2 : FuncData} (F : Fun K "is_row" "is_row" sRow f fd) (T : KC K mg aA aN) (N : KN mg) (hk : 2 ≤ k)
    (G1 : FnOk P w K mg base CX0 2 f1 fd1 ["thing"] (spWord K)) (b1 : Binds K fd1 ["thing"] []) (k1 : PySem.W.keepIn K (.ref f1) = true) (m1 : mg "is_word" = some (.ref f1))
    (G2 : FnOk P w K mg base CX0 k f2 fd2 ["thing", "deepest"] (spNest K M)) (b2 : Binds K fd2 ["thing", "deepest"] []) (k2 : PySem.W.keepIn K (.ref f2) = true) (m2 : mg "is_nested_type" = some (.ref f2)) :
    FnOk P w K mg base CX0 (k + 1) f fd ["thing", "deepest"] (spRow K M) := by
  refine F.ok scRow (fun vs H Q E h => ?_) (fun cdv A outer s H vs Q E hr h => ?_)
  · obtain ⟨x, _, _, _, rfl, _⟩ := h
    rfl
  obtain ⟨v, d, n, hn, rfl, hd, hf, q⟩ := h
  refine ⟨_, pss_cons (ps_if (PW.pt (pw_or (pt_not (pt_val (pe_callB call_isi rfl T.isi (by decide +kernel) (pa_cons (pv 0) (pa_cons (pe_tupT N.tup) pa_nil)))))
      (pw_or1 (pt_cmpR op_ne (pe_callB call_len_seq rfl T.len PySem.boot_len (pa_cons (pv 0) pa_nil)) pe_int (nomark _))))) (pss_one (ps_ret pe_bl)) pss_nil)
    (pss_one (ps_ret (pe_and (pe_call G1 (hr.mono hk) rfl m1 k1 b1 .nil pass0 (pa_cons (pe_ix ix_tup (pv 0) pe_int (fun _ _ => rfl)) pa_nil)) (pe_one (pe_call G2 hr rfl m2 k2 b2 .nil pass0 (pa_cons (pe_ix ix_tup (pv 0) pe_int (fun _ _ => rfl)) (pa_cons (pv 1) pa_nil))))))), ?_⟩
  refine ⟨_, rfl, v, .ty "tuple", .type (tyS d), .type "tuple", isTupD d, rfl, .ty _, dp_ty hd, kit_ty (kit_tup d), _, rfl, ?_⟩
  cases d with
  | tuple ds =>
    obtain ⟨a, xs, rfl, hS, hD⟩ := dp_tup hd
    have hlen := dpAll_len hD
    refine iteF ?_
    refine ⟨_, rfl, a, _, rfl, .inr hS, rfl, _, rfl, ?_⟩
    match ds, xs, hD, hlen with
    | [d1, d2], xs, hD, hlen =>
      obtain ⟨u1, u2, rfl, h1, h2⟩ := dpAll_two hD
      refine iteF ?_
      have hf1 := hf.tup.2 d1 (by simp)
      have hf2 := hf.tup.2 d2 (by simp)
      refine ⟨_, rfl, a, _, 0, u1, rfl, rfl, hS, rfl, u1, d1, rfl, h1, hf1.1, fun H' s => ⟨_, rfl, ?_⟩⟩
      refine ite2 (fun c => ?_) (fun c => ?_)
      · refine ⟨_, rfl, a, _, 1, u2, rfl, rfl, Same.tup s hS, rfl, _, rfl, u2, d2, n, hn, rfl, dp_same s h2, hf2, fun H2 s2 => ?_⟩
        have z := q H2 (s.trans s2)
        have e : isRowW (isNest n) (.tuple [d1, d2]) = (isWordD d1 && isNest n d2) := rfl
        rw [e, c, Bool.true_and] at z
        exact z
      · have z := q H' s
        have e : isRowW (isNest n) (.tuple [d1, d2]) = (isWordD d1 && isNest n d2) := rfl
        rw [e, Bool.eq_false_iff.mpr c, Bool.false_and] at z
        exact z
    | [], [], _, _ => exact iteT (q H (Same.refl H))
    | [d1], [x1], _, _ => exact iteT (q H (Same.refl H))
    | d1 :: d2 :: d3 :: ds, xs, _, hlen =>
      have hl : decide (V.int (xs.length : Nat) = V.int 2) = false := decide_eq_false fun z => by
        have z' : ((xs.length : Nat) : Int) = 2 := V.int.inj z
        rw [hlen] at z'
        simp at z'
        omega
      have e : isRowW (isNest n) (.tuple (d1 :: d2 :: d3 :: ds)) = false := rfl
      rw [hl]
      refine iteT ?_
      rw [← e]
      exact q H (Same.refl H)
  | none => exact iteT (q H (Same.refl H))
  | bool b => exact iteT (q H (Same.refl H))
  | int i => exact iteT (q H (Same.refl H))
  | list l => exact iteT (q H (Same.refl H))
  | str l => exact iteT (q H (Same.refl H))
  | dict l => exact iteT (q H (Same.refl H))
theorem none_leftk {k : Nat} {f : Addr} {fd : FuncData} {ps : List Str} {sp : Sp} (no : ∀ vs H Q E, ¬ sp vs H Q E) : FnOk P w K mg base CX0 k f fd ps sp :=
  ⟨fun vs H Q E h => absurd h (no vs H Q E), fun A outer s H args us vs Q E _ _ _ _ h => absurd h (no vs H Q E)⟩
def recPart (g : PyData → Bool) : PyData → Bool
  | .tuple rows => (rows.map (isRowW g)).all id && ascD rows
  | _ => false
theorem nest_two (n : Nat) (a b : PyData) : isNest (n + 1) (.tuple [a, b]) = if PyData.eqv a (.str "base") = true then isWordD b else if PyData.eqv a (.str "record") = true then recPart (isNest n) b else false := by
  cases b <;> rfl
theorem cut_tail (xs : List V) : cutV xs (some 1) none = xs.tail := by
  unfold cutV
  have e : HT.sIx xs.length 0 (some 1) = min 1 xs.length := HT.sIx_nat _ _ 1
  rw [e]
  show (xs.drop (min 1 xs.length)).take (xs.length - min 1 xs.length) = xs.tail
  cases xs with
  | nil => rfl
  | cons x r =>
    have e2 : min 1 (x :: r).length = 1 := by
      rw [List.length_cons]
      omega
    rw [e2]
    show r.take (r.length + 1 - 1) = r
    rw [Nat.add_sub_cancel, List.take_length]
theorem lcZ {K : PySem.W.Frag} {a b : Addr} {xs ys : List V} {g : TG} {te : TE} {vs : List Nat} {σ : L2.St} {H1 : Hp} {D : Addr} {Qd : Hp → Prop} (bs : List V) (hl : bs.length = ys.length) (hly : ys.length ≤ xs.length) (hz : xs.length ≤ 1000) (hA : SqT K H1 a xs) (hB : SqT K H1 b ys) (hD : H1 D = none)
    (turn : ∀ (i : Nat) (y x1 x2 : V) (T : Addr) (H' : Hp) (Q : VK), xs[i]? = some x1 → ys[i]? = some x2 → bs[i]? = some y → Same H1 H' → H' T = some (.tup [x1, x2]) → (∀ H4, Same H' H4 → Q y H4) → g (.ref T) (wipe σ vs) H' fun σ2 H2 => wipe σ2 vs = wipe σ vs ∧ te σ2 H2 Q)
    (hd : ∀ H', Same H1 H' → H' D = some (.lst bs) → Qd H') :
    ∃ W : Nat → Nat → Hp → Prop, (∃ m, W 0 m (upd H1 D (.lst []))) ∧ ∀ i m H, W i m H →
      ((RZ.ItzT K a b).stop i H ∧ Qd H) ∨ ((RZ.ItzT K a b).go i H ∧ ∃ Nx : Hp → Prop, (∀ H', Nx H' → ∃ m', m' < m ∧ W (i + 1) m' H') ∧ ∀ x H', (RZ.ItzT K a b).yld i H x H' → g x (wipe σ vs) H' fun σ2 H2 => wipe σ2 vs = wipe σ vs ∧ tYes σ2 H2 fun b H3 =>
        if b = true then te σ2 H3 fun y H4 => ∃ acc, H4 D = some (.lst acc) ∧ acc.length < sizeLine ∧ Nx (upd H4 D (.lst (acc ++ [y]))) else Nx H3) :=
  lc_go ys.length (fun i x H'' => ∃ (T : Addr) (x1 x2 : V), x = .ref T ∧ xs[i]? = some x1 ∧ ys[i]? = some x2 ∧ H'' T = some (.tup [x1, x2])) bs hl (by omega) hD
    (fun i H' hi s => ⟨xs, ys, xs[i], ys[i], Same.tup s hA, Same.tup s hB, List.getElem?_eq_getElem (by omega), List.getElem?_eq_getElem hi⟩)
    (fun i x H' H'' hi s q => by
      obtain ⟨T, x1, x2, e, hT, e2, h1, h2⟩ := q
      rw [e2]
      exact ⟨Same.new hT _, T, x1, x2, e, h1 xs (Same.tup s hA), h2 ys (Same.tup s hB), upd_same⟩)
    (fun H' s => ⟨xs, ys, Same.tup s hA, Same.tup s hB, .inr (Nat.le_refl _)⟩)
    (fun i y x H' Q hy s hx k => by
      obtain ⟨T, x1, x2, e, h1, h2, hT⟩ := hx
      subst e
      exact turn i y x1 x2 T H' Q h1 h2 hy s hT k) hd
theorem tail_get {α : Type} (xs : List α) (i : Nat) : xs.tail[i]? = xs[i + 1]? := by
  cases xs with
  | nil => rfl
  | cons x r => rfl
abbrev sNest : Stmt := tp 15
theorem scNest : FnScope ["thing", "deepest", "rows", "row", "one", "other"] ["thing", "deepest"] (defScope sNest) := ⟨rfl, rfl, rfl, by decide +kernel, rfl, by decide +kernel, by decide +kernel⟩
theorem head_row {K : PySem.W.Frag} {H : Hp} {v : V} {d : PyData} {g : PyData → Bool} (h : Dp K H v d) (hr : isRowW g d = true) : ∃ a u, v = .ref a ∧ SqT K H a [.str (headS d), u] := by
  unfold isRowW at hr
  split at hr
  · rename_i wd k
    obtain ⟨a, u1, u2, rfl, hS, h1, h2⟩ := dp_two h
    rw [Bool.and_eq_true] at hr
    cases wd with
    | str x =>
      have e := dp_str h1
      subst e
      exact ⟨a, u2, rfl, hS⟩
    | none => cases hr.1
    | bool => cases hr.1
    | int => cases hr.1
    | list => cases hr.1
    | tuple => cases hr.1
    | dict => cases hr.1
  · cases hr
theorem all_get {xs : List PyData} {g : PyData → Bool} (h : (xs.map g).all id = true) {i : Nat} {d : PyData} (hd : xs[i]? = some d) : g d = true := all_id_map.mp h d (List.mem_of_getElem? hd)
theorem ok_nest {M k : Nat} {f f1 f2 : Addr} {fd fd1 fd2 : FuncData} (F : Fun K "is_nested_type" "is_nested_type" sNest f fd) (T : KC K mg aA aN) (N : KN mg) (hk : 2 ≤ k)
    (G1 : FnOk P w K mg base CX0 2 f1 fd1 ["thing"] (spWord K)) (b1 : Binds K fd1 ["thing"] []) (k1 : PySem.W.keepIn K (.ref f1) = true) (m1 : mg "is_word" = some (.ref f1))
    (G2 : FnOk P w K mg base CX0 k f2 fd2 ["thing", "deepest"] (spRow K M)) (b2 : Binds K fd2 ["thing", "deepest"] []) (k2 : PySem.W.keepIn K (.ref f2) = true) (m2 : mg "is_row" = some (.ref f2)) :
    FnOk P w K mg base CX0 (k + 1) f fd ["thing", "deepest"] (spNest K (M + 1)) := by
  refine F.ok scNest (fun vs H Q E h => ?_) (fun cdv A outer s H vs Q E hr h => ?_)
  · obtain ⟨x, _, _, _, rfl, _⟩ := h
    rfl
  obtain ⟨v, d, n, hn, rfl, hd, hf, q⟩ := h
  refine ⟨_, pss_cons (ps_if (PW.pt (pw_or (pt_cmpR op_eq (pv 1) pe_int (nomark _)) (pw_or (pt_not (pt_val (pe_callB call_isi rfl T.isi (by decide +kernel) (pa_cons (pv 0) (pa_cons (pe_tupT N.tup) pa_nil)))))
      (pw_or1 (pt_cmpR op_ne (pe_callB call_len_seq rfl T.len PySem.boot_len (pa_cons (pv 0) pa_nil)) pe_int (nomark _)))))) (pss_one (ps_ret pe_bl)) pss_nil)
    (pss_cons (ps_if (pt_cmpR (op_eqD hr.units) (pe_ix ix_tup (pv 0) pe_int (fun _ _ => rfl)) pe_str (nomark _)) (pss_one (ps_ret (pe_call G1 (hr.mono hk) rfl m1 k1 b1 .nil pass0 (pa_cons (pe_ix ix_tup (pv 0) pe_int (fun _ _ => rfl)) pa_nil)))) pss_nil)
    (pss_cons (ps_if (PW.pt (pw_or (pt_cmpR (op_neD hr.units) (pe_ix ix_tup (pv 0) pe_int (fun _ _ => rfl)) pe_str (nomark _)) (pw_or1 (pt_not (pt_val (pe_callB call_isi rfl T.isi (by decide +kernel) (pa_cons (pe_ix ix_tup (pv 0) pe_int (fun _ _ => rfl)) (pa_cons (pe_tupT N.tup) pa_nil))))))))
      (pss_one (ps_ret pe_bl)) pss_nil)
    (pss_cons (ps_set (i := 2) scNest.nd rfl (Or.inl rfl) (pe_ix ix_tup (pv 0) pe_int (fun _ _ => rfl)))
    (pss_cons (ps_if (pt_not (pt_val (pe_callB (cr_all rfl) rfl T.all (by decide +kernel) (pa_cons (pe_lc (own := [("row", 3)]) (g := gName 3) rfl scNest.nd (pi_tup (pv 2))
      (blkOk_by (N := ["thing", "deepest", "rows", "row", "one", "other"]) (sc := defScope sNest) (by decide +kernel)) (fun _ _ _ _ _ => pg_name (i := 3) scNest.nd rfl (Or.inl rfl))
      (fun _ _ _ _ _ => pts_nil) (fun _ _ _ _ _ => pe_call G2 hr rfl m2 k2 b2 .nil pass0 (pa_cons (pv 3) (pa_cons (pe_op op_sub (pv 1) pe_int) pa_nil)))) pa_nil)))) (pss_one (ps_ret pe_bl)) pss_nil)
    (pss_one (ps_ret (pe_callB (cr_all rfl) rfl T.all (by decide +kernel) (pa_cons (pe_lc (own := [("one", 4), ("other", 5)]) (g := gTup K 2 (gCons (gName 4) (gCons (gName 5) gNil))) rfl scNest.nd
      (RZ.pi_zipA rfl T.zip (pa_cons (pv 2) (pa_cons (pe_slice sl_tupA (pv 2) (po_some pe_int) po_none) pa_nil)))
      (blkOk_by (N := ["thing", "deepest", "rows", "row", "one", "other"]) (sc := defScope sNest) (by decide +kernel)) (fun _ _ _ _ _ => pg_tup rfl (pgs_cons (pg_name (i := 4) scNest.nd rfl (Or.inl rfl)) (pgs_cons (pg_name (i := 5) scNest.nd rfl (Or.inl rfl)) pgs_nil)))
      (fun _ _ _ _ _ => pts_nil) (fun _ _ _ _ _ => pe_cmpR op_lt_str (pe_ix (r := rIxT K) ix_tup (pv 4) pe_int (fun _ _ => rfl)) (pe_ix (r := rIxT K) ix_tup (pv 5) pe_int (fun _ _ => rfl)) (nomark _))) pa_nil)))))))), ?_⟩
  have sb : SeqAt.shaped (.str "base") = true := by decide +kernel
  have sr : SeqAt.shaped (.str "record") = true := by decide +kernel
  cases n with
  | zero =>
    refine ⟨_, rfl, rfl, _, rfl, iteT ?_⟩
    exact q H (Same.refl H)
  | succ n =>
    refine ⟨_, rfl, rfl, _, rfl, ?_⟩
    have ne0 : decide (V.int ((n + 1 : Nat) : Int) = V.int 0) = false := decide_eq_false fun z => by
      have z' := V.int.inj z
      omega
    rw [ne0]
    refine iteF ⟨_, rfl, v, .ty "tuple", .type (tyS d), .type "tuple", isTupD d, rfl, .ty _, dp_ty hd, kit_ty (kit_tup d), _, rfl, ?_⟩
    cases d with
    | tuple ds =>
      obtain ⟨a, xs, rfl, hS, hD⟩ := dp_tup hd
      have hlen := dpAll_len hD
      refine iteF ?_
      refine ⟨_, rfl, a, _, rfl, .inr hS, rfl, _, rfl, ?_⟩
      match ds, xs, hD, hlen with
      | [d1, d2], xs, hD, hlen =>
        obtain ⟨u1, u2, rfl, h1, h2⟩ := dpAll_two hD
        refine iteF ?_
        have hf1 := hf.tup.2 d1 (by simp)
        have hf2 := hf.tup.2 d2 (by simp)
        refine ⟨_, rfl, a, _, 0, u1, rfl, rfl, hS, rfl, d1, .str "base", h1, .str _, hf1.2, sb, _, rfl, ite2 (fun c => ?_) (fun c => ?_)⟩
        · refine ⟨_, rfl, a, _, 1, u2, rfl, rfl, hS, rfl, u2, d2, rfl, h2, hf2.1, fun H2 s2 => ?_⟩
          have z := q H2 s2
          have e : isNest (n + 1) (.tuple [d1, d2]) = isWordD d2 := (nest_two n d1 d2).trans (if_pos c)
          rw [e] at z
          exact z
        have e0 : isNest (n + 1) (.tuple [d1, d2]) = if PyData.eqv d1 (.str "record") = true then recPart (isNest n) d2 else false := (nest_two n d1 d2).trans (if_neg c)
        refine ⟨_, rfl, a, _, 0, u1, rfl, rfl, hS, rfl, d1, .str "record", h1, .str _, hf1.2, sr, _, rfl, ?_⟩
        cases c2 : PyData.eqv d1 (.str "record") with
        | false =>
          rw [c2, if_neg Bool.false_ne_true] at e0
          rw [e0] at q
          exact iteT (iteT (q H (Same.refl H)))
        | true =>
          rw [c2, if_pos rfl] at e0
          refine iteF ⟨_, rfl, a, _, 1, u2, rfl, rfl, hS, rfl, u2, .ty "tuple", .type (tyS d2), .type "tuple", isTupD d2, rfl, .ty _, dp_ty h2, kit_ty (kit_tup d2), _, rfl, ?_⟩
          cases d2 with
          | tuple rows =>
            obtain ⟨b, ys, rfl, hB, hR⟩ := dp_tup h2
            have e1 : isNest (n + 1) (.tuple [d1, .tuple rows]) = ((rows.map (isRowW (isNest n))).all id && ascD rows) := e0
            have hfr := hf2.tup
            have hlr := dpAll_len hR
            refine iteF ?_
            refine ⟨_, rfl, a, _, 1, .ref b, rfl, rfl, hS, rfl, ?_⟩
            refine ⟨_, rfl, b, rfl, ⟨ys, hB⟩, fun D hN => lcT ((rows.map (isRowW (isNest n))).map V.bl) (by rw [List.length_map, List.length_map, hlr]) (by omega) hB hN (fun i y x H' Q' hx hy s k => ?_) fun H' s hL => ?_⟩
            · obtain ⟨dr, hdr, hdx⟩ := dpAll_get hR hx
              rw [List.getElem?_map, List.getElem?_map, hdr] at hy
              cases hy
              refine ⟨rfl, _, rfl, _, rfl, _, _, rfl, rfl, x, dr, n, by omega, ?_, dp_same s hdx, hfr.2 dr (List.mem_of_getElem? hdr), fun H4 s4 => k H4 s4⟩
              have e9 : ((n + 1 : Nat) : Int) - 1 = (n : Int) := by omega
              show [x, V.int (((n + 1 : Nat) : Int) - 1)] = _
              rw [e9]
            · refine ⟨D, _, rfl, SqL.of hL, _, rfl, ?_⟩
              rw [e1] at q
              cases c3 : (rows.map (isRowW (isNest n))).all id with
              | false =>
                rw [c3, Bool.false_and] at q
                exact iteT (q H' s)
              | true =>
                rw [c3, Bool.true_and] at q
                refine iteF ?_
                have hB' := Same.tup s hB
                have hR' := dpAll_same s hR
                have hB' := Same.tup s hB
                have hR' := dpAll_same s hR
                have htl : ys.tail.length = rows.tail.length := by rw [List.length_tail, List.length_tail, hlr]
                have hle : rows.tail.length ≤ rows.length := by rw [List.length_tail]; omega
                have key : ∀ (t : Addr) (H2 : Hp), Same H' H2 → SqT K H2 t ys.tail → ∀ D2, H2 D2 = none → ∃ W : Nat → Nat → Hp → Prop, (∃ m, W 0 m (upd H2 D2 (.lst []))) ∧ ∀ i m Hq, W i m Hq →
                    ((RZ.ItzT K b t).stop i Hq ∧ ∃ (a : Addr) (bs : List Bool), [V.ref D2] = [V.ref a] ∧ SqL K Hq a (bs.map V.bl) ∧ Q (.bl (bs.all id)) Hq) ∨ ((RZ.ItzT K b t).go i Hq ∧ ∃ Nx : Hp → Prop, (∀ H', Nx H' → ∃ m', m' < m ∧ W (i + 1) m' H') ∧ ∀ x H', (RZ.ItzT K b t).yld i Hq x H' →
                      (gTup K 2 (gCons (gName 4) (gCons (gName 5) gNil))) x (wipe (((L2.start ["thing", "deepest", "rows", "row", "one", "other"] [V.ref a, V.int ((n + 1 : Nat) : Int)]).set 2 (some (V.ref b)))) [4, 5]) H' fun σ2 H2 => wipe σ2 [4, 5] = wipe (((L2.start ["thing", "deepest", "rows", "row", "one", "other"] [V.ref a, V.int ((n + 1 : Nat) : Int)]).set 2 (some (V.ref b)))) [4, 5] ∧ tYes σ2 H2 fun b H3 =>
                        if b = true then (tOp (fun x y H Q => ∃ i j, x = .str i ∧ y = .str j ∧ Q (.bl (decide (i.cps.toList < j.cps.toList))) H) (tOp (rIxT K) (tVar 4) (tC (.int 0))) (tOp (rIxT K) (tVar 5) (tC (.int 0)))) σ2 H3 fun y H4 => ∃ acc, H4 D2 = some (.lst acc) ∧ acc.length < sizeLine ∧ Nx (upd H4 D2 (.lst (acc ++ [y]))) else Nx H3) := by
                  intro t H2 s2 hT D2 hN2
                  have hB2 := Same.tup s2 hB'
                  have hR2 := dpAll_same s2 hR'
                  refine lcZ (((rows.zip rows.tail).map fun p => ltS (headS p.1) (headS p.2)).map V.bl) (by rw [List.length_map, List.length_map, List.length_zip, htl]; omega) (by omega) (by omega) hB2 hT hN2 (fun i y x1 x2 T3 H3 Q3 hx1 hx2 hy s3 hT3 k3 => ?_) fun H3 s3 hL3 => ?_
                  · obtain ⟨r1, hr1, hd1⟩ := dpAll_get hR2 hx1
                    rw [tail_get] at hx2
                    obtain ⟨r2, hr2, hd2⟩ := dpAll_get hR2 hx2
                    obtain ⟨c1, w1, rfl, hc1⟩ := head_row (dp_same s3 hd1) (all_get c3 hr1)
                    obtain ⟨c2, w2, rfl, hc2⟩ := head_row (dp_same s3 hd2) (all_get c3 hr2)
                    rw [List.getElem?_map, List.getElem?_map, List.getElem?_zip_eq_some (z := (r1, r2)).mpr ⟨hr1, (tail_get rows i).trans hr2⟩] at hy
                    cases hy
                    refine ⟨T3, _, rfl, SqT.of hT3, rfl, _, _, rfl, _, _, rfl, rfl, rfl, ?_⟩
                    refine ⟨_, rfl, c1, _, 0, _, rfl, rfl, hc1, rfl, _, rfl, c2, _, 0, _, rfl, rfl, hc2, rfl, _, _, rfl, rfl, ?_⟩
                    exact k3 H3 (Same.refl H3)
                  · exact ⟨D2, _, rfl, SqL.of hL3, q H3 ((s.trans s2).trans s3)⟩
                refine ⟨_, rfl, _, rfl, _, rfl, b, ys, rfl, hB', fun hw => ?_, fun hw t ht => ?_⟩
                · have et : ys.tail = ys := by
                    have e7 : HT.sIx ys.length 0 (some 1) = min 1 ys.length := HT.sIx_nat _ _ 1
                    rw [e7] at hw
                    cases ys with
                    | nil => rfl
                    | cons y r =>
                      have := hw.1
                      simp at this
                  exact ⟨b, b, ys, ys, rfl, .inr ⟨hB', hB', key b H' (Same.refl H') (by rw [et]; exact hB')⟩⟩
                · have s2 := Same.new ht (.tup (cutV ys (some 1) none))
                  exact ⟨b, t, ys, ys.tail, rfl, .inr ⟨Same.tup s2 hB', SqT.of (by rw [upd_same, cut_tail]), key t _ s2 (SqT.of (by rw [upd_same, cut_tail]))⟩⟩
          | none => rw [e0] at q; exact iteT (q H (Same.refl H))
          | bool b => rw [e0] at q; exact iteT (q H (Same.refl H))
          | int i => rw [e0] at q; exact iteT (q H (Same.refl H))
          | list l => rw [e0] at q; exact iteT (q H (Same.refl H))
          | str l => rw [e0] at q; exact iteT (q H (Same.refl H))
          | dict l => rw [e0] at q; exact iteT (q H (Same.refl H))
      | [], [], _, _ => exact iteT (q H (Same.refl H))
      | [d1], [x1], _, _ => exact iteT (q H (Same.refl H))
      | d1 :: d2 :: d3 :: ds, xs, _, hlen =>
        have hl : decide (V.int (xs.length : Nat) = V.int 2) = false := decide_eq_false fun z => by
          have z' : ((xs.length : Nat) : Int) = 2 := V.int.inj z
          rw [hlen] at z'
          simp at z'
          omega
        have e : isNest (n + 1) (.tuple (d1 :: d2 :: d3 :: ds)) = false := rfl
        rw [hl]
        refine iteT ?_
        rw [e] at q
        exact q H (Same.refl H)
    | none => exact iteT (q H (Same.refl H))
    | bool b => exact iteT (q H (Same.refl H))
    | int i => exact iteT (q H (Same.refl H))
    | list l => exact iteT (q H (Same.refl H))
    | str l => exact iteT (q H (Same.refl H))
    | dict l => exact iteT (q H (Same.refl H))
end
end K1

end
section
set_option Elab.async false
set_option linter.all false
set_option maxRecDepth 100000
set_option maxHeartbeats 4000000
namespace K1
open PySem PySem.Spec PyProof.Rows L2
section
variable {P : Program} {w : World} {K : PySem.W.Frag} {mg : Str → Option Value} {base : Heap} {aA aN : Addr}
abbrev sType : Stmt := tp 13
theorem scType : FnScope ["thing"] ["thing"] (defScope sType) := ⟨rfl, rfl, rfl, by decide +kernel, rfl, by decide +kernel, by decide +kernel⟩
def spType (K : PySem.W.Frag) : Sp := fun vs H Q _ => ∃ v d, vs = [v] ∧ Dp K H v d ∧ Fine d ∧ ∀ H', Same H H' → Q (.bl (isNest 8 d)) H'
theorem ok_type {k : Nat} {f f2 : Addr} {fd fd2 : FuncData} (F : Fun K "is_type" "is_type" sType f fd) (N : KN mg)
    (G2 : FnOk P w K mg base CX0 k f2 fd2 ["thing", "deepest"] (spNest K 9)) (b2 : Binds K fd2 ["thing", "deepest"] []) (k2 : PySem.W.keepIn K (.ref f2) = true) (m2 : mg "is_nested_type" = some (.ref f2)) :
    FnOk P w K mg base CX0 (k + 1) f fd ["thing"] (spType K) := by
  refine F.ok scType (fun vs H Q E h => ?_) (fun cdv A outer s H vs Q E hr h => ?_)
  · obtain ⟨x, _, rfl, _⟩ := h
    rfl
  obtain ⟨v, d, rfl, hd, hf, q⟩ := h
  obtain ⟨tk, gD⟩ := N.gD
  refine ⟨_, pss_one (ps_ret (pe_call G2 hr rfl m2 k2 b2 .nil pass0 (pa_cons (pv 0) (pa_cons (pe_glob (v := .int 8) rfl gD ⟨_, rfl⟩) pa_nil)))), ?_⟩
  exact ⟨_, rfl, v, d, 8, by decide, rfl, hd, hf, q⟩
abbrev sNeed : Stmt := tp 14
theorem scNeed : FnScope ["thing"] ["thing"] (defScope sNeed) := ⟨rfl, rfl, rfl, by decide +kernel, rfl, by decide +kernel, by decide +kernel⟩
def spNeed (K : PySem.W.Frag) : Sp := fun vs H Q _ => ∃ v d, vs = [v] ∧ Dp K H v d ∧ Fine d ∧ ∀ H', Same H H' → Q (.bl (PyData.eqv d anyD || isNest 8 d)) H'
theorem ok_need {k : Nat} {f f2 : Addr} {fd fd2 : FuncData} (F : Fun K "is_need" "is_need" sNeed f fd) (T : KC K mg aA aN)
    (G2 : FnOk P w K mg base CX0 k f2 fd2 ["thing"] (spType K)) (b2 : Binds K fd2 ["thing"] []) (k2 : PySem.W.keepIn K (.ref f2) = true) (m2 : mg "is_type" = some (.ref f2)) :
    FnOk P w K mg base CX0 (k + 1) f fd ["thing"] (spNeed K) := by
  refine F.ok scNeed (fun vs H Q E h => ?_) (fun cdv A outer s H vs Q E hr h => ?_)
  · obtain ⟨x, _, rfl, _⟩ := h
    rfl
  obtain ⟨v, d, rfl, hd, hf, q⟩ := h
  refine ⟨_, pss_one (ps_ret (pe_or (pe_cmpR (op_eqD hr.units) (pv 0) (pgl T.gA) (nomark _)) (pe_one (pe_call G2 hr rfl m2 k2 b2 .nil pass0 (pa_cons (pv 0) pa_nil))))), ?_⟩
  refine ⟨_, rfl, d, anyD, hd, .tup (T.tA _) (.cons (.str _) .nil), hf.2, by decide +kernel, _, rfl, ite2 (fun c => ?_) (fun c => ?_)⟩
  · have z := q H (Same.refl H)
    rw [c, Bool.true_or] at z
    exact z
  · refine ⟨_, rfl, v, d, rfl, hd, hf, fun H' s => ?_⟩
    have z := q H' s
    rw [Bool.eq_false_iff.mpr c, Bool.false_or] at z
    exact z
end
/-- the levels: is_nested_type asked with less than n -/
theorem lev (n : Nat) : 2 ≤ 2 + 2 * n := by omega
end K1

end
section
set_option Elab.async false
set_option linter.all false
set_option maxRecDepth 100000
set_option maxHeartbeats 4000000
namespace K1
open PySem
/-! ### what pairs lead to, one behind the other -/
abbrev PSt := List (Str × Str)
inductive Reach (ps : PSt) (a : Str) : Str → Prop
  | one {b : Str} : (a, b) ∈ ps → Reach ps a b
  | more {b c : Str} : Reach ps a b → (b, c) ∈ ps → Reach ps a c
def cnt (fs : List Str) : PSt → Nat
  | [] => 0
  | p :: r => (if p.2 ∈ fs then 0 else 1) + cnt fs r
theorem cnt_le (fs : List Str) (y : Str) : ∀ ps : PSt, cnt (fs ++ [y]) ps ≤ cnt fs ps
  | [] => Nat.le_refl _
  | p :: r => by
    have ih := cnt_le fs y r
    unfold cnt
    by_cases h : p.2 ∈ fs
    · rw [if_pos h, if_pos (List.mem_append_left _ h)]
      omega
    · rw [if_neg h]
      by_cases h2 : p.2 ∈ fs ++ [y]
      · rw [if_pos h2]
        omega
      · rw [if_neg h2]
        omega
theorem cnt_lt (fs : List Str) (y : Str) (hy : y ∉ fs) : ∀ {ps : PSt} {a : Str}, (a, y) ∈ ps → cnt (fs ++ [y]) ps + 1 ≤ cnt fs ps
  | p :: r, a, h => by
    unfold cnt
    rcases List.mem_cons.mp h with e | e
    · rw [← e, if_neg hy, if_pos (List.mem_append_right _ (List.mem_singleton.mpr rfl))]
      have := cnt_le fs y r
      omega
    · have ih := cnt_lt fs y hy e
      by_cases h : p.2 ∈ fs
      · rw [if_pos h, if_pos (List.mem_append_left _ h)]
        omega
      · rw [if_neg h]
        by_cases h2 : p.2 ∈ fs ++ [y]
        · rw [if_pos h2]
          omega
        · rw [if_neg h2]
          omega
theorem cnt_all (fs : List Str) : ∀ ps : PSt, cnt fs ps ≤ ps.length
  | [] => Nat.le_refl _
  | p :: r => by
    have := cnt_all fs r
    unfold cnt
    rw [List.length_cons]
    split <;> omega
/-- while the words that wait are taken one by one: a is the one at hand, i of the pairs are looked at -/
structure AbI (ps : PSt) (b : Str) (a : Option Str) (i : Nat) (fs ws : List Str) (m : Nat) : Prop where
  r : ∀ x ∈ fs, Reach ps b x
  w : ∀ x ∈ ws, x = b ∨ x ∈ fs
  c : ∀ x, (x = b ∨ x ∈ fs) → x ∈ ws ∨ a = some x ∨ ∀ y, (x, y) ∈ ps → y ∈ fs
  t : ∀ p ∈ ps.take i, a = some p.1 → p.2 ∈ fs
  nd : fs.Nodup
  l : fs.length + cnt fs ps ≤ ps.length
  m : ws.length + cnt fs ps ≤ m
  ab : ∀ x, a = some x → x = b ∨ x ∈ fs
section
variable {ps : PSt} {b : Str}
theorem AbI.start : AbI ps b none 0 [] [b] (1 + ps.length) :=
  ⟨fun _ h => (nomatch h), fun x h => .inl (List.mem_singleton.mp h), fun x h => .inl (h.elim (fun e => List.mem_singleton.mpr e) fun z => nomatch z), fun p h _ => by simp at h, List.nodup_nil,
    by have := cnt_all [] ps; show 0 + cnt [] ps ≤ _; omega, by have := cnt_all [] ps; show 1 + cnt [] ps ≤ _; omega, fun _ h => nomatch h⟩
theorem AbI.pop {fs ws : List Str} {x : Str} {m i : Nat} (h : AbI ps b none i fs (ws ++ [x]) m) : AbI ps b (some x) 0 fs ws (m - 1) ∧ 1 ≤ m := by
  have hm := h.m
  rw [List.length_append, List.length_singleton] at hm
  refine ⟨⟨h.r, fun y hy => h.w y (List.mem_append_left _ hy), fun y hy => ?_, fun p hp _ => by simp at hp, h.nd, h.l, by omega, fun y e => ?_⟩, by omega⟩
  · rcases h.c y hy with z | z | z
    · rcases List.mem_append.mp z with z | z
      · exact .inl z
      · exact .inr (.inl (by rw [List.mem_singleton.mp z]))
    · cases z
    · exact .inr (.inr z)
  · cases e
    exact h.w x (List.mem_append_right _ (List.mem_singleton.mpr rfl))
theorem take_mem {α : Type} {l : List α} {i : Nat} {x y : α} (hx : l[i]? = some x) (hy : y ∈ l.take (i + 1)) : y ∈ l.take i ∨ y = x := by
  rw [List.take_add_one, hx] at hy
  rcases List.mem_append.mp hy with z | z
  · exact .inl z
  · exact .inr (by simpa using z)
theorem AbI.keep {fs ws : List Str} {x : Str} {m i : Nat} {p : Str × Str} (h : AbI ps b (some x) i fs ws m) (hp : ps[i]? = some p) (hk : p.1 = x → p.2 ∈ fs) : AbI ps b (some x) (i + 1) fs ws m :=
  ⟨h.r, h.w, h.c, fun q hq e => by
    rcases take_mem hp hq with z | z
    · exact h.t q z e
    · subst z
      exact hk (Option.some.inj e).symm, h.nd, h.l, h.m, h.ab⟩
theorem AbI.put {fs ws : List Str} {x : Str} {m i : Nat} {p : Str × Str} (h : AbI ps b (some x) i fs ws m) (hp : ps[i]? = some p) (h1 : p.1 = x) (h2 : p.2 ∉ fs) : AbI ps b (some x) (i + 1) (fs ++ [p.2]) (ws ++ [p.2]) m := by
  have hm : (p.1, p.2) ∈ ps := List.mem_of_getElem? hp
  have hc := cnt_lt fs p.2 h2 hm
  have hl := h.l
  have hmm := h.m
  refine ⟨fun y hy => ?_, fun y hy => ?_, fun y hy => ?_, fun q hq e => ?_, ?_, ?_, ?_, fun y e => ?_⟩
  · rcases List.mem_append.mp hy with z | z
    · exact h.r y z
    · rw [List.mem_singleton.mp z]
      rcases h.ab x rfl with e | e
      · exact .one (by rw [← e, ← h1]; exact hm)
      · exact .more (h.r x e) (by rw [← h1]; exact hm)
  · rcases List.mem_append.mp hy with z | z
    · exact (h.w y z).imp id fun q => List.mem_append_left _ q
    · exact .inr (List.mem_append_right _ z)
  · have old : (y = b ∨ y ∈ fs) → y ∈ ws ++ [p.2] ∨ some x = some y ∨ ∀ z, (y, z) ∈ ps → z ∈ fs ++ [p.2] := fun q => by
      rcases h.c y q with z | z | z
      · exact .inl (List.mem_append_left _ z)
      · exact .inr (.inl z)
      · exact .inr (.inr fun u hu => List.mem_append_left _ (z u hu))
    rcases hy with e | e
    · exact old (.inl e)
    · rcases List.mem_append.mp e with z | z
      · exact old (.inr z)
      · exact .inl (List.mem_append_right _ z)
  · rcases take_mem hp hq with z | z
    · exact List.mem_append_left _ (h.t q z e)
    · subst z
      exact List.mem_append_right _ (List.mem_singleton.mpr rfl)
  · exact List.nodup_append.mpr ⟨h.nd, by simp, fun a ha c hc e => h2 (by rw [List.mem_singleton.mp hc] at e; rw [← e]; exact ha)⟩
  · rw [List.length_append, List.length_singleton]
    omega
  · rw [List.length_append, List.length_singleton]
    omega
  · exact (h.ab y e).imp id fun q => List.mem_append_left _ q
theorem AbI.done {fs ws : List Str} {x : Str} {m : Nat} (h : AbI ps b (some x) ps.length fs ws m) : AbI ps b none 0 fs ws m :=
  ⟨h.r, h.w, fun y hy => by
    rcases h.c y hy with z | z | z
    · exact .inl z
    · exact .inr (.inr fun u hu => h.t (y, u) (by rw [List.take_length]; exact hu) z)
    · exact .inr (.inr z), fun p hp _ => by simp at hp, h.nd, h.l, h.m, fun _ e => nomatch e⟩
theorem AbI.fin {fs : List Str} {m i : Nat} (h : AbI ps b none i fs [] m) (x : Str) : x ∈ fs ↔ Reach ps b x := by
  have cl : ∀ y, (y = b ∨ y ∈ fs) → ∀ z, (y, z) ∈ ps → z ∈ fs := fun y hy => by
    rcases h.c y hy with z | z | z
    · cases z
    · cases z
    · exact z
  refine ⟨h.r x, fun hr => ?_⟩
  induction hr with
  | one h1 => exact cl b (.inl rfl) _ h1
  | more _ h1 ih => exact cl _ (.inr ih) _ h1
theorem AbI.len {a : Option Str} {fs ws : List Str} {m i : Nat} (h : AbI ps b a i fs ws m) : fs.length ≤ ps.length ∧ ws.length ≤ m := by
  have h1 := h.l
  have h2 := h.m
  exact ⟨by omega, by omega⟩
end
/-- the pairs told in another order, or twice -/
theorem Reach.sub {ps qs : PSt} {a b : Str} (h : Reach ps a b) (hs : ∀ p ∈ ps, p ∈ qs) : Reach qs a b := by
  induction h with
  | one h1 => exact .one (hs _ h1)
  | more _ h1 ih => exact .more ih (hs _ h1)
theorem Reach.mem {ps : PSt} {B : List Str} {a b : Str} (h : Reach ps a b) (hs : ∀ p ∈ ps, p.2 ∈ B) : b ∈ B := by
  cases h with
  | one h1 => exact hs _ h1
  | more _ h1 => exact hs _ h1
end K1

end
section
set_option Elab.async false
set_option linter.all false
set_option maxRecDepth 100000
set_option maxHeartbeats 4000000
namespace K1
open PySem PySem.Spec PyProof.Rows L2
/-- a list of pairs of words -/
def PrsL (K : PySem.W.Frag) (H : Hp) (lo : Addr) (ps : PSt) : Prop := ∃ cs : List Addr, SqL K H lo (cs.map V.ref) ∧ cs.length = ps.length ∧ ∀ (i : Nat) (c : Addr) (p : Str × Str), cs[i]? = some c → ps[i]? = some p → SqT K H c [.str p.1, .str p.2]
theorem PrsL.same {K : PySem.W.Frag} {H H' : Hp} {lo : Addr} {ps : PSt} (s : Same H H') (h : PrsL K H lo ps) : PrsL K H' lo ps := by
  obtain ⟨cs, h1, h2, h3⟩ := h
  exact ⟨cs, s.seq h1, h2, fun i c p e1 e2 => Same.tup s (h3 i c p e1 e2)⟩
theorem same_upd2 {H H1 : Hp} {a : Addr} {o : HO} (hn : H a = none) (s : Same H H1) : Same H (upd H1 a o) := same_acc hn s
/-- sorted, each once, just what the pairs lead to -/
def IsAbv (ps : PSt) (b : Str) (ys : List Str) : Prop := sortedS ys = true ∧ ys.Nodup ∧ ∀ x, x ∈ ys ↔ Reach ps b x
section
variable {P : Program} {w : World} {K : PySem.W.Frag} {mg : Str → Option Value} {base : Heap} {aA aN : Addr}
abbrev sAllAb : Stmt := tp 29
theorem scAllAb : FnScope ["base", "order", "found", "waiting", "at", "lower", "upper"] ["base", "order"] (defScope sAllAb) := ⟨rfl, rfl, rfl, by decide +kernel, rfl, by decide +kernel, by decide +kernel⟩
def spAllAb (K : PySem.W.Frag) : Sp := fun vs H Q _ => ∃ (b : Str) (lo : Addr) (ps : PSt), vs = [.str b, .ref lo] ∧ PrsL K H lo ps ∧ ps.length ≤ 20 ∧
  ∀ (ys : List Str) (l : Addr) (H' : Hp), Same H H' → H' l = some (.lst (ys.map V.str)) → IsAbv ps b ys → Q (.ref l) H'
theorem ok_allab {f : Addr} {fd : FuncData} (F : Fun K "all_above" "all_above" sAllAb f fd) (mS : mg "sorted" = none) : FnOk P w K mg base CX0 1 f fd ["base", "order"] (spAllAb K) := by
  refine F.ok scAllAb (fun vs H Q E h => ?_) (fun cdv A outer s H vs Q E hr h => ?_)
  · obtain ⟨_, _, _, rfl, _⟩ := h
    rfl
  obtain ⟨b, lo, ps, rfl, hP, hz, q⟩ := h
  refine ⟨_, pss_cons (ps_set (i := 2) scAllAb.nd rfl (Or.inl rfl) (pe_lst pa_nil))
    (pss_cons (ps_set (i := 3) scAllAb.nd rfl (Or.inl rfl) (pe_lst (pa_cons (pv 0) pa_nil)))
    (pss_cons (ps_while PassesOwn.never (pt_truth (pv 3) (by intro _; rfl))
      (pss_cons (ps_set (i := 4) scAllAb.nd rfl (Or.inl rfl) (pe_bm0 PySem.F.plainAttrs_list PySem.F.slot_list_pop PySem.F.type_list_pop mt_pop (pv 3)))
      (pss_one (ps_for PassesOwn.never rfl (pi_list (pv 1)) (pg_tup rfl (pgs_cons (pg_name (i := 5) scAllAb.nd rfl (Or.inl rfl)) (pgs_cons (pg_name (i := 6) scAllAb.nd rfl (Or.inl rfl)) pgs_nil)))
        (pss_one (ps_if (PW.pt (pw_and (pt_cmpR op_eq (pv 5) (pv 4) (nomark _)) (pw_and1 (pt_cmpR op_notIn_seq (pv 6) (pv 2) (by rfl)))))
          (pss_cons (ps_expr (pe_bm PySem.F.plainAttrs_list PySem.F.slot_list_append PySem.F.type_list_append mt_append (pv 2) (pa_cons (pv 6) pa_nil)))
          (pss_one (ps_expr (pe_bm PySem.F.plainAttrs_list PySem.F.slot_list_append PySem.F.type_list_append mt_append (pv 3) (pa_cons (pv 6) pa_nil))))) pss_nil))))))
    (pss_one (ps_ret (pe_callB cr_sortedS rfl mS (by decide +kernel) (pa_cons (pv 2) pa_nil)))))), ?_⟩
  refine ⟨(by show 0 ≤ sizeLine; decide), fun lf hf => ?_⟩
  refine ⟨_, rfl, (by show 1 ≤ sizeLine; decide), fun lw hw => ?_⟩
  have sf := Same.new hf (.lst [])
  have hwH : H lw = none := sf.free hw
  have hlw : lf ≠ lw := ne_of_none upd_same hw
  have sz : ∀ {n : Nat}, n ≤ 40 → n < sizeLine := fun h => small1000 (by omega)
  refine ⟨fun m σ H' => ∃ (fs ws : List Str) (v4 v5 v6 : Option V), m ≤ 21 ∧ AbI ps b none 0 fs ws m ∧ σ = [some (.str b), some (.ref lo), some (.ref lf), some (.ref lw), v4, v5, v6] ∧ Same H H' ∧ H' lf = some (.lst (fs.map V.str)) ∧ H' lw = some (.lst (ws.map V.str)),
    ⟨1 + ps.length, [], [b], none, none, none, by omega, AbI.start, rfl, sf.trans (Same.new hw _), by rw [upd_ne hlw, upd_same]; rfl, by rw [upd_same]; rfl⟩, ?_⟩
  rintro m σ H' ⟨fs, ws, v4, v5, v6, hm, hI, rfl, hs, hF, hW⟩
  refine ⟨_, rfl, _, .inl ⟨_, SqL.of hW, rfl⟩, ?_⟩
  rcases List.eq_nil_or_concat ws with e | ⟨ws', x, e⟩
  · subst e
    refine iteF ?_
    obtain ⟨h1, h2⟩ := hI.len
    refine ⟨_, rfl, lf, fs, rfl, SqL.of hF, by omega, fun ys p hperm hsort hp => ?_⟩
    refine q ys p _ (hs.trans (Same.new hp _)) upd_same ⟨hsort, hperm.nodup_iff.mpr hI.nd, fun x => ?_⟩
    rw [hperm.mem_iff]
    exact hI.fin x
  · rw [List.concat_eq_append] at e
    subst e
    obtain ⟨hI', hm1⟩ := hI.pop
    have he : (!((ws' ++ [x]).map V.str).isEmpty) = true := by simp
    rw [he]
    refine iteT ⟨fun σ' H' => ∃ (fs ws : List Str) (v4 v5 v6 : Option V), AbI ps b none 0 fs ws (m - 1) ∧ σ' = [some (.str b), some (.ref lo), some (.ref lf), some (.ref lw), v4, v5, v6] ∧ Same H H' ∧ H' lf = some (.lst (fs.map V.str)) ∧ H' lw = some (.lst (ws.map V.str)),
      fun σ' H' ⟨fs, ws, v4, v5, v6, h1, h2, h3, h4, h5⟩ => ⟨m - 1, by omega, fs, ws, v4, v5, v6, by omega, h1, h2, h3, h4, h5⟩, ?_⟩
    refine ⟨_, rfl, .inl ⟨rfl, _, SqL.of hW⟩, lw, _, .str x, rfl, rfl, hW, by simp, ?_⟩
    have hd : ((ws' ++ [x]).map V.str).dropLast = ws'.map V.str := by
      rw [List.map_append, List.map_singleton, List.dropLast_concat]
    rw [hd]
    have s1 : Same H (upd H' lw (.lst (ws'.map V.str))) := same_upd2 hwH hs
    obtain ⟨cs, hC, hCl, hCp⟩ := hP
    refine ⟨_, rfl, lo, rfl, ⟨_, s1.seq hC⟩, for_list (K := K) (a := lo) (xs := cs.map V.ref) (fun i σ H2 => ∃ (fs ws : List Str) (v5 v6 : Option V), AbI ps b (some x) i fs ws (m - 1) ∧ σ = [some (.str b), some (.ref lo), some (.ref lf), some (.ref lw), some (.str x), v5, v6] ∧ Same H H2 ∧ H2 lf = some (.lst (fs.map V.str)) ∧ H2 lw = some (.lst (ws.map V.str)))
      ⟨fs, ws', v5, v6, hI', rfl, s1, by rw [upd_ne hlw]; exact hF, upd_same⟩ (fun i σ H2 _ ⟨_, _, _, _, _, _, s2, _⟩ => s2.seq hC) ?_ ?_⟩
    · rintro i y σ H2 hy ⟨fs2, ws2, v5, v6, hJ, rfl, s2, hF2, hW2⟩
      rw [List.getElem?_map] at hy
      cases ec : cs[i]? with
      | none => rw [ec] at hy; cases hy
      | some c =>
        rw [ec] at hy
        cases hy
        have hi : i < ps.length := by rw [← hCl]; exact (List.getElem?_eq_some_iff.mp ec).1
        have hp : ps[i]? = some ps[i] := List.getElem?_eq_getElem hi
        have hcp := Same.tup s2 (hCp i c _ ec hp)
        obtain ⟨h1, h2⟩ := hJ.len
        refine ⟨c, _, rfl, hcp, rfl, _, _, rfl, _, _, rfl, rfl, ?_⟩
        refine ⟨_, rfl, _, rfl, rfl, _, rfl, ite2 (fun z => ?_) (fun z => ?_)⟩
        · have z1 : ps[i].1 = x := by
            have := of_decide_eq_true z
            exact V.str.inj this
          refine ⟨_, rfl, _, rfl, lf, _, rfl, .inl (SqL.of hF2), rfl, flat_strs fs2, _, rfl, ?_⟩
          rw [if_pos rfl, in_strs]
          by_cases hin : ps[i].2 ∈ fs2
          · rw [decide_eq_true hin]
            exact iteF ⟨fs2, ws2, _, _, hJ.keep hp (fun _ => hin), rfl, s2, hF2, hW2⟩
          · rw [decide_eq_false hin]
            refine iteT ?_
            have hJ' := hJ.put hp z1 hin
            refine ⟨_, rfl, .inl ⟨rfl, _, SqL.of hF2⟩, _, rfl, lf, _, _, rfl, rfl, hF2, by rw [List.length_map]; exact sz (by omega), ?_⟩
            have hW3 : upd H2 lf (.lst (fs2.map V.str ++ [V.str ps[i].2])) lw = some (.lst (ws2.map V.str)) := by rw [upd_ne hlw.symm]; exact hW2
            refine ⟨_, rfl, .inl ⟨rfl, _, SqL.of hW3⟩, _, rfl, lw, _, _, rfl, rfl, hW3, by rw [List.length_map]; exact sz (by omega), ?_⟩
            refine ⟨_, _, _, _, hJ', rfl, same_upd2 hwH (same_upd2 hf s2), ?_, ?_⟩
            · rw [upd_ne hlw, upd_same, List.map_append]
              rfl
            · rw [upd_same, List.map_append]
              rfl
        · have z1 : ¬ ps[i].1 = x := fun e => by
            rw [e] at z
            exact z (decide_eq_true rfl)
          refine iteF ?_
          exact ⟨fs2, ws2, _, _, hJ.keep hp (fun e => absurd e z1), rfl, s2, hF2, hW2⟩
    · rintro σ H2 ⟨fs2, ws2, v5, v6, hJ, rfl, s2, hF2, hW2⟩
      rw [List.length_map, hCl] at hJ
      exact ⟨fs2, ws2, _, v5, v6, hJ.done, rfl, s2, hF2, hW2⟩
end
end K1

end
section
set_option Elab.async false
set_option linter.all false
set_option maxRecDepth 100000
set_option maxHeartbeats 4000000
namespace K1
open PySem PySem.Spec PyProof.Rows L2
/-! ### what stands in a tuple, collected and sorted -/
section
variable {prog : Program} {w : World} {A : Around} {E : Value → Shared → Prop} {s : Shared}
theorem coll_tup {l : Addr} {o : Obj} {vs : List Value} {n : Nat} {Q : List Value → Shared → Prop} (ho : s.heap.get? l = some o) (hc : o.cls = .type "tuple") (hd : o.data = .seq vs.toArray n) (hsz : vs.length ≤ sizeLine)
    (h : ∀ h' : Heap, (∀ b u, s.heap.get? b = some u → h'.get? b = some u) → Q vs { s with heap := h' }) : wpAny (model prog w) A (collect (.ref l)) Q E s := by
  unfold collect
  refine wpAny_bind
    (wpAny_runValue (codeAny_builtin entry_proto_collect' ?_))
  show wpAny _ _
    (do again (.builtin "list.__iadd__" ⟨[← newList [], .ref l], []⟩)) _ _ s
  refine wpAny_bind (wpAny_newList (wpAny_pure
    ⟨Code.quiet_builtin _ (by decide +kernel), codeAny_builtin entry_list_iadd' ?_⟩))
  show wpAny _ _ (Builtin.List.listExtendWith (.ref s.heap.objs.size) (.ref l) (.ref s.heap.objs.size)) _ _
    { s with heap := s.heap.push (seqObj "list" #[] 0) }
  unfold Builtin.List.listExtendWith
  have ho' : (s.heap.push (seqObj "list" #[] 0)).get? l = some o :=
    Heap.get?_push_of_some _ ho
  refine wpAny_bind (wpAny_typeOf (T := "tuple") ⟨o, ho', hc⟩ ?_)
  rw [if_pos (by rw [show (Value.type "tuple" == Value.type "tuple") = true by rfl]; simp)]
  refine wpAny_bind (listItems_at ho' hd ?_)
  refine wpAny_bind
    (listItems_at (xs := #[]) (n := 0) (Heap.get?_push_size _ rfl) rfl ?_)
  rw [if_neg (by simp)]
  refine wpAny_bind (listUpdate_at (xs := #[]) (n := 0) (Heap.get?_push_size _ rfl) rfl ?_ (Nat.zero_le _)
    (by show (#[] ++ vs.toArray).size ≤ sizeLine + 1; simp only [Array.size_append, List.size_toArray, List.length_nil]; omega))
  refine wpAny_pure ?_
  have hS := get?_update_seq (h := s.heap.push (seqObj "list" #[] 0)) (a := s.heap.objs.size) (Heap.get?_push_size _ rfl) (· ++ vs.toArray)
  show wpAny (model prog w) A (do
      let o ← load s.heap.objs.size
      match o.data with
      | .seq xs _ => pure xs.toList
      | _ => unsupported "internal:collect") Q E
    { s with heap := (s.heap.push (seqObj "list" #[] 0)).update s.heap.objs.size (Obj.mapSeq (· ++ vs.toArray)) }
  refine wpAny_bind (wpAny_load hS ?_)
  show wpAny _ _ (pure ((#[] : Array Value) ++ vs.toArray).toList) Q E _
  rw [show ((#[] : Array Value) ++ vs.toArray).toList = vs by simp]
  refine wpAny_pure (h _ fun b u e => ?_)
  have hb : b ≠ s.heap.objs.size := Nat.ne_of_lt (Heap.lt_size e)
  rw [Heap.get?_update_other _ _ (Ne.symm hb)]
  exact Heap.get?_push_of_some _ e
end
section
variable {X : Cx}
def rSortST (K : PySem.W.Frag) : List V → Hp → VK → Prop := fun vs H Q => ∃ (a : Addr) (xs : List Str), vs = [V.ref a] ∧ SqT K H a (xs.map V.str) ∧ xs.length < 64 ∧
  ∀ (ys : List Str) (p : Addr), ys.Perm xs → sortedS ys = true → H p = none → Q (.ref p) (upd H p (.lst (ys.map V.str)))
theorem cr_sortST : CallR X (.builtin "sorted") (rSortST X.K) := by
  intro pins s σ H vs us Q I r h
  obtain ⟨a, xs, rfl, hs, h64, q⟩ := h
  obtain ⟨its, rv, ⟨o, ho, hc, n, hd⟩, hz⟩ := I.tuple hs
  rw [Vals.ref1 r]
  have hlen0 := rv.length
  rw [List.length_map] at hlen0 hz
  have hS : StrsAre its xs := rv.strs
  refine Calls.call_function_entry PyProof.Rows.kind_sorted PyProof.Rows.plain_sorted
    PyProof.Rows.entry_sorted (PyProof.Rows.args_sorted1 _) ?_
  unfold Builtin.«sorted»
  refine wpAny_bind
    (m := checkCount "sorted" 1 1 _) (wpAny_pure ?_)
  refine wpAny_bind (coll_tup ho hc hd (by omega) fun h' hk => ?_)
  have I1 : Inv X pins σ H { s with heap := h' } := I.kept (t' := s.toks) hk
  refine wpAny_bind (wpAny_newList ?_ (by omega))
  have hoL : (h'.push (seqObj "list" its.toArray 0)).get? h'.objs.size = some (seqObj "list" its.toArray 0) :=
    Heap.get?_push_size _ rfl
  show wpAny _ _ _ _ _
    { s with heap := h'.push (seqObj "list" its.toArray 0) }
  refine wpAny_bind (wpAny_holding (wpAny_call_entry
    PyProof.Rows.slot_list_sort ⟨_, hoL, rfl⟩ PyProof.Rows.entry_list_sort
    (list_sort_treeK strKind_oneLt (s := { s with heap := h'.push (seqObj "list" its.toArray 0) }) hoL hS.keysOf
      (fun v₁ v₂ rest e => keyKind_strs (by rw [← e]; exact hS)) (by omega) fun st' hp hs => ⟨_, rfl, ?_⟩)
    (PyProof.Rows.args_list_sort _)))
  obtain ⟨ys, g1, g2, g3⟩ := sorted_out_str hS hp hs
  obtain ⟨e', he'⟩ := PyProof.Rows.sortedHeap_at (vs := its) (out := (arrOf st').map (·.2)) hoL
  have hlen : (ys.map V.str).length ≤ sizeLine := by
    rw [List.length_map, g2.length_eq]
    exact Nat.le_trans (Nat.le_of_lt h64) (by decide)
  refine wpAny_pure ⟨_, rfl, .ref h'.objs.size, upd H h'.objs.size (.lst (ys.map V.str)),
    I1.laid (t' := s.toks) (fun b u e => ?_) (Nat.le_refl _)
      (show ObjOk X.prog X.w _ _ _ (.lst (ys.map V.str)) from ⟨hlen, ((arrOf st').map (·.2)).toList, e', vals_of_strs g1, by rw [Array.toArray_toList]; exact he'⟩),
    rfl, q ys _ g2 g3 (I1.hok.fresh (Nat.le_refl _))⟩
  have hb : b < h'.objs.size := Heap.lt_size e
  rw [PyProof.Rows.sortedHeap_old (Nat.ne_of_lt hb)
    (by rw [size_push']; exact Nat.lt_succ_of_lt hb)]
  exact Heap.get?_push_of_some _ e
end
end K1

end
section
set_option Elab.async false
set_option linter.all false
set_option maxRecDepth 100000
set_option maxHeartbeats 4000000
namespace K1
open PySem PySem.Spec PyProof.Rows L2
section
variable {X : Cx}
/-- d = {k: v for ..}, d a local on one line -/
theorem ps_setDc {i : Nat} {y : Str} {py : Pos} {kx vx tg iter : Expr} {ifs : List Expr} {scope : Scope} {own : List (Str × Nat)} {pos spos : Pos} {wi : TI} {g : TG} {tt : TT} {tk tv : TE}
    (hc : X.calm = true) (hN : X.N.Nodup) (hy : X.N[i]? = some y) (hyl : X.env.scope.names.lookup y = some .local)
    (hsw : swapsWith (.DictComp kx vx [⟨tg, iter, ifs, 0⟩] scope pos) (some (.Name y py)) spos.line X.env = pure true) (hi : PI X tg iter wi) (ok : BlkOk X.N X.env.scope scope own)
    (hg : ∀ (s : Shared) (H : Hp) (C : Addr) (cl : List (Str × Addr)) (fp : List Addr),
      PG (X.blk s H scope (compEnvC scope cl C X.env) fp) tg g)
    (ht : ∀ (s : Shared) (H : Hp) (C : Addr) (cl : List (Str × Addr)) (fp : List Addr),
      PTs (X.blk s H scope (compEnvC scope cl C X.env) fp) ifs tt)
    (hk : ∀ (s : Shared) (H : Hp) (C : Addr) (cl : List (Str × Addr)) (fp : List Addr),
      PE (X.blk s H scope (compEnvC scope cl C X.env) fp) kx tk)
    (he : ∀ (s : Shared) (H : Hp) (C : Addr) (cl : List (Str × Addr)) (fp : List Addr),
      PE (X.blk s H scope (compEnvC scope cl C X.env) fp) vx tv)
    (hs : ∀ x, foldedSetIterable iter X.env x = pure x := by intro _; rfl) :
    PS X (.Assign [.Name y py] (.DictComp kx vx [⟨tg, iter, ifs, 0⟩] scope pos) spos) (tAsg (tDc wi g tt tk tv (own.map (·.2))) (gName i)) := by
  refine ⟨fun pins s σ H D I h => ?_⟩
  rw [exec_Assign_Name_used _ _ _ _ hsw]
  refine wpAny_bind (wpAny_standAt (wpAny_bind ?_))
  show wpAny _ X.A (do
    let _ ← comprehension (.DictComp kx vx [⟨tg, iter, ifs, 0⟩] scope pos) scope X.env (firstIterPos [⟨tg, iter, ifs, 0⟩] pos) newDict false (eval iter X.env) (some (assign (.Name y py) X.env))) _ _ s
  have h : tDc wi g tt tk tv (own.map (·.2)) σ H (fun x H1 => gName i x σ H1 D.nx) := h
  refine wpAny_bind (thn (dc_core (Qf := fun _ s' => SP X pins D .next s') hc hN I hi ok hg ht hk he hs h fun L C s' m H' I' q hn f => ?_)
    fun _ s' hq => wpAny_pure (wpAny_pure hq))
  show wpAny _ _ (assign (.Name y py) X.env (.ref L)) _ _ _
  refine wpAny_assign_Name
    (store_ok2 (v := V.ref L) I' hN hy (.inl hyl) rfl (fun s2 I2 ⟨a, sb, ha⟩ => ?_) (.inr hyl))
  obtain ⟨f0, f1, f2, f3, f4, f5⟩ := f
  have haC : C ≠ a := by
    rcases ha with z | z
    · rw [z]
      exact f1
    · exact fun e => f4 y a z e.symm
  refine ⟨m, hn.sameBut sb haC, fun h3 sb3 => ?_⟩
  exact ⟨_, H', I2.turned (t' := s2.toks)
    (fun b o hb e => (sb3.2 b hb).trans e) f0 f1 f3 f4 f5, q⟩
theorem swd_true {kx vx : Expr} {gs : List Comprehension} {scope : Scope} {pos py : Pos} {y : Str} {l : Nat} {env : Env} (hk : env.scope.kind = .function)
    (hy : env.scope.names.lookup y = some .local) (hl : (py.line == pos.line) = true)
    (ha : (scope.names.any fun (n, k) => n == y && (k == .local || k == .cell)) = false) :
    swapsWith (.DictComp kx vx gs scope pos) (some (.Name y py)) l env = pure true := by
  have ky : env.kindOf y = some .local := hy
  have hb : env.blockKind = .function := by
    unfold Env.blockKind
    rw [hk]
    rfl
  unfold swapsWith
  simp only [hb, ky, ha, Expr.pos, hl]
  rfl
end
/-- a dict by a comprehension over a list of words, each once; what each word gets is told by R -/
theorem dcL {K : PySem.W.Frag} {a : Addr} {xs : List Str} {g : TG} {tk tv : TE} {vs : List Nat} {σ : L2.St} {H1 : Hp} {D : Addr} {Qd : Hp → Prop} (R : Str → V → Hp → Prop) (hz : xs.length ≤ 1000) (hnd : xs.Nodup) (hS : SqL K H1 a (xs.map V.str)) (hD : H1 D = none)
    (mono : ∀ x v H' H'', R x v H' → Same H' H'' → R x v H'') (monoD : ∀ x v H' o, Same H1 H' → R x v H' → R x v (upd H' D o))
    (turn : ∀ (x : Str) (H' : Hp) (Q : V → VK), x ∈ xs → Same H1 H' → (∃ kvs, H' D = some (.dK kvs)) → (∀ z H5, Same H' H5 → R x z H5 → Q (.str x) z H5) → g (.str x) (wipe σ vs) H' fun σ2 H2 => wipe σ2 vs = wipe σ vs ∧ tk σ2 H2 fun y H4 => tv σ2 H4 fun z H5 => Q y z H5)
    (hd : ∀ (kvs : List (Key × V)) (H' : Hp), Same H1 H' → H' D = some (.dK kvs) → kvs.map (·.1) = xs.map Sum.inr → (∀ p ∈ kvs, ∀ x, p.1 = Sum.inr x → R x p.2 H') → Qd H') :
    ∃ W : Nat → Nat → Hp → Prop, (∃ m, W 0 m (upd H1 D (.dK []))) ∧ ∀ i m H, W i m H → ((Itl K a).stop i H ∧ Qd H) ∨ ((Itl K a).go i H ∧ ∃ Nx : Hp → Prop, (∀ H', Nx H' → ∃ m', m' < m ∧ W (i + 1) m' H') ∧ ∀ x H', (Itl K a).yld i H x H' →
      g x (wipe σ vs) H' fun σ2 H2 => wipe σ2 vs = wipe σ vs ∧ tYes σ2 H2 fun b H3 => if b = true then tk σ2 H3 fun y H4 => tv σ2 H4 fun z H5 => ∃ kvs k, y = kV k ∧ H5 D = some (.dK kvs) ∧ kvs.length < sizeLine ∧ Nx (upd H5 D (.dK (putK kvs k z))) else Nx H3) := by
  refine ⟨fun i m H => m = xs.length - i ∧ i ≤ xs.length ∧ Same H1 H ∧ ∃ kvs, H D = some (.dK kvs) ∧ kvs.map (·.1) = (xs.take i).map Sum.inr ∧ ∀ p ∈ kvs, ∀ x, p.1 = Sum.inr x → R x p.2 H,
    ⟨xs.length, by omega, Nat.zero_le _, same_acc hD (Same.refl _), [], upd_same, rfl, fun p hp => nomatch hp⟩, ?_⟩
  rintro i m H ⟨rfl, hi, s, kvs, hK, hks, hR⟩
  have hS' := s.seq hS
  by_cases hlt : i < xs.length
  · have hx : xs[i]? = some xs[i] := List.getElem?_eq_getElem hlt
    have hxv : (xs.map V.str)[i]? = some (.str xs[i]) := by rw [List.getElem?_map, hx] <;> rfl
    refine .inr ⟨⟨_, _, hS', hxv⟩, fun H' => Same H1 H' ∧ ∃ kvs, H' D = some (.dK kvs) ∧ kvs.map (·.1) = (xs.take (i + 1)).map Sum.inr ∧ ∀ p ∈ kvs, ∀ x, p.1 = Sum.inr x → R x p.2 H',
      fun H' p' => ⟨xs.length - (i + 1), by omega, rfl, hlt, p'⟩, fun x H' y => ?_⟩
    obtain ⟨e, y⟩ := y
    subst e
    have ex := y _ hS'
    rw [hxv] at ex
    cases ex
    refine turn xs[i] _ _ (List.getElem_mem hlt) s ⟨kvs, hK⟩ fun z H5 s5 hz5 => ?_
    have hK5 := s5 _ _ hK
    have hlen : kvs.length = i := by
      have e := congrArg List.length hks
      rw [List.length_map, List.length_map, List.length_take] at e
      omega
    refine ⟨kvs, Sum.inr xs[i], rfl, hK5, small1000 (by omega), same_acc hD (s.trans s5), kvs ++ [(Sum.inr xs[i], z)], ?_, ?_, ?_⟩
    · have hnone : valV kvs (Sum.inr xs[i]) = none := by
        cases ev : valV kvs (Sum.inr xs[i]) with
        | none => rfl
        | some v =>
          exfalso
          have hm : (Sum.inr xs[i] : Key) ∈ kvs.map (·.1) := by
            unfold valV at ev
            cases ef : kvs.find? (fun kv => decide (kv.1 = Sum.inr xs[i])) with
            | none => rw [ef] at ev; cases ev
            | some p =>
              have h1 := List.mem_of_find?_eq_some ef
              have h2 : p.1 = Sum.inr xs[i] := by simpa using List.find?_some ef
              exact List.mem_map.mpr ⟨p, h1, h2⟩
          rw [hks] at hm
          obtain ⟨x', hx', e'⟩ := List.mem_map.mp hm
          have e2 : x' = xs[i] := Sum.inr.inj e'
          obtain ⟨j, hj, hje⟩ := List.getElem_of_mem hx'
          rw [List.length_take] at hj
          rw [List.getElem_take] at hje
          have hji : j = i := (List.getElem_inj hnd).mp (hje.trans e2)
          omega
      rw [upd_same, putK_new z hnone]
    · rw [List.map_append, hks, take_more hx, List.map_append]
      rfl
    · intro p hp x hpx
      rcases List.mem_append.mp hp with hp | hp
      · exact monoD _ _ _ _ (s.trans s5) (mono _ _ _ _ (hR p hp x hpx) s5)
      · rw [List.mem_singleton.mp hp] at hpx ⊢
        have e2 : xs[i] = x := Sum.inr.inj hpx
        rw [← e2]
        exact monoD _ _ _ _ (s.trans s5) hz5
  · have e : i = xs.length := by omega
    subst e
    rw [List.take_length] at hks
    exact .inl ⟨⟨_, hS', by rw [List.length_map]; exact Nat.le_refl _⟩, hd kvs H s hK hks hR⟩
end K1

end
section
set_option Elab.async false
set_option linter.all false
set_option maxRecDepth 100000
set_option maxHeartbeats 4000000
namespace K1
open PySem PySem.Spec PyProof.Rows L2
/-- a list or a tuple -/
def SqE (K : PySem.W.Frag) (H : Hp) (a : Addr) (xs : List V) : Prop := SqL K H a xs ∨ SqT K H a xs
theorem SqE.same {K : PySem.W.Frag} {H H' : Hp} {a : Addr} {xs : List V} (s : Same H H') (h : SqE K H a xs) : SqE K H' a xs := h.imp (fun q => s.seq q) fun q => Same.tup s q
theorem sqT_ty {K : PySem.W.Frag} {H : Hp} {a : Addr} {xs : List V} (h : SqT K H a xs) : TyX K H (.ref a) (.type "tuple") := by
  rcases h with (h | ⟨o, h⟩) | ⟨o, its, n, h, hc, _⟩
  · exact .base (.tup h)
  · exact .fTuple h
  · exact .kTuple h hc
theorem sqL_ty {K : PySem.W.Frag} {H : Hp} {a : Addr} {xs : List V} (h : SqL K H a xs) : TyX K H (.ref a) (.type "list") := by
  rcases h with (h | ⟨o, h⟩) | ⟨o, its, n, h, hc, _⟩
  · exact .base (.lst h)
  · exact .base (.frz h)
  · exact .kList h hc
theorem mem_in {x : Str} {B : List Str} (h : x ∈ B) : inV (.str x) (B.map V.str) = true := (in_strs x B).trans (decide_eq_true h)
section
variable {P : Program} {w : World} {K : PySem.W.Frag} {mg : Str → Option Value} {base : Heap} {aA aN : Addr}
theorem pe_lstT {X : Cx} {p : Pos} (hm : X.mg "list" = none) (hg : Gl X "list" := by rfl) : PE X (.Name "list" p) (tC (.ty "list")) := pe_bltn hg hm (by decide +kernel) rfl
abbrev sIsL : Stmt := tp 26
theorem scIsL : FnScope ["thing"] ["thing"] (defScope sIsL) := ⟨rfl, rfl, rfl, by decide +kernel, rfl, by decide +kernel, by decide +kernel⟩
def spIsL (K : PySem.W.Frag) : Sp := fun vs H Q _ => ∃ a xs, vs = [.ref a] ∧ SqE K H a xs ∧ ∀ H', Same H H' → Q (.bl true) H'
theorem ok_isl {f : Addr} {fd : FuncData} (F : Fun K "is_list" "is_list" sIsL f fd) (mI : mg "isinstance" = none) (mL : mg "list" = none) (mT : mg "tuple" = none) : FnOk P w K mg base CX0 1 f fd ["thing"] (spIsL K) := by
  refine F.ok scIsL (fun vs H Q E h => ?_) (fun cdv A outer s H vs Q E hr h => ?_)
  · obtain ⟨x, _, rfl, _⟩ := h
    rfl
  obtain ⟨a, xs, rfl, hS, q⟩ := h
  refine ⟨_, pss_one (ps_ret (pe_callB call_isiT rfl mI (by decide +kernel) (pa_cons (pv 0) (pa_cons (pe_tup (pa_cons (pe_lstT mL) (pa_cons (pe_tupT mT) pa_nil))) pa_nil)))), ?_⟩
  refine ⟨_, rfl, (by show 2 ≤ sizeLine; decide), fun p hp => ?_⟩
  have s1 := Same.new hp (.tup [.ty "list", .ty "tuple"])
  rcases hS with hS | hS
  · exact ⟨.ref a, p, [.ty "list", .ty "tuple"], .type "list", [.type "list", .type "tuple"], true, rfl, upd_same, .cons (.ty _) (.cons (.ty _) .nil), sqL_ty (s1.seq hS),
      kitAny_cons (b := true) (kit_ty (by decide +kernel)) (fun z => nomatch z) (fun _ => rfl), q _ s1⟩
  · exact ⟨.ref a, p, [.ty "list", .ty "tuple"], .type "tuple", [.type "list", .type "tuple"], true, rfl, upd_same, .cons (.ty _) (.cons (.ty _) .nil), sqT_ty (Same.tup s1 hS),
      kitAny_cons (b := false) (kit_ty (by decide +kernel)) (fun _ => kitAny_cons (b := true) (kit_ty (by decide +kernel)) (fun z => nomatch z) (fun _ => rfl)) (fun z => nomatch z), q _ s1⟩
abbrev sIsP : Stmt := tp 28
theorem scIsP : FnScope ["thing", "bases"] ["thing", "bases"] (defScope sIsP) := ⟨rfl, rfl, rfl, by decide +kernel, rfl, by decide +kernel, by decide +kernel⟩
def spIsP (K : PySem.W.Frag) : Sp := fun vs H Q _ => ∃ (c b : Addr) (p : Str × Str) (B : List Str), vs = [.ref c, .ref b] ∧ SqT K H c [.str p.1, .str p.2] ∧ SqE K H b (B.map V.str) ∧ p.1 ∈ B ∧ p.2 ∈ B ∧ Q (.bl true) H
theorem ok_isp {f : Addr} {fd : FuncData} (F : Fun K "is_pair" "is_pair" sIsP f fd) (T : KC K mg aA aN) (mT : mg "tuple" = none) : FnOk P w K mg base CX0 1 f fd ["thing", "bases"] (spIsP K) := by
  refine F.ok scIsP (fun vs H Q E h => ?_) (fun cdv A outer s H vs Q E hr h => ?_)
  · obtain ⟨_, _, _, _, rfl, _⟩ := h
    rfl
  obtain ⟨c, b, p, B, rfl, hS, hB, h1, h2, q⟩ := h
  refine ⟨_, pss_one (ps_ret (pe_and (pe_callB call_isi rfl T.isi (by decide +kernel) (pa_cons (pv 0) (pa_cons (pe_tupT mT) pa_nil)))
    (pe_and (pe_cmpR op_eq (pe_callB call_len_seq rfl T.len PySem.boot_len (pa_cons (pv 0) pa_nil)) pe_int (nomark _))
    (pe_and (pe_cmpR op_in_seq (pe_ix ix_tup (pv 0) pe_int (fun _ _ => rfl)) (pv 1) (by rfl)) (pe_one (pe_cmpR op_in_seq (pe_ix ix_tup (pv 0) pe_int (fun _ _ => rfl)) (pv 1) (by rfl))))))), ?_⟩
  refine ⟨_, rfl, .ref c, .ty "tuple", .type "tuple", .type "tuple", true, rfl, .ty _, sqT_ty hS, kit_ty (by decide +kernel), _, rfl, iteT ?_⟩
  refine ⟨_, rfl, c, _, rfl, .inr hS, rfl, _, rfl, iteT ?_⟩
  refine ⟨_, rfl, c, _, 0, _, rfl, rfl, hS, rfl, _, rfl, b, _, rfl, hB, rfl, flat_strs B, ?_⟩
  rw [if_neg Bool.false_ne_true, mem_in h1]
  refine ⟨_, rfl, iteT ?_⟩
  refine ⟨_, rfl, c, _, 1, _, rfl, rfl, hS, rfl, _, rfl, b, _, rfl, hB, rfl, flat_strs B, ?_⟩
  rw [if_neg Bool.false_ne_true, mem_in h2]
  exact q
end
end K1

end
section
set_option Elab.async false
set_option linter.all false
set_option maxRecDepth 100000
set_option maxHeartbeats 4000000
namespace K1
open PySem PySem.Spec PyProof.Rows L2
/-- an own error class without an __init__ -/
structure XF (K : PySem.W.Frag) (mg : Str → Option Value) (x : Str) (C : Addr) : Prop where
  g : mg x = some (.ref C)
  xP : PySem.W.excIn K C [.type "ValueError", .type "Exception", .type "BaseException", .type "object"] "ValueError.__new__" = true
  kP : PySem.W.keepIn K (.ref C) = true
  bP : PySem.W.subIn K (.ref C) (.type "BaseException") = some true
  tP : PySem.W.typeIn K (.ref C) = some (.type "type")
theorem ps_bad {X : Cx} {W : WX} {x m : Str} {C : Addr} {j : Nat} {p p2 pos pos2 : Pos} (F : XF X.K X.mg x C) (hc : X.calm = true) (tk : Takes X W) (hg : Gl X x := by rfl) (hdb : (x == ("__debug__" : Str)) = false := by decide) :
    PS X (.Raise (some (.Call (.Name x p) [.Constant (.str m) j p2] [] pos)) none pos2) (fun _ σ H => W (.ref C) none σ H) :=
  ps_raise hc tk (pmk_own PySem.F.excBase_ValueError F.xP F.g F.kP (raises_own F.bP F.tP) hg hdb)
/-- what is never asked -/
def tNev : TE := fun _ _ _ => False
theorem pe_never {X : Cx} {e : Expr} : PE X e tNev := ⟨fun _ _ _ _ _ _ h => False.elim h⟩
end K1

end
section
set_option Elab.async false
set_option linter.all false
set_option maxRecDepth 100000
set_option maxHeartbeats 4000000
namespace K1
open PySem PySem.Spec PyProof.Rows L2
/-! ### set(xs) of different words, xs a list or a tuple -/
section
variable {prog : Program} {w : World} {A : Around} {R : Result → Shared → Prop} {I : Addr} {fp wr : List Addr} {n : Nat} {St : Nat → Heap → Prop} {items : Array Value}
/-- the members so far -/
abbrev SoFar (xs : List Str) (i : Nat) : Str → Bool := fun k => (xs.take i).any (· == k)
theorem so_more {xs : List Str} {i : Nat} {x k : Str} (hx : xs[i]? = some x) : (SoFar xs i k || decide (k = x)) = SoFar xs (i + 1) k := by
  show _ = (xs.take (i + 1)).any (· == k)
  rw [take_more hx, List.any_append, List.any_cons, List.any_nil, Bool.or_false]
  congr 1
  by_cases e : k = x
  · rw [e, decide_eq_true rfl, beq_self_eq_true]
  · rw [decide_eq_false e, beq_eq_false_iff_ne.mpr (Ne.symm e)]
theorem so_new {xs : List Str} (hn : xs.Nodup) {i : Nat} {x : Str} (hx : xs[i]? = some x) : SoFar xs i x = false := by
  cases e : SoFar xs i x with
  | false => rfl
  | true =>
    exfalso
    obtain ⟨y, hy, ey⟩ := List.any_eq_true.mp e
    have ey' : y = x := eq_of_beq ey
    subst ey'
    obtain ⟨j, hj, hje⟩ := List.getElem_of_mem hy
    rw [List.length_take] at hj
    rw [List.getElem_take] at hje
    obtain ⟨hi, hie⟩ := List.getElem?_eq_some_iff.mp hx
    have := (List.getElem_inj hn).mp (hje.trans hie.symm)
    omega
theorem words_loop (W : Walks prog w A.in1 I fp wr n (fun i v => items[i]? = some v) St) (S : Addr) (hSf : S ∉ fp) (xs : List Str) (hnd : xs.Nodup) (hsz : xs.length = n) (hn1 : n ≤ 1000)
    (hval : ∀ (i : Nat) (v : Value), items[i]? = some v → ∃ x t, xs[i]? = some x ∧ v = .str x t) :
    ∀ (k i : Nat) (s : Shared), n - i = k → i ≤ n → St i s.heap → s.heap.SetOf (PySem.strKind prog w) S (SoFar xs i) i →
      (∀ h' tk, h'.SetOf (PySem.strKind prog w) S (SoFar xs n) n → (∀ b o, b ≠ S → b ∉ wr → s.heap.get? b = some o → h'.get? b = some o) → R (.ok (.ret .none)) { s with heap := h', toks := tk }) →
      codeAny (model prog w) A (.builtin "set.update.loop" ⟨[.ref S, .ref I], []⟩) R s := by
  have hSw : S ∉ wr := fun h => hSf (W.sub _ h)
  intro k
  induction k with
  | zero =>
    intro i s hk hi hst ⟨o, es, ep, tb, ho, rest⟩ hR
    have hin : i = n := by omega
    subst hin
    refine codeAny_builtin F.entry_set_update_loop ?_
    rw [Around.under_plainId F.plain_set_update_loop _]
    show wpAny _ A.in1 (pyNext (.ref I) >>= _) _ _ s
    refine wpAny_bind (W.done s _ _ hst fun h' tk hm => ?_)
    show wpAny _ A.in1 (ret Value.none) _ _ _
    exact wpAny_pure (hR h' tk ⟨o, es, ep, tb, hm S _ hSw ho, rest⟩ fun b u _ hb e => hm b u hb e)
  | succ k ih =>
    intro i s hk hi hst ⟨o, es, ep, tb, ho, rest⟩ hR
    have hlt : i < n := by omega
    refine codeAny_builtin F.entry_set_update_loop ?_
    rw [Around.under_plainId F.plain_set_update_loop _]
    show wpAny _ A.in1 (pyNext (.ref I) >>= _) _ _ s
    refine wpAny_bind (W.item i s _ _ hlt hst fun v h1 tk1 hP hst1 hm => ?_)
    obtain ⟨x, t, hx, rfl⟩ := hval i v hP
    have hS1 : h1.SetOf (PySem.strKind prog w) S (SoFar xs i) i := ⟨o, es, ep, tb, hm S _ hSw ho, rest⟩
    show wpAny _ A.in1 (holding [Value.str x t] (setAdd S (.str x t)) >>= _) _ _ _
    refine wpAny_bind (wpAny_holding ?_)
    unfold setAdd
    refine wpAny_holding ?_
    refine wpAny_bind ((PySem.strKind prog w).pyHash (k := x) (strKind_is _ _ _ _) ?_)
    refine wpAny_setAddHashed_of (knd := PySem.strKind prog w) (s := { s with heap := h1, toks := tk1 + 1 }) (strKind_is _ _ _ _) rfl hS1 (by unfold scanBound; omega) fun h2 hsb hS2 => ?_
    have hS3 : h2.SetOf (PySem.strKind prog w) S (SoFar xs (i + 1)) (i + 1) :=
      SetOf_congr hS2 (fun k' => so_more hx) (by rw [so_new hnd hx]; rfl)
    refine wpAny_pure ⟨plainId_quiet F.plain_set_update_loop _,
      ih (i + 1) _ (by omega) hlt (W.frame _ h1 _ hst1 fun b hb u e => ?_) hS3 fun h3 tk3 hF hk3 => hR h3 tk3 hF fun b u hb hw e => ?_⟩
    · show h2.get? b = some u
      rw [hsb.2 b (fun z : b = S => hSf (by rw [← z]; exact hb))]
      exact e
    · refine hk3 b u hb hw ?_
      show h2.get? b = some u
      rw [hsb.2 b hb]
      exact hm b u hw e
end
section
variable {prog : Program} {w : World} {A : Around} {E : Value → Shared → Prop} {s : Shared}
/-- set(l), T the class of l, it0 its fresh iterator -/
theorem set_words {T : String} {l : Addr} {o : Obj} {items : Array Value} {nl : Nat} {xs : List Str} {it0 : Obj} {St : Addr → Nat → Heap → Prop} {Q : Value → Shared → Prop}
    (hh : A.handled = none) (ho : s.heap.get? l = some o) (hc : o.cls = .type T) (hd : o.data = .seq items nl)
    (hsls : isSubtype (.type T) (.type "set") = pure false) (hslf : isSubtype (.type T) (.type "frozenset") = pure false) (hne : (Value.type T == Value.type "dict") = false)
    (hit : ∀ (A' : Around) (s' : Shared) (Q' E' : Value → Shared → Prop), s'.heap.get? l = some o → Q' (.ref s'.heap.objs.size) { s' with heap := s'.heap.push it0 } → wpAny (model prog w) A' (pyIter (.ref l)) Q' E' s')
    (hW : ∀ (A' : Around) (I : Addr), A'.handled = none → l ≠ I → Walks prog w A' I [I, l] [I] items.size (fun i v => items[i]? = some v) (St I))
    (h0 : ∀ h : Heap, h.get? l = some o → St h.objs.size 0 (h.push it0))
    (hnd : xs.Nodup) (hl : xs.length ≤ 1000) (hi : StrsAre items.toList xs)
    (h : ∀ (h' : Heap) (tk : Nat), h'.SetOf (PySem.strKind prog w) s.heap.objs.size (SoFar xs xs.length) xs.length →
      (∀ b u, s.heap.get? b = some u → h'.get? b = some u) → Q (.ref s.heap.objs.size) { s with heap := h', toks := tk }) :
    wpAny (model prog w) A (call (.type "set") [.ref l]) Q E s := by
  obtain ⟨c, tl, hmro⟩ := PySem.F.called_set.mro
  have hmade := PySem.F.called_set.made
  have hsub := PySem.F.called_set.sub
  refine wpAny_call (codeAny_of_tree ?_)
  show wpAny _ _ (callAny (.type "set") _) _ _ _
  refine wpAny_pure ⟨Code.quiet_builtin _ (by decide +kernel),
    codeAny_builtin PySem.F.entry_type_call ?_⟩
  rw [Around.under_plain (weight_type_call_type "set" [.ref l] []) rfl]
  have h1 := PySem.F.called_set.notType
  have h2 := PySem.F.called_set.canCreate
  have hct := PySem.F.typeCall_set_1 (.ref l)
  repeat (any_goals (first | assumption | wp_step))
  refine codeAny_mono (code_set_new_1 (.ref l) (E := E) (Q₁ := fun obj s₁ => ∃ led : Bool, obj = .ref s.heap.objs.size ∧
    s₁ = { s with heap := s.heap.push { cls := .type "set", dict := none, data := .set #[] 0 (.fresh 0 0 led) } }) fun led => ⟨led, rfl, rfl⟩) fun r s₁ hr => ?_
  cases r with
  | error e => exact hr
  | ok fl =>
   cases fl with
   | next => exact hr.elim
   | brk => exact hr.elim
   | cont => exact hr.elim
   | ret obj =>
    obtain ⟨led, e1, e2⟩ := hr
    subst e1 e2
    have hS := Heap.get?_push_size s.heap (o := { cls := .type "set", dict := none, data := .set #[] 0 (.fresh 0 0 led) }) rfl
    have hT : Shared.TypeIs { s with heap := s.heap.push { cls := .type "set", dict := none, data := .set #[] 0 (.fresh 0 0 led) } } (.ref s.heap.objs.size) "set" := ⟨_, hS, rfl⟩
    have hli := PySem.F.called_set.init.lookup
    have hbi := PySem.F.called_set.init.bind (.ref s.heap.objs.size)
    repeat (any_goals (first | assumption | wp_step))
    refine codeAny_mono (codeAny_call_builtin (R := wants (fun r s₂ => r = .none ∧ ∃ h' tk, s₂ = { s with heap := h', toks := tk } ∧
        h'.SetOf (PySem.strKind prog w) s.heap.objs.size (SoFar xs xs.length) xs.length ∧ (∀ b u, s.heap.get? b = some u → h'.get? b = some u)) E)
      PySem.F.called_set.init.plain PySem.F.entry_set_init (check_set_init_1 hT ?_)) fun r₂ s₂ hr₂ => ?_
    · obtain ⟨ocls, odict, odata, oslots⟩ := o
      simp only at hc hd
      subst hc hd
      have ho' := Heap.get?_push_of_some { cls := .type "set", dict := none, data := .set #[] 0 (.fresh 0 0 led) } ho
      unfold Builtin.«set.__init__» noKeywords Builtin.Frozenset.updateFrom
      generalize hPI : pyIter = PI
      wp_walk
      subst hPI
      refine hit _ _ _ _ ho' ?_
      refine wpAny_bind (wpAny_runValue ?_)
      have hlS : l < s.heap.objs.size := Heap.lt_size ho
      have hh3 : A.in1.in1.in1.handled = none := by simp [hh]
      have hsz : xs.length = items.size := by rw [← StrsAre.len_eq hi, Array.length_toList]
      have eI : (s.heap.push { cls := .type "set", dict := none, data := .set #[] 0 (.fresh 0 0 led) }).objs.size = s.heap.objs.size + 1 := Heap.size_push ..
      refine words_loop (hW _ _ hh3 (by rw [eI]; exact Nat.ne_of_lt (Nat.lt_succ_of_lt hlS))) s.heap.objs.size ?_ xs hnd hsz (by omega) (fun i v hv => ?_)
        (items.size - 0) 0 _ (by omega) (Nat.zero_le _) (h0 _ ho') ?_ fun h' tk hS' hk' => ?_
      · rw [eI]
        simp only [List.mem_cons, List.not_mem_nil, or_false, not_or]
        exact ⟨Nat.ne_of_lt (Nat.lt_succ_self _), Nat.ne_of_gt hlS⟩
      · have hi' : i < xs.length := by
          rw [hsz]
          exact (Array.getElem?_eq_some_iff.mp hv).1
        obtain ⟨t, e⟩ := SS.strs_at hi i v (by rw [Array.getElem?_toList]; exact hv)
        refine ⟨xs[i], t, List.getElem?_eq_getElem hi', ?_⟩
        rw [e, List.getD_eq_getElem?_getD, List.getElem?_eq_getElem hi']
        rfl
      · exact SetOf_congr ((setObjOf_fresh (knd := PySem.strKind prog w) led).setOf (Heap.get?_push_of_some _ hS) (by unfold scanBound; omega)) (fun _ => rfl) rfl
      · show wpAny _ _ _ _ _ _
        refine wpAny_pure ?_
        show wpAny _ _ (ret Value.none) _ _ _
        refine wpAny_pure ⟨rfl, h', tk, rfl, by rw [hsz]; exact hS', fun b u e => hk' b u (Nat.ne_of_lt (Heap.lt_size e)) ?_ (Heap.get?_push_of_some _ (Heap.get?_push_of_some _ e))⟩
        rw [eI]
        simp only [List.mem_singleton]
        exact Nat.ne_of_lt (Nat.lt_succ_of_lt (Heap.lt_size e))
    · cases r₂ with
      | error e => exact hr₂
      | ok fl₂ =>
       cases fl₂ with
       | next => exact hr₂.elim
       | brk => exact hr₂.elim
       | cont => exact hr₂.elim
       | ret obj =>
        obtain ⟨e1, h', tk, e2, hS', hk'⟩ := hr₂
        subst e1 e2
        repeat (any_goals (first | assumption | wp_step))
        exact h _ _ hS' hk'
end
section
variable {X : Cx}
/-- len(set(xs)), xs different words -/
def tLenW (K : PySem.W.Frag) (ta : TE) : TE := fun σ H Q => ta σ H fun x H1 => ∃ (l : Addr) (xs : List Str), x = .ref l ∧ (SqL K H1 l (xs.map V.str) ∨ SqT K H1 l (xs.map V.str)) ∧ xs.Nodup ∧ xs.length ≤ 1000 ∧ Q (.int xs.length) H1
theorem pe_lenW {a : Expr} {ta : TE} {p p2 q pos : Pos} (hc : X.calm = true) (hg : Gl X "len") (hm : X.mg "len" = none) (hg2 : Gl X "set") (hm2 : X.mg "set" = none) (ha : PE X a ta)
    (na : starEach [a] X.env = (false, eval a X.env) :: starEach [] X.env := by rfl) : PE X (.Call (.Name "len" p) [.Call (.Name "set" p2) [a] [] q] [] pos) (tLenW X.K ta) := by
  refine ⟨fun pins s σ H Q I h => ?_⟩
  refine Call_ (ld_blt I hg hm boot_len (callWith_builtin1 (args_cons ?_ rfl) rfl rfl))
  refine Call_ (ld_blt I hg2 hm2 boot_set (callWith_type1
    (args_cons (thn (ha.run pins s σ H _ I h) fun v s1 ⟨x, H1, I1, r1, q1⟩ => args_nil ?_) na) na rfl))
  obtain ⟨l, xs, rfl, hq, hnd, hl, q1⟩ := q1
  cases r1
  have fin : ∀ (h' : Heap) (tk : Nat), h'.SetOf (PySem.strKind X.prog X.w) s1.heap.objs.size (SoFar xs xs.length) xs.length → (∀ b u, s1.heap.get? b = some u → h'.get? b = some u) →
      wpAny (model X.prog X.w) X.A (spliced (backTo pos (starEach [] X.env))) (fun vs s₂ => wpAny (model X.prog X.w) X.A (call (.builtin "len") (Value.ref s1.heap.objs.size :: vs)) (EP X pins σ Q) X.xe s₂) X.xe { s1 with heap := h', toks := tk } := by
    intro h' tk hS hk
    refine args_nil ?_
    obtain ⟨o, es, ep, t, ho, hex, hd, _, _, _, hf, hn⟩ := hS
    have I2 : Inv X pins σ H1 { s1 with heap := h', toks := tk } := I1.kept hk
    exact call_len_set ho hex hd hf (by rw [hn] <;> omega) ⟨.int xs.length, H1, I2.tok _, ⟨_, by rw [hn]⟩, q1⟩
  rcases hq with hq | hq
  · obtain ⟨its, r, ⟨o, n, ho, hc', hd', hdat⟩, hz⟩ := I1.list hq
    have hsl : ∀ {h : Heap}, h.get? l = some o → h.IsList l its.toArray := fun e => ⟨o, e, hc', n, hdat⟩
    exact set_words (I1.ok.hd hc) ho hc' hdat PySem.F.sub_list_set PySem.F.sub_list_frozenset (by decide) (fun A' s' Q' E' e q => wpAny_pyIter_list (hsl e) q)
      (fun A' I hA hI => Walks.list hA I l hI its.toArray) (fun h e => ⟨⟨_, Heap.get?_push_size _ rfl, rfl, rfl⟩, (hsl e).push _⟩) hnd hl (by simpa using L2.strsAre_of r) fin
  · obtain ⟨its, r, ⟨o, ho, hc', n, hdat⟩, hz⟩ := I1.tuple hq
    have hsl : ∀ {h : Heap}, h.get? l = some o → h.IsTuple l its.toArray := fun e => ⟨o, e, hc', n, hdat⟩
    exact set_words (I1.ok.hd hc) ho hc' hdat PySem.F.sub_tuple_set PySem.F.sub_tuple_frozenset (by decide) (fun A' s' Q' E' e q => wpAny_pyIter_tuple (hsl e) q)
      (fun A' I hA hI => Walks.tuple hA I l hI its.toArray) (fun h e => ⟨⟨_, Heap.get?_push_size _ rfl, rfl, rfl⟩, (hsl e).push _⟩) hnd hl (by simpa using L2.strsAre_of r) fin
end
end K1

end
section
set_option Elab.async false
set_option linter.all false
set_option maxRecDepth 100000
set_option maxHeartbeats 4000000
namespace K1
open PySem PySem.Spec PyProof.Rows L2
open Classical in
/-- whether pairs lead from a word back to it -/
noncomputable def rb (ps : PSt) (x : Str) : Bool := decide (Reach ps x x)
theorem rb_true {ps : PSt} {x : Str} : rb ps x = true ↔ Reach ps x x := by
  unfold rb
  exact @decide_eq_true_iff _ (Classical.propDecidable _)
theorem rb_mem {ps : PSt} {x : Str} {zs : List Str} (h : ∀ y, y ∈ zs ↔ Reach ps x y) : decide (x ∈ zs) = rb ps x := by
  cases e : rb ps x with
  | true => exact decide_eq_true ((h x).mpr (rb_true.mp e))
  | false => exact decide_eq_false fun z => by rw [rb_true.mpr ((h x).mp z)] at e; cases e
/-- the dict of those above each, made of the words ys, ascending -/
def AbvD (H : Hp) (d : Addr) (ps : PSt) (ys : List Str) : Prop := ∃ kvs : List (Key × V), H d = some (.dK kvs) ∧ kvs.map (·.1) = ys.map Sum.inr ∧
  ∀ p ∈ kvs, ∀ x, p.1 = Sum.inr x → ∃ (l : Addr) (zs : List Str), p.2 = .ref l ∧ H l = some (.lst (zs.map V.str)) ∧ IsAbv ps x zs
/-- what stands in a locked dict, item by item -/
theorem lcI {d : Addr} {o : Obj} {kvs : List (Key × V)} {g : TG} {te : TE} {vs : List Nat} {σ : L2.St} {H1 : Hp} {D : Addr} {Qd : Hp → Prop} (bs : List V) (hl : bs.length = kvs.length) (hz : kvs.length ≤ 1000) (hF : H1 d = some (.frz o (.dK kvs))) (hD : H1 D = none)
    (turn : ∀ (i : Nat) (y : V) (k : Key) (v : V) (T : Addr) (H' : Hp) (Q : VK), kvs[i]? = some (k, v) → bs[i]? = some y → Same H1 H' → H' T = some (.tup [kV k, v]) → (∀ H4, Same H' H4 → Q y H4) → g (.ref T) (wipe σ vs) H' fun σ2 H2 => wipe σ2 vs = wipe σ vs ∧ te σ2 H2 Q)
    (hd : ∀ H', Same H1 H' → H' D = some (.lst bs) → Qd H') :
    ∃ W : Nat → Nat → Hp → Prop, (∃ m, W 0 m (upd H1 D (.lst []))) ∧ ∀ i m H, W i m H →
      ((Iti d o kvs).stop i H ∧ Qd H) ∨ ((Iti d o kvs).go i H ∧ ∃ Nx : Hp → Prop, (∀ H', Nx H' → ∃ m', m' < m ∧ W (i + 1) m' H') ∧ ∀ x H', (Iti d o kvs).yld i H x H' → g x (wipe σ vs) H' fun σ2 H2 => wipe σ2 vs = wipe σ vs ∧ tYes σ2 H2 fun b H3 =>
        if b = true then te σ2 H3 fun y H4 => ∃ acc, H4 D = some (.lst acc) ∧ acc.length < sizeLine ∧ Nx (upd H4 D (.lst (acc ++ [y]))) else Nx H3) :=
  lc_go kvs.length (fun i x H'' => ∃ (T : Addr) (k : Key) (v : V), x = .ref T ∧ kvs[i]? = some (k, v) ∧ H'' T = some (.tup [kV k, v])) bs hl hz hD (fun i H' hi s => ⟨s _ _ hF, hi⟩)
    (fun i x H' H'' hi s q => by
      obtain ⟨T, k, v, e1, e2, hT, e3⟩ := q
      rw [e3]
      exact ⟨Same.new hT _, T, k, v, e2, e1, upd_same⟩)
    (fun H' s => ⟨s _ _ hF, Nat.le_refl _⟩)
    (fun i y x H' Q hy s hx k => by
      obtain ⟨T, k', v, e, h1, hT⟩ := hx
      subst e
      exact turn i y k' v T H' Q h1 hy s hT k) hd
section
variable {P : Program} {w : World} {K : PySem.W.Frag} {mg : Str → Option Value} {base : Heap} {aA aN C : Addr}
abbrev sBas : Stmt := tp 27
abbrev NB : List Str := ["bases", "order", "above", "base", "pair", "found"]
theorem scBas : FnScope NB ["bases", "order"] (defScope sBas) := ⟨rfl, rfl, rfl, by decide +kernel, rfl, by decide +kernel, by decide +kernel⟩
structure KB (mg : Str → Option Value) : Prop where
  gM : ∃ t, mg "MOST_BASES" = some (.int 12 t)
  set : mg "set" = none
  sorted : mg "sorted" = none
  any : mg "any" = none
def spBas (K : PySem.W.Frag) (C : Addr) : Sp := fun vs H Q E => ∃ (b lo : Addr) (B : List Str) (ps : PSt), vs = [.ref b, .ref lo] ∧ SqE K H b (B.map V.str) ∧ 1 ≤ B.length ∧ B.length ≤ 12 ∧ B.Nodup ∧ (∀ x ∈ B, wordB x = true ∧ x.length ≤ 20) ∧
  PrsL K H lo ps ∧ ps.length ≤ 20 ∧ (∀ p ∈ ps, p.1 ∈ B ∧ p.2 ∈ B) ∧ ((∃ x ∈ B, Reach ps x x) → ∀ H', Same H H' → E (.ref C) none H') ∧
  ((∀ x ∈ B, ¬ Reach ps x x) → ∀ (d : Addr) (ys : List Str) (H' : Hp), Same H H' → ys.Perm B → sortedS ys = true → AbvD H' d ps ys → Q (.ref d) H')
theorem ok_bases {k : Nat} {f f1 f2 f3 f4 : Addr} {fd fd1 fd2 fd3 fd4 : FuncData} (F : Fun K "checked_bases" "checked_bases" sBas f fd) (T : KC K mg aA aN) (N : KB mg) (X : XF K mg "BadRoom" C) (hk : 2 ≤ k)
    (G1 : FnOk P w K mg base CX0 1 f1 fd1 ["thing"] (spIsL K)) (b1 : Binds K fd1 ["thing"] []) (k1 : PySem.W.keepIn K (.ref f1) = true) (m1 : mg "is_list" = some (.ref f1))
    (G2 : FnOk P w K mg base CX0 2 f2 fd2 ["thing"] (spWord K)) (b2 : Binds K fd2 ["thing"] []) (k2 : PySem.W.keepIn K (.ref f2) = true) (m2 : mg "is_word" = some (.ref f2))
    (G3 : FnOk P w K mg base CX0 1 f3 fd3 ["thing", "bases"] (spIsP K)) (b3 : Binds K fd3 ["thing", "bases"] []) (k3 : PySem.W.keepIn K (.ref f3) = true) (m3 : mg "is_pair" = some (.ref f3))
    (G4 : FnOk P w K mg base CX0 1 f4 fd4 ["base", "order"] (spAllAb K)) (b4 : Binds K fd4 ["base", "order"] []) (k4 : PySem.W.keepIn K (.ref f4) = true) (m4 : mg "all_above" = some (.ref f4)) :
    FnOk P w K mg base (L2.CX P w) (k + 1) f fd ["bases", "order"] (spBas K C) := by
  refine F.okX scBas (fun vs H Q E h => ?_) (fun cdv A outer s H vs Q E hr h => ?_)
  · obtain ⟨_, _, _, _, rfl, _⟩ := h
    rfl
  obtain ⟨b, lo, B, ps, rfl, hB, h1, h12, hnd, hw, hP, hps, hin, qE, qQ⟩ := h
  obtain ⟨tM, gM⟩ := N.gM
  have hrw : Room 2 _ := hr.mono hk
  have hr1 : Room 1 _ := hr.mono (by omega)
  have fin : ∀ (H4 : Hp), Same H H4 → ∀ (d : Addr) (ys : List Str), ys.Perm B → sortedS ys = true → AbvD H4 d ps ys → (∀ H5, Same H H5 → (ys.map (rb ps)).any id = true → E (.ref C) none H5) ∧ ((ys.map (rb ps)).any id = false → Q (.ref d) H4) := by
    intro H4 s4 d ys hp hs hA
    refine ⟨fun H5 s5 hany => ?_, fun hany => ?_⟩
    · rw [List.any_map] at hany
      obtain ⟨x, hx, hx2⟩ := List.any_eq_true.mp hany
      exact qE ⟨x, hp.mem_iff.mp hx, rb_true.mp hx2⟩ H5 s5
    · refine qQ (fun x hx hr => ?_) d ys H4 s4 hp hs hA
      rw [List.any_map, List.any_eq_false] at hany
      exact hany x (hp.mem_iff.mpr hx) (rb_true.mpr hr)
  rcases hB with hB | hB
  · have hBE : SqE K H b (B.map V.str) := .inl hB
    refine ⟨_, pss_cons (ps_if (PW.pt (pw_or (pt_not (pt_val (pe_call G1 hr1 rfl m1 k1 b1 .nil pass0 (pa_cons (pv 0) pa_nil)))) (pw_or1 (pt_not (pt_chain op_le op_le pe_int (pe_callB call_len_seq rfl T.len PySem.boot_len (pa_cons (pv 0) pa_nil)) (pe_glob (v := .int 12) rfl gM ⟨_, rfl⟩))))))
        (pss_one (ps_bad X rfl (takes_of rfl rfl rfl rfl))) pss_nil)
      (pss_cons (ps_if (PW.pt (pw_or (pt_not (pt_val (pe_callB (cr_all rfl) rfl T.all (by decide +kernel) (pa_cons (pe_lc (own := [("base", 3)]) (g := gName 3) rfl scBas.nd (pi_list (pv 0))
          (blkOk_by (N := NB) (sc := defScope sBas) (by decide +kernel)) (fun _ _ _ _ _ => pg_name (i := 3) scBas.nd rfl (Or.inl rfl)) (fun _ _ _ _ _ => pts_nil) (fun _ _ _ _ _ => pe_call G2 hrw rfl m2 k2 b2 .nil pass0 (pa_cons (pv 3) pa_nil))) pa_nil))))
          (pw_or1 (pt_cmpR op_ne (pe_lenW rfl rfl T.len rfl N.set (pv 0)) (pe_callB call_len_seq rfl T.len PySem.boot_len (pa_cons (pv 0) pa_nil)) (nomark _)))))
        (pss_one (ps_bad X rfl (takes_of rfl rfl rfl rfl))) pss_nil)
      (pss_cons (ps_if (PW.pt (pw_or (pt_not (pt_val (pe_call G1 hr1 rfl m1 k1 b1 .nil pass0 (pa_cons (pv 1) pa_nil)))) (pw_or1 (pt_not (pt_val (pe_callB (cr_all rfl) rfl T.all (by decide +kernel) (pa_cons (pe_lc (own := [("pair", 4)]) (g := gName 4) rfl scBas.nd (pi_list (pv 1))
          (blkOk_by (N := NB) (sc := defScope sBas) (by decide +kernel)) (fun _ _ _ _ _ => pg_name (i := 4) scBas.nd rfl (Or.inl rfl)) (fun _ _ _ _ _ => pts_nil) (fun _ _ _ _ _ => pe_call G3 hr1 rfl m3 k3 b3 .nil pass0 (pa_cons (pv 4) (pa_cons (pv 0) pa_nil)))) pa_nil)))))))
        (pss_one (ps_bad X rfl (takes_of rfl rfl rfl rfl))) pss_nil)
      (pss_cons (ps_setDc (i := 2) (own := [("base", 3)]) (g := gName 3) rfl scBas.nd rfl rfl (swd_true rfl rfl rfl (by decide +kernel)) (pi_list (pe_callB cr_sortedS rfl N.sorted (by decide +kernel) (pa_cons (pv 0) pa_nil)))
          (blkOk_by (N := NB) (sc := defScope sBas) (by decide +kernel)) (fun _ _ _ _ _ => pg_name (i := 3) scBas.nd rfl (Or.inl rfl)) (fun _ _ _ _ _ => pts_nil) (fun _ _ _ _ _ => pv 3) (fun _ _ _ _ _ => pe_call G4 hr1 rfl m4 k4 b4 .nil pass0 (pa_cons (pv 3) (pa_cons (pv 1) pa_nil))))
      (pss_cons (ps_if (pt_val (pe_callB (cr_any rfl) rfl N.any (by decide +kernel) (pa_cons (pe_lock (pe_lc (own := [("base", 3), ("found", 5)]) (g := gTup K 2 (gCons (gName 3) (gCons (gName 5) gNil))) rfl scBas.nd (pi_items (pv 2))
          (blkOk_by (N := NB) (sc := defScope sBas) (by decide +kernel)) (fun _ _ _ _ _ => pg_tup rfl (pgs_cons (pg_name (i := 3) scBas.nd rfl (Or.inl rfl)) (pgs_cons (pg_name (i := 5) scBas.nd rfl (Or.inl rfl)) pgs_nil))) (fun _ _ _ _ _ => pts_nil)
          (fun _ _ _ _ _ => pe_cmpR (r := rIn K false) op_in_seq (pv 3) (pv 5) (by rfl)))) pa_nil)))
        (pss_one (ps_bad X rfl (takes_of rfl rfl rfl rfl))) pss_nil)
      (pss_one (ps_ret (pv 2))))))), ?_⟩
    refine ⟨_, rfl, b, _, rfl, hBE, fun H1 s1 => ⟨_, rfl, iteF ?_⟩⟩
    refine ⟨_, rfl, b, _, rfl, (hBE.same s1), _, _, rfl, rfl, _, rfl, ?_⟩
    rw [List.length_map, decide_eq_true (show (1 : Int) ≤ (B.length : Int) by omega)]
    refine iteT ⟨_, _, rfl, rfl, _, rfl, ?_⟩
    rw [decide_eq_true (show (B.length : Int) ≤ 12 by omega)]
    refine iteF ?_
    refine ⟨_, rfl, b, rfl, ⟨_, (Same.seq s1 hB)⟩, fun D1 hD1 => lcL ((B.map fun _ => true).map V.bl) (by simp) (by rw [List.length_map]; omega) (Same.seq s1 hB) hD1 (fun i y x H' Q' hx hy s k => ?_) fun H2 s2 hL2 => ?_⟩
    · rw [List.getElem?_map] at hx hy
      rw [List.getElem?_map] at hy
      cases ex : B[i]? with
      | none => rw [ex] at hx; cases hx
      | some z =>
        rw [ex] at hx hy
        cases hx
        cases hy
        obtain ⟨w1, w2⟩ := hw z (List.mem_of_getElem? ex)
        refine ⟨rfl, _, rfl, .str z, .str z, rfl, .str z, by simp only [tinyD]; exact decide_eq_true w2, fun H4 s4 => ?_⟩
        show Q' (.bl (wordB z)) H4
        rw [w1]
        exact k H4 s4
    have s12 := s1.trans s2
    refine ⟨D1, _, rfl, SqL.of hL2, _, rfl, ?_⟩
    rw [show (B.map fun _ => true).all id = true by simp]
    refine iteF ?_
    refine ⟨_, rfl, b, B, rfl, (.inl (Same.seq s12 hB)), hnd, by omega, _, rfl, b, _, rfl, (hBE.same s12), rfl, _, rfl, ?_⟩
    rw [List.length_map, show (!decide (V.int (B.length : Nat) = V.int (B.length : Nat))) = false by simp]
    refine iteF ?_
    obtain ⟨cs, hC, hCl, hCp⟩ := hP
    refine ⟨_, rfl, lo, _, rfl, .inl (s12.seq hC), fun H3 s3 => ⟨_, rfl, iteF ?_⟩⟩
    have s13 := s12.trans s3
    refine ⟨_, rfl, lo, rfl, ⟨_, s13.seq hC⟩, fun D2 hD2 => lcL ((cs.map fun _ => true).map V.bl) (by simp) (by rw [List.length_map]; omega) (s13.seq hC) hD2 (fun i y x H' Q' hx hy s k => ?_) fun H4 s4 hL4 => ?_⟩
    · rw [List.getElem?_map] at hx hy
      rw [List.getElem?_map] at hy
      cases ec : cs[i]? with
      | none => rw [ec] at hx; cases hx
      | some c =>
        rw [ec] at hx hy
        cases hx
        cases hy
        have hi : i < ps.length := by rw [← hCl]; exact (List.getElem?_eq_some_iff.mp ec).1
        have hp : ps[i]? = some ps[i] := List.getElem?_eq_getElem hi
        have s14 := s13.trans s
        exact ⟨rfl, _, rfl, _, rfl, c, b, ps[i], B, rfl, Same.tup s14 (hCp i c _ ec hp), hBE.same s14, (hin _ (List.getElem_mem hi)).1, (hin _ (List.getElem_mem hi)).2, k H' (Same.refl H')⟩
    have s14 := s13.trans s4
    refine ⟨D2, _, rfl, SqL.of hL4, _, rfl, ?_⟩
    rw [show (cs.map fun _ => true).all id = true by simp]
    refine iteF ?_
    refine ⟨_, rfl, b, B, rfl, (Same.seq s14 hB), by omega, fun ys p hperm hsort hp => ?_⟩
    have s5 := Same.new hp (.lst (ys.map V.str))
    have s15 := s14.trans s5
    have hlenY : ys.length ≤ 12 := by rw [hperm.length_eq]; exact h12
    refine ⟨p, rfl, ⟨_, SqL.of upd_same⟩, fun D3 hD3 => dcL (xs := ys) (fun x v H' => ∃ (l : Addr) (zs : List Str), v = .ref l ∧ l ≠ D3 ∧ H' l = some (.lst (zs.map V.str)) ∧ IsAbv ps x zs) (by omega) (hperm.nodup_iff.mpr hnd) (SqL.of upd_same) hD3
      (fun x v H' H'' ⟨l, zs, e, n, h, a⟩ s => ⟨l, zs, e, n, s _ _ h, a⟩) (fun x v H' o _ ⟨l, zs, e, n, h, a⟩ => ⟨l, zs, e, n, by rw [upd_ne n]; exact h, a⟩) (fun x H' Q' hx s ⟨kv0, hk0⟩ k => ?_) fun kvs H5 s5' hK hks hR => ?_⟩
    · have s16 := s15.trans s
      refine ⟨rfl, _, rfl, _, rfl, _, rfl, x, lo, ps, rfl, ⟨cs, s16.seq hC, hCl, fun i c p e1 e2 => Same.tup s16 (hCp i c p e1 e2)⟩, hps, fun zs l H'' s'' hl ha => ?_⟩
      exact k _ H'' s'' ⟨l, zs, rfl, ne_of hl (s'' _ _ hk0) (fun z => by cases z), hl, ha⟩
    have s16 := s15.trans s5'
    have hA : AbvD H5 D3 ps ys := ⟨kvs, hK, hks, fun p hp x hx => by
      obtain ⟨l, zs, e, _, h, a⟩ := hR p hp x hx
      exact ⟨l, zs, e, h, a⟩⟩
    have hlk : kvs.length = ys.length := by
      have e := congrArg List.length hks
      rw [List.length_map, List.length_map] at e
      exact e
    obtain ⟨fE, fQ⟩ := fin H5 s16 D3 ys hperm hsort hA
    refine ⟨D3, .dK kvs, hK, trivial, fun od => ?_⟩
    have sL : ∀ b o, b ≠ D3 → H5 b = some o → upd H5 D3 (.frz od (.dK kvs)) b = some o := fun b o n h => by rw [upd_ne n]; exact h
    refine ⟨_, rfl, D3, od, kvs, rfl, upd_same, fun D4 hD4 => lcI ((ys.map (rb ps)).map V.bl) (by rw [List.length_map, List.length_map, hlk]) (by omega) upd_same hD4 (fun i y kk v T4 H' Q' hkv hy s hT k => ?_) fun H6 s6 hL6 => ?_⟩
    · have hki : (kvs.map (·.1))[i]? = some kk := by rw [List.getElem?_map, hkv]; rfl
      rw [hks, List.getElem?_map] at hki
      rw [List.getElem?_map, List.getElem?_map] at hy
      cases ey : ys[i]? with
      | none => rw [ey] at hki; cases hki
      | some x =>
        rw [ey] at hki hy
        cases hki
        cases hy
        obtain ⟨l, zs, e, n, h, a⟩ := hR _ (List.mem_of_getElem? hkv) x rfl
        have e' : v = .ref l := e
        subst e'
        have hl := s _ _ (sL l _ n h)
        refine ⟨T4, _, rfl, SqT.of hT, rfl, _, _, rfl, _, _, rfl, rfl, rfl, ?_⟩
        refine ⟨_, rfl, _, rfl, l, zs.map V.str, rfl, .inl (SqL.of hl), rfl, flat_strs zs, ?_⟩
        rw [if_neg Bool.false_ne_true, show inV (kV (Sum.inr x)) (zs.map V.str) = decide (x ∈ zs) from in_strs x zs, rb_mem a.2.2]
        exact k H' (Same.refl H')
    · have hne : D4 ≠ D3 := fun z => by rw [z, upd_same] at hD4; cases hD4
      have s7 : Same H5 (upd H6 D3 (.dK kvs)) := fun b o h => by
        by_cases hb : b = D3
        · rw [hb] at h ⊢
          rw [upd_same, ← h, hK]
        · rw [upd_ne hb]
          exact s6 _ _ (sL b o hb h)
      refine ⟨s6 _ _ upd_same, D4, _, rfl, SqL.of (by rw [upd_ne hne]; exact hL6), _, rfl, ite2 (fun z => ?_) (fun z => ?_)⟩
      · exact fE _ (s16.trans s7) z
      · refine ⟨_, rfl, ?_⟩
        exact (fin _ (s16.trans s7) D3 ys hperm hsort ⟨kvs, upd_same, hks, fun p hp x hx => by
          obtain ⟨l, zs, e, n, h, a⟩ := hR p hp x hx
          exact ⟨l, zs, e, s7 _ _ h, a⟩⟩).2 (Bool.eq_false_iff.mpr z)
  · have hBE : SqE K H b (B.map V.str) := .inr hB
    refine ⟨_, pss_cons (ps_if (PW.pt (pw_or (pt_not (pt_val (pe_call G1 hr1 rfl m1 k1 b1 .nil pass0 (pa_cons (pv 0) pa_nil)))) (pw_or1 (pt_not (pt_chain op_le op_le pe_int (pe_callB call_len_seq rfl T.len PySem.boot_len (pa_cons (pv 0) pa_nil)) (pe_glob (v := .int 12) rfl gM ⟨_, rfl⟩))))))
        (pss_one (ps_bad X rfl (takes_of rfl rfl rfl rfl))) pss_nil)
      (pss_cons (ps_if (PW.pt (pw_or (pt_not (pt_val (pe_callB (cr_all rfl) rfl T.all (by decide +kernel) (pa_cons (pe_lc (own := [("base", 3)]) (g := gName 3) rfl scBas.nd (pi_tup (pv 0))
          (blkOk_by (N := NB) (sc := defScope sBas) (by decide +kernel)) (fun _ _ _ _ _ => pg_name (i := 3) scBas.nd rfl (Or.inl rfl)) (fun _ _ _ _ _ => pts_nil) (fun _ _ _ _ _ => pe_call G2 hrw rfl m2 k2 b2 .nil pass0 (pa_cons (pv 3) pa_nil))) pa_nil))))
          (pw_or1 (pt_cmpR op_ne (pe_lenW rfl rfl T.len rfl N.set (pv 0)) (pe_callB call_len_seq rfl T.len PySem.boot_len (pa_cons (pv 0) pa_nil)) (nomark _)))))
        (pss_one (ps_bad X rfl (takes_of rfl rfl rfl rfl))) pss_nil)
      (pss_cons (ps_if (PW.pt (pw_or (pt_not (pt_val (pe_call G1 hr1 rfl m1 k1 b1 .nil pass0 (pa_cons (pv 1) pa_nil)))) (pw_or1 (pt_not (pt_val (pe_callB (cr_all rfl) rfl T.all (by decide +kernel) (pa_cons (pe_lc (own := [("pair", 4)]) (g := gName 4) rfl scBas.nd (pi_list (pv 1))
          (blkOk_by (N := NB) (sc := defScope sBas) (by decide +kernel)) (fun _ _ _ _ _ => pg_name (i := 4) scBas.nd rfl (Or.inl rfl)) (fun _ _ _ _ _ => pts_nil) (fun _ _ _ _ _ => pe_call G3 hr1 rfl m3 k3 b3 .nil pass0 (pa_cons (pv 4) (pa_cons (pv 0) pa_nil)))) pa_nil)))))))
        (pss_one (ps_bad X rfl (takes_of rfl rfl rfl rfl))) pss_nil)
      (pss_cons (ps_setDc (i := 2) (own := [("base", 3)]) (g := gName 3) rfl scBas.nd rfl rfl (swd_true rfl rfl rfl (by decide +kernel)) (pi_list (pe_callB cr_sortST rfl N.sorted (by decide +kernel) (pa_cons (pv 0) pa_nil)))
          (blkOk_by (N := NB) (sc := defScope sBas) (by decide +kernel)) (fun _ _ _ _ _ => pg_name (i := 3) scBas.nd rfl (Or.inl rfl)) (fun _ _ _ _ _ => pts_nil) (fun _ _ _ _ _ => pv 3) (fun _ _ _ _ _ => pe_call G4 hr1 rfl m4 k4 b4 .nil pass0 (pa_cons (pv 3) (pa_cons (pv 1) pa_nil))))
      (pss_cons (ps_if (pt_val (pe_callB (cr_any rfl) rfl N.any (by decide +kernel) (pa_cons (pe_lock (pe_lc (own := [("base", 3), ("found", 5)]) (g := gTup K 2 (gCons (gName 3) (gCons (gName 5) gNil))) rfl scBas.nd (pi_items (pv 2))
          (blkOk_by (N := NB) (sc := defScope sBas) (by decide +kernel)) (fun _ _ _ _ _ => pg_tup rfl (pgs_cons (pg_name (i := 3) scBas.nd rfl (Or.inl rfl)) (pgs_cons (pg_name (i := 5) scBas.nd rfl (Or.inl rfl)) pgs_nil))) (fun _ _ _ _ _ => pts_nil)
          (fun _ _ _ _ _ => pe_cmpR (r := rIn K false) op_in_seq (pv 3) (pv 5) (by rfl)))) pa_nil)))
        (pss_one (ps_bad X rfl (takes_of rfl rfl rfl rfl))) pss_nil)
      (pss_one (ps_ret (pv 2))))))), ?_⟩
    refine ⟨_, rfl, b, _, rfl, hBE, fun H1 s1 => ⟨_, rfl, iteF ?_⟩⟩
    refine ⟨_, rfl, b, _, rfl, (hBE.same s1), _, _, rfl, rfl, _, rfl, ?_⟩
    rw [List.length_map, decide_eq_true (show (1 : Int) ≤ (B.length : Int) by omega)]
    refine iteT ⟨_, _, rfl, rfl, _, rfl, ?_⟩
    rw [decide_eq_true (show (B.length : Int) ≤ 12 by omega)]
    refine iteF ?_
    refine ⟨_, rfl, b, rfl, ⟨_, (Same.tup s1 hB)⟩, fun D1 hD1 => lcT ((B.map fun _ => true).map V.bl) (by simp) (by rw [List.length_map]; omega) (Same.tup s1 hB) hD1 (fun i y x H' Q' hx hy s k => ?_) fun H2 s2 hL2 => ?_⟩
    · rw [List.getElem?_map] at hx hy
      rw [List.getElem?_map] at hy
      cases ex : B[i]? with
      | none => rw [ex] at hx; cases hx
      | some z =>
        rw [ex] at hx hy
        cases hx
        cases hy
        obtain ⟨w1, w2⟩ := hw z (List.mem_of_getElem? ex)
        refine ⟨rfl, _, rfl, .str z, .str z, rfl, .str z, by simp only [tinyD]; exact decide_eq_true w2, fun H4 s4 => ?_⟩
        show Q' (.bl (wordB z)) H4
        rw [w1]
        exact k H4 s4
    have s12 := s1.trans s2
    refine ⟨D1, _, rfl, SqL.of hL2, _, rfl, ?_⟩
    rw [show (B.map fun _ => true).all id = true by simp]
    refine iteF ?_
    refine ⟨_, rfl, b, B, rfl, (.inr (Same.tup s12 hB)), hnd, by omega, _, rfl, b, _, rfl, (hBE.same s12), rfl, _, rfl, ?_⟩
    rw [List.length_map, show (!decide (V.int (B.length : Nat) = V.int (B.length : Nat))) = false by simp]
    refine iteF ?_
    obtain ⟨cs, hC, hCl, hCp⟩ := hP
    refine ⟨_, rfl, lo, _, rfl, .inl (s12.seq hC), fun H3 s3 => ⟨_, rfl, iteF ?_⟩⟩
    have s13 := s12.trans s3
    refine ⟨_, rfl, lo, rfl, ⟨_, s13.seq hC⟩, fun D2 hD2 => lcL ((cs.map fun _ => true).map V.bl) (by simp) (by rw [List.length_map]; omega) (s13.seq hC) hD2 (fun i y x H' Q' hx hy s k => ?_) fun H4 s4 hL4 => ?_⟩
    · rw [List.getElem?_map] at hx hy
      rw [List.getElem?_map] at hy
      cases ec : cs[i]? with
      | none => rw [ec] at hx; cases hx
      | some c =>
        rw [ec] at hx hy
        cases hx
        cases hy
        have hi : i < ps.length := by rw [← hCl]; exact (List.getElem?_eq_some_iff.mp ec).1
        have hp : ps[i]? = some ps[i] := List.getElem?_eq_getElem hi
        have s14 := s13.trans s
        exact ⟨rfl, _, rfl, _, rfl, c, b, ps[i], B, rfl, Same.tup s14 (hCp i c _ ec hp), hBE.same s14, (hin _ (List.getElem_mem hi)).1, (hin _ (List.getElem_mem hi)).2, k H' (Same.refl H')⟩
    have s14 := s13.trans s4
    refine ⟨D2, _, rfl, SqL.of hL4, _, rfl, ?_⟩
    rw [show (cs.map fun _ => true).all id = true by simp]
    refine iteF ?_
    refine ⟨_, rfl, b, B, rfl, (Same.tup s14 hB), by omega, fun ys p hperm hsort hp => ?_⟩
    have s5 := Same.new hp (.lst (ys.map V.str))
    have s15 := s14.trans s5
    have hlenY : ys.length ≤ 12 := by rw [hperm.length_eq]; exact h12
    refine ⟨p, rfl, ⟨_, SqL.of upd_same⟩, fun D3 hD3 => dcL (xs := ys) (fun x v H' => ∃ (l : Addr) (zs : List Str), v = .ref l ∧ l ≠ D3 ∧ H' l = some (.lst (zs.map V.str)) ∧ IsAbv ps x zs) (by omega) (hperm.nodup_iff.mpr hnd) (SqL.of upd_same) hD3
      (fun x v H' H'' ⟨l, zs, e, n, h, a⟩ s => ⟨l, zs, e, n, s _ _ h, a⟩) (fun x v H' o _ ⟨l, zs, e, n, h, a⟩ => ⟨l, zs, e, n, by rw [upd_ne n]; exact h, a⟩) (fun x H' Q' hx s ⟨kv0, hk0⟩ k => ?_) fun kvs H5 s5' hK hks hR => ?_⟩
    · have s16 := s15.trans s
      refine ⟨rfl, _, rfl, _, rfl, _, rfl, x, lo, ps, rfl, ⟨cs, s16.seq hC, hCl, fun i c p e1 e2 => Same.tup s16 (hCp i c p e1 e2)⟩, hps, fun zs l H'' s'' hl ha => ?_⟩
      exact k _ H'' s'' ⟨l, zs, rfl, ne_of hl (s'' _ _ hk0) (fun z => by cases z), hl, ha⟩
    have s16 := s15.trans s5'
    have hA : AbvD H5 D3 ps ys := ⟨kvs, hK, hks, fun p hp x hx => by
      obtain ⟨l, zs, e, _, h, a⟩ := hR p hp x hx
      exact ⟨l, zs, e, h, a⟩⟩
    have hlk : kvs.length = ys.length := by
      have e := congrArg List.length hks
      rw [List.length_map, List.length_map] at e
      exact e
    obtain ⟨fE, fQ⟩ := fin H5 s16 D3 ys hperm hsort hA
    refine ⟨D3, .dK kvs, hK, trivial, fun od => ?_⟩
    have sL : ∀ b o, b ≠ D3 → H5 b = some o → upd H5 D3 (.frz od (.dK kvs)) b = some o := fun b o n h => by rw [upd_ne n]; exact h
    refine ⟨_, rfl, D3, od, kvs, rfl, upd_same, fun D4 hD4 => lcI ((ys.map (rb ps)).map V.bl) (by rw [List.length_map, List.length_map, hlk]) (by omega) upd_same hD4 (fun i y kk v T4 H' Q' hkv hy s hT k => ?_) fun H6 s6 hL6 => ?_⟩
    · have hki : (kvs.map (·.1))[i]? = some kk := by rw [List.getElem?_map, hkv]; rfl
      rw [hks, List.getElem?_map] at hki
      rw [List.getElem?_map, List.getElem?_map] at hy
      cases ey : ys[i]? with
      | none => rw [ey] at hki; cases hki
      | some x =>
        rw [ey] at hki hy
        cases hki
        cases hy
        obtain ⟨l, zs, e, n, h, a⟩ := hR _ (List.mem_of_getElem? hkv) x rfl
        have e' : v = .ref l := e
        subst e'
        have hl := s _ _ (sL l _ n h)
        refine ⟨T4, _, rfl, SqT.of hT, rfl, _, _, rfl, _, _, rfl, rfl, rfl, ?_⟩
        refine ⟨_, rfl, _, rfl, l, zs.map V.str, rfl, .inl (SqL.of hl), rfl, flat_strs zs, ?_⟩
        rw [if_neg Bool.false_ne_true, show inV (kV (Sum.inr x)) (zs.map V.str) = decide (x ∈ zs) from in_strs x zs, rb_mem a.2.2]
        exact k H' (Same.refl H')
    · have hne : D4 ≠ D3 := fun z => by rw [z, upd_same] at hD4; cases hD4
      have s7 : Same H5 (upd H6 D3 (.dK kvs)) := fun b o h => by
        by_cases hb : b = D3
        · rw [hb] at h ⊢
          rw [upd_same, ← h, hK]
        · rw [upd_ne hb]
          exact s6 _ _ (sL b o hb h)
      refine ⟨s6 _ _ upd_same, D4, _, rfl, SqL.of (by rw [upd_ne hne]; exact hL6), _, rfl, ite2 (fun z => ?_) (fun z => ?_)⟩
      · exact fE _ (s16.trans s7) z
      · refine ⟨_, rfl, ?_⟩
        exact (fin _ (s16.trans s7) D3 ys hperm hsort ⟨kvs, upd_same, hks, fun p hp x hx => by
          obtain ⟨l, zs, e, n, h, a⟩ := hR p hp x hx
          exact ⟨l, zs, e, s7 _ _ h, a⟩⟩).2 (Bool.eq_false_iff.mpr z)
end
end K1

end
section
set_option Elab.async false
set_option linter.all false
set_option maxRecDepth 100000
set_option maxHeartbeats 4000000
namespace K1
open PySem PySem.Spec PyProof.Rows L2
/-- nothing to go through -/
theorem lc_none {J : It} {g : TG} {tt : TT} {te : TE} {vs : List Nat} {σ : L2.St} {H1 : Hp} {D : Addr} {Qd : Hp → Prop} (stop : J.stop 0 (upd H1 D (.lst []))) (hd : Qd (upd H1 D (.lst []))) :
    ∃ W : Nat → Nat → Hp → Prop, (∃ m, W 0 m (upd H1 D (.lst []))) ∧ ∀ i m H, W i m H →
      (J.stop i H ∧ Qd H) ∨ (J.go i H ∧ ∃ Nx : Hp → Prop, (∀ H', Nx H' → ∃ m', m' < m ∧ W (i + 1) m' H') ∧ ∀ x H', J.yld i H x H' → g x (wipe σ vs) H' fun σ2 H2 => wipe σ2 vs = wipe σ vs ∧ tt σ2 H2 fun b H3 =>
        if b = true then te σ2 H3 fun y H4 => ∃ acc, H4 D = some (.lst acc) ∧ acc.length < sizeLine ∧ Nx (upd H4 D (.lst (acc ++ [y]))) else Nx H3) :=
  ⟨fun i m H => i = 0 ∧ H = upd H1 D (.lst []), ⟨0, rfl, rfl⟩, by rintro i m H ⟨rfl, rfl⟩; exact .inl ⟨stop, hd⟩⟩
theorem dc_none {J : It} {g : TG} {tt : TT} {tk tv : TE} {vs : List Nat} {σ : L2.St} {H1 : Hp} {D : Addr} {Qd : Hp → Prop} (stop : J.stop 0 (upd H1 D (.dK []))) (hd : Qd (upd H1 D (.dK []))) :
    ∃ W : Nat → Nat → Hp → Prop, (∃ m, W 0 m (upd H1 D (.dK []))) ∧ ∀ i m H, W i m H → (J.stop i H ∧ Qd H) ∨ (J.go i H ∧ ∃ Nx : Hp → Prop, (∀ H', Nx H' → ∃ m', m' < m ∧ W (i + 1) m' H') ∧ ∀ x H', J.yld i H x H' →
      g x (wipe σ vs) H' fun σ2 H2 => wipe σ2 vs = wipe σ vs ∧ tt σ2 H2 fun b H3 => if b = true then tk σ2 H3 fun y H4 => tv σ2 H4 fun z H5 => ∃ kvs k, y = kV k ∧ H5 D = some (.dK kvs) ∧ kvs.length < sizeLine ∧ Nx (upd H5 D (.dK (putK kvs k z))) else Nx H3) :=
  ⟨fun i m H => i = 0 ∧ H = upd H1 D (.dK []), ⟨0, rfl, rfl⟩, by rintro i m H ⟨rfl, rfl⟩; exact .inl ⟨stop, hd⟩⟩
section
variable {P : Program} {w : World} {K : PySem.W.Frag} {mg : Str → Option Value} {base : Heap} {aA aN C : Addr}
abbrev sHas : Stmt := tp 31
theorem scHas : FnScope ["kind", "above", "_", "inner"] ["kind", "above"] (defScope sHas) := ⟨rfl, rfl, rfl, by decide +kernel, rfl, by decide +kernel, by decide +kernel⟩
/-- a base type of the room, or the record without fields -/
def HasB (K : PySem.W.Frag) (H : Hp) (v : V) (d : PyData) (dA : Addr) : Prop := (∃ a wd kvs, v = .ref a ∧ d = baseD wd ∧ SqT K H a [.str "base", .str wd] ∧ H dA = some (.dK kvs) ∧ (valV kvs (Sum.inr wd)).isSome = true) ∨
  ∃ a b, v = .ref a ∧ d = recD [] ∧ SqT K H a [.str "record", .ref b] ∧ SqT K H b []
theorem HasB.same {H H' : Hp} {v : V} {d : PyData} {dA : Addr} (s : Same H H') (h : HasB K H v d dA) : HasB K H' v d dA := by
  rcases h with ⟨a, wd, kvs, e, e2, h1, h2, h3⟩ | ⟨a, b, e, e2, h1, h2⟩
  · exact .inl ⟨a, wd, kvs, e, e2, Same.tup s h1, s _ _ h2, h3⟩
  · exact .inr ⟨a, b, e, e2, Same.tup s h1, Same.tup s h2⟩
def spHas (K : PySem.W.Frag) : Sp := fun vs H Q _ => ∃ v d dA, vs = [v, .ref dA] ∧ HasB K H v d dA ∧ ∀ H', Same H H' → Q (.bl true) H'
theorem ok_has {f : Addr} {fd : FuncData} (F : Fun K "has_bases" "has_bases" sHas f fd) (mA : mg "all" = none) : FnOk P w K mg base CX0 1 f fd ["kind", "above"] (spHas K) := by
  refine F.ok scHas (fun vs H Q E h => ?_) (fun cdv A outer s H vs Q E hr h => ?_)
  · obtain ⟨_, _, _, rfl, _⟩ := h
    rfl
  obtain ⟨v, d, dA, rfl, hB, q⟩ := h
  refine ⟨_, pss_cons (ps_if (pt_cmpR (op_eqD hr.units) (pe_ix ix_tup (pv 0) pe_int (fun _ _ => rfl)) pe_str (nomark _)) (pss_one (ps_ret (pe_cmp (pc_din (hu_of hr) (pe_ix ix_tup (pv 0) pe_int (fun _ _ => rfl)) (pv 1)) rfl))) pss_nil)
    (pss_one (ps_ret (pe_callB (cr_all rfl) rfl mA (by decide +kernel) (pa_cons (pe_lc (own := [("_", 2), ("inner", 3)]) (g := gTup K 2 (gCons (gName 2) (gCons (gName 3) gNil))) (te := tNev) rfl scHas.nd (pi_tup (pe_ix ix_tup (pv 0) pe_int (fun _ _ => rfl)))
      (blkOk_by (N := ["kind", "above", "_", "inner"]) (sc := defScope sHas) (by decide +kernel)) (fun _ _ _ _ _ => pg_tup rfl (pgs_cons (pg_name (i := 2) scHas.nd rfl (Or.inl rfl)) (pgs_cons (pg_name (i := 3) scHas.nd rfl (Or.inl rfl)) pgs_nil)))
      (fun _ _ _ _ _ => pts_nil) (fun _ _ _ _ _ => pe_never)) pa_nil)))), ?_⟩
  have sb : SeqAt.shaped (.str "base") = true := by decide +kernel
  have sr : SeqAt.shaped (.str "record") = true := by decide +kernel
  rcases hB with ⟨a, wd, kvs, rfl, rfl, hS, hK, hv⟩ | ⟨a, b, rfl, rfl, hS, hS2⟩
  · refine ⟨_, rfl, a, _, 0, .str "base", rfl, rfl, hS, rfl, .str "base", .str "base", .str _, .str _, sb, sb, _, rfl, iteT ?_⟩
    refine ⟨_, rfl, a, _, 1, .str wd, rfl, rfl, hS, rfl, _, rfl, dA, _, rfl, DGet.k (k := Sum.inr wd) hK, ?_⟩
    rw [hv]
    exact q H (Same.refl H)
  · refine ⟨_, rfl, a, _, 0, .str "record", rfl, rfl, hS, rfl, .str "record", .str "base", .str _, .str _, sr, sb, _, rfl, iteF ?_⟩
    refine ⟨_, rfl, a, _, 1, .ref b, rfl, rfl, hS, rfl, b, rfl, ⟨[], hS2⟩, fun D hD => lc_none (by exact ⟨[], Same.tup (Same.new hD _) hS2, Nat.le_refl _⟩) (by exact ⟨D, [], rfl, SqL.of upd_same, q _ (Same.new hD _)⟩)⟩
abbrev sChT : Stmt := tp 30
theorem scChT : FnScope ["kind", "above"] ["kind", "above"] (defScope sChT) := ⟨rfl, rfl, rfl, by decide +kernel, rfl, by decide +kernel, by decide +kernel⟩
def spChT (K : PySem.W.Frag) : Sp := fun vs H Q _ => ∃ v d dA, vs = [v, .ref dA] ∧ HasB K H v d dA ∧ Dp K H v d ∧ Fine d ∧ isNest 8 d = true ∧ ∀ H', Same H H' → Q v H'
theorem ok_cht {k : Nat} {f f1 f2 : Addr} {fd fd1 fd2 : FuncData} (F : Fun K "checked_type" "checked_type" sChT f fd) (hk : 1 ≤ k)
    (G1 : FnOk P w K mg base CX0 k f1 fd1 ["thing"] (spType K)) (b1 : Binds K fd1 ["thing"] []) (k1 : PySem.W.keepIn K (.ref f1) = true) (m1 : mg "is_type" = some (.ref f1))
    (G2 : FnOk P w K mg base CX0 1 f2 fd2 ["kind", "above"] (spHas K)) (b2 : Binds K fd2 ["kind", "above"] []) (k2 : PySem.W.keepIn K (.ref f2) = true) (m2 : mg "has_bases" = some (.ref f2)) :
    FnOk P w K mg base CX0 (k + 1) f fd ["kind", "above"] (spChT K) := by
  refine F.ok scChT (fun vs H Q E h => ?_) (fun cdv A outer s H vs Q E hr h => ?_)
  · obtain ⟨_, _, _, rfl, _⟩ := h
    rfl
  obtain ⟨v, d, dA, rfl, hB, hd, hf, hn, q⟩ := h
  refine ⟨_, pss_cons (ps_if (PW.pt (pw_or (pt_not (pt_val (pe_call G1 hr rfl m1 k1 b1 .nil pass0 (pa_cons (pv 0) pa_nil)))) (pw_or1 (pt_not (pt_val (pe_call G2 (hr.mono hk) rfl m2 k2 b2 .nil pass0 (pa_cons (pv 0) (pa_cons (pv 1) pa_nil))))))))
    (pss_one ps_never) pss_nil) (pss_one (ps_ret (pv 0))), ?_⟩
  refine ⟨_, rfl, v, d, rfl, hd, hf, fun H1 s1 => ⟨_, rfl, ?_⟩⟩
  rw [hn]
  refine iteF ⟨_, rfl, _, rfl, v, d, dA, rfl, hB.same s1, fun H2 s2 => ⟨_, rfl, iteF ?_⟩⟩
  exact ⟨_, rfl, q H2 (s1.trans s2)⟩
theorem pe_dicT {X : Cx} {p : Pos} (hm : X.mg "dict" = none) (hg : Gl X "dict" := by rfl) : PE X (.Name "dict" p) (tC (.ty "dict")) := pe_bltn hg hm (by decide +kernel) rfl
abbrev sNam : Stmt := tp 32
theorem scNam : FnScope ["names", "above", "name"] ["names", "above"] (defScope sNam) := ⟨rfl, rfl, rfl, by decide +kernel, rfl, by decide +kernel, by decide +kernel⟩
def spNam : Sp := fun vs H Q _ => ∃ (dn : Addr) (v : V), vs = [.ref dn, v] ∧ H dn = some (.dK []) ∧ ∀ (d : Addr) (H' : Hp), Same H H' → H' d = some (.dK []) → Q (.ref d) H'
structure KR (mg : Str → Option Value) : Prop where
  gN : ∃ t, mg "MOST_NAMES" = some (.int 20 t)
  gF : ∃ t, mg "MOST_FUNCTIONS" = some (.int 20 t)
  dict : mg "dict" = none
theorem lock_back {H H2 : Hp} {d : Addr} {u : HO} {od : Obj} (hd : H d = some u) (s : Same (upd H d (.frz od u)) H2) : Same H (upd H2 d u) := fun b o h => by
  by_cases hb : b = d
  · rw [hb] at h ⊢
    rw [upd_same, ← h, hd]
  · rw [upd_ne hb]
    exact s _ _ (by rw [upd_ne hb]; exact h)
theorem ok_nam {f : Addr} {fd : FuncData} (F : Fun K "checked_names" "checked_names" sNam f fd) (T : KC K mg aA aN) (N : KB mg) (R : KR mg) : FnOk P w K mg base CX0 1 f fd ["names", "above"] spNam := by
  refine F.ok scNam (fun vs H Q E h => ?_) (fun cdv A outer s H vs Q E hr h => ?_)
  · obtain ⟨_, _, rfl, _⟩ := h
    rfl
  obtain ⟨dn, v, rfl, hdn, q⟩ := h
  obtain ⟨tN, gN⟩ := R.gN
  refine ⟨_, pss_cons (ps_if (PW.pt (pw_or (pt_not (pt_val (pe_callB call_isi rfl T.isi (by decide +kernel) (pa_cons (pv 0) (pa_cons (pe_dicT R.dict) pa_nil))))) (pw_or1 (pt_cmpR op_gt (pe_callB call_lenD rfl T.len PySem.boot_len (pa_cons (pv 0) pa_nil)) (pe_glob (v := .int 20) rfl gN ⟨_, rfl⟩) (nomark _)))))
      (pss_one ps_never) pss_nil)
    (pss_cons (ps_if (pt_not (pt_val (pe_callB (cr_all rfl) rfl T.all (by decide +kernel) (pa_cons (pe_lock (pe_lc (own := [("name", 2)]) (g := gName 2) (te := tNev) rfl scNam.nd (pi_keys (pv 0))
      (blkOk_by (N := ["names", "above", "name"]) (sc := defScope sNam) (by decide +kernel)) (fun _ _ _ _ _ => pg_name (i := 2) scNam.nd rfl (Or.inl rfl)) (fun _ _ _ _ _ => pts_nil) (fun _ _ _ _ _ => pe_never))) pa_nil)))) (pss_one ps_never) pss_nil)
    (pss_one (ps_ret (pe_dc (own := [("name", 2)]) (g := gName 2) (tk := tNev) (tv := tNev) rfl scNam.nd (pi_list (pe_callB (call_sortedD rfl) rfl N.sorted (by decide +kernel) (pa_cons (pv 0) pa_nil)))
      (blkOk_by (N := ["names", "above", "name"]) (sc := defScope sNam) (by decide +kernel)) (fun _ _ _ _ _ => pg_name (i := 2) scNam.nd rfl (Or.inl rfl)) (fun _ _ _ _ _ => pts_nil) (fun _ _ _ _ _ => pe_never) (fun _ _ _ _ _ => pe_never))))), ?_⟩
  refine ⟨_, rfl, .ref dn, .ty "dict", .type "dict", .type "dict", true, rfl, .ty _, .base (.dK hdn), kit_ty (by decide +kernel), _, rfl, iteF ?_⟩
  refine ⟨_, rfl, dn, [], rfl, hdn, _, _, rfl, rfl, _, rfl, iteF ?_⟩
  refine ⟨dn, .dK [], hdn, trivial, fun od => ?_⟩
  refine ⟨_, rfl, dn, od, rfl, .inl ⟨[], upd_same, fun D hD => ?_⟩⟩
  have hne : dn ≠ D := fun z => by rw [← z, upd_same] at hD; cases hD
  refine lc_none ?_ ?_
  · exact ⟨by rw [upd_ne hne]; exact upd_same, Nat.le_refl _⟩
  refine ⟨by rw [upd_ne hne]; exact upd_same, D, [], rfl, SqL.of (by rw [upd_ne hne.symm]; exact upd_same), _, rfl, iteF ?_⟩
  have s1 : Same H (upd (upd (upd H dn (.frz od (.dK []))) D (.lst [])) dn (.dK [])) := lock_back hdn (Same.new hD _)
  refine ⟨_, rfl, dn, [], [], rfl, .inl upd_same, rfl, by decide, fun ys p hp _ hnew => ?_⟩
  have e := hp.length_eq
  have ey : ys = [] := List.length_eq_zero_iff.mp e
  subst ey
  refine ⟨p, rfl, ⟨[], SqL.of upd_same⟩, fun D2 hD2 => dc_none (by exact ⟨[], (Same.new hD2 _).seq (SqL.of upd_same), Nat.le_refl _⟩) ?_⟩
  exact q D2 _ ((s1.trans (Same.new hnew _)).trans (Same.new hD2 _)) upd_same
abbrev sFus : Stmt := tp 33
abbrev NF : List Str := ["functions", "names", "above", "function"]
theorem scFus : FnScope NF ["functions", "names", "above"] (defScope sFus) := ⟨rfl, rfl, rfl, by decide +kernel, rfl, by decide +kernel, by decide +kernel⟩
def spFus : Sp := fun vs H Q _ => ∃ (dn : Addr) (v u : V), vs = [.ref dn, v, u] ∧ H dn = some (.dK []) ∧ ∀ (d : Addr) (H' : Hp), Same H H' → H' d = some (.dK []) → Q (.ref d) H'
theorem ok_fus {f : Addr} {fd : FuncData} (F : Fun K "checked_functions" "checked_functions" sFus f fd) (T : KC K mg aA aN) (N : KB mg) (R : KR mg) : FnOk P w K mg base CX0 1 f fd ["functions", "names", "above"] spFus := by
  refine F.ok scFus (fun vs H Q E h => ?_) (fun cdv A outer s H vs Q E hr h => ?_)
  · obtain ⟨_, _, _, rfl, _⟩ := h
    rfl
  obtain ⟨dn, v, u, rfl, hdn, q⟩ := h
  obtain ⟨tN, gN⟩ := R.gF
  refine ⟨_, pss_cons (ps_if (PW.pt (pw_or (pt_not (pt_val (pe_callB call_isi rfl T.isi (by decide +kernel) (pa_cons (pv 0) (pa_cons (pe_dicT R.dict) pa_nil))))) (pw_or1 (pt_cmpR op_gt (pe_callB call_lenD rfl T.len PySem.boot_len (pa_cons (pv 0) pa_nil)) (pe_glob (v := .int 20) rfl gN ⟨_, rfl⟩) (nomark _)))))
      (pss_one ps_never) pss_nil)
    (pss_cons (ps_if (pt_not (pt_val (pe_callB (cr_all rfl) rfl T.all (by decide +kernel) (pa_cons (pe_lock (pe_lc (own := [("function", 3)]) (g := gName 3) (te := tNev) rfl scFus.nd (pi_keys (pv 0))
      (blkOk_by (N := NF) (sc := defScope sFus) (by decide +kernel)) (fun _ _ _ _ _ => pg_name (i := 3) scFus.nd rfl (Or.inl rfl)) (fun _ _ _ _ _ => pts_nil) (fun _ _ _ _ _ => pe_never))) pa_nil)))) (pss_one ps_never) pss_nil)
    (pss_one (ps_ret (pe_dc (own := [("function", 3)]) (g := gName 3) (tk := tNev) (tv := tNev) rfl scFus.nd (pi_list (pe_callB (call_sortedD rfl) rfl N.sorted (by decide +kernel) (pa_cons (pv 0) pa_nil)))
      (blkOk_by (N := NF) (sc := defScope sFus) (by decide +kernel)) (fun _ _ _ _ _ => pg_name (i := 3) scFus.nd rfl (Or.inl rfl)) (fun _ _ _ _ _ => pts_nil) (fun _ _ _ _ _ => pe_never) (fun _ _ _ _ _ => pe_never))))), ?_⟩
  refine ⟨_, rfl, .ref dn, .ty "dict", .type "dict", .type "dict", true, rfl, .ty _, .base (.dK hdn), kit_ty (by decide +kernel), _, rfl, iteF ?_⟩
  refine ⟨_, rfl, dn, [], rfl, hdn, _, _, rfl, rfl, _, rfl, iteF ?_⟩
  refine ⟨dn, .dK [], hdn, trivial, fun od => ?_⟩
  refine ⟨_, rfl, dn, od, rfl, .inl ⟨[], upd_same, fun D hD => ?_⟩⟩
  have hne : dn ≠ D := fun z => by rw [← z, upd_same] at hD; cases hD
  refine lc_none ?_ ?_
  · exact ⟨by rw [upd_ne hne]; exact upd_same, Nat.le_refl _⟩
  refine ⟨by rw [upd_ne hne]; exact upd_same, D, [], rfl, SqL.of (by rw [upd_ne hne.symm]; exact upd_same), _, rfl, iteF ?_⟩
  have s1 : Same H (upd (upd (upd H dn (.frz od (.dK []))) D (.lst [])) dn (.dK [])) := lock_back hdn (Same.new hD _)
  refine ⟨_, rfl, dn, [], [], rfl, .inl upd_same, rfl, by decide, fun ys p hp _ hnew => ?_⟩
  have e := hp.length_eq
  have ey : ys = [] := List.length_eq_zero_iff.mp e
  subst ey
  refine ⟨p, rfl, ⟨[], SqL.of upd_same⟩, fun D2 hD2 => dc_none (by exact ⟨[], (Same.new hD2 _).seq (SqL.of upd_same), Nat.le_refl _⟩) ?_⟩
  exact q D2 _ ((s1.trans (Same.new hnew _)).trans (Same.new hD2 _)) upd_same
end
end K1

end
section
set_option Elab.async false
set_option linter.all false
set_option maxRecDepth 100000
set_option maxHeartbeats 4000000
namespace K1
open PySem PySem.Spec PyProof.Rows L2
/-- all but p stays -/
abbrev But (p : Addr) (H H' : Hp) : Prop := Aft H H' p
/-- a room's own attributes -/
def RoomFs (dA dn df : Addr) (g : V) : List (Str × V) := [("above", .ref dA), ("names", .ref dn), ("functions", .ref df), ("goal", g)]
/-- an instance of the class at C, above its base types ys, no names, no functions -/
def RoomAt (H : Hp) (C p : Addr) (ps : PSt) (ys : List Str) (g : V) : Prop := ∃ (dx dA dn df : Addr), H p = some (.ins C dx (RoomFs dA dn df g)) ∧ AbvD H dA ps ys ∧ H dn = some (.dK []) ∧ H df = some (.dK [])
theorem AbvD.same {H H' : Hp} {d : Addr} {ps : PSt} {ys : List Str} (s : Same H H') (h : AbvD H d ps ys) : AbvD H' d ps ys := by
  obtain ⟨kvs, h1, h2, h3⟩ := h
  exact ⟨kvs, s _ _ h1, h2, fun p hp x hx => by
    obtain ⟨l, zs, e, q, a⟩ := h3 p hp x hx
    exact ⟨l, zs, e, s _ _ q, a⟩⟩
theorem RoomAt.same {H H' : Hp} {C p : Addr} {ps : PSt} {ys : List Str} {g : V} (s : Same H H') (h : RoomAt H C p ps ys g) : RoomAt H' C p ps ys g := by
  obtain ⟨dx, dA, dn, df, h1, h2, h3, h4⟩ := h
  exact ⟨dx, dA, dn, df, s _ _ h1, h2.same s, s _ _ h3, s _ _ h4⟩
structure RT (K : PySem.W.Frag) (C : Addr) : Prop where
  cl : Cls K C
  nA : NoAttr K C "above"
  nN : NoAttr K C "names"
  nF : NoAttr K C "functions"
  nG : NoAttr K C "goal"
section
variable {P : Program} {w : World} {K : PySem.W.Frag} {mg : Str → Option Value} {base : Heap} {aA aN C CR : Addr}
abbrev sInit : Stmt := inClass (tp 24) 0
abbrev NI : List Str := ["self", "bases", "order", "names", "functions", "goal"]
theorem scInit : FnScope NI NI (defScope sInit) := ⟨rfl, rfl, rfl, by decide +kernel, rfl, by decide +kernel, by decide +kernel⟩
/-- what a room may be made of -/
structure Mkb (K : PySem.W.Frag) (H : Hp) (b lo : Addr) (B : List Str) (ps : PSt) : Prop where
  b : SqE K H b (B.map V.str)
  l1 : 1 ≤ B.length
  l12 : B.length ≤ 12
  nd : B.Nodup
  w : ∀ x ∈ B, wordB x = true ∧ x.length ≤ 20
  p : PrsL K H lo ps
  l20 : ps.length ≤ 20
  sub : ∀ p ∈ ps, p.1 ∈ B ∧ p.2 ∈ B
def spInit (K : PySem.W.Frag) (C CR : Addr) : Sp := fun vs H Q E => ∃ (p dx b lo dn0 df0 : Addr) (B : List Str) (ps : PSt) (g : V) (gd : PyData), vs = [.ref p, .ref b, .ref lo, .ref dn0, .ref df0, g] ∧ H p = some (.ins CR dx []) ∧
  Mkb K H b lo B ps ∧ H dn0 = some (.dK []) ∧ H df0 = some (.dK []) ∧ Dp K H g gd ∧ Fine gd ∧ isNest 8 gd = true ∧
  ((∃ a wd, g = .ref a ∧ gd = baseD wd ∧ SqT K H a [.str "base", .str wd] ∧ wd ∈ B) ∨ ∃ a b, g = .ref a ∧ gd = recD [] ∧ SqT K H a [.str "record", .ref b] ∧ SqT K H b []) ∧
  ((∃ x ∈ B, Reach ps x x) → ∀ H', But p H H' → E (.ref C) none H') ∧
  ((∀ x ∈ B, ¬ Reach ps x x) → ∀ (ys : List Str) (H' : Hp), But p H H' → ys.Perm B → sortedS ys = true → RoomAt H' CR p ps ys g → Q .non H')
theorem But.upd {p : Addr} {H H' : Hp} {o : HO} (h : But p H H') : But p H (upd H' p o) := fun x u n q => by
  rw [upd_ne n]
  exact h x u n q
theorem But.of {p : Addr} {H H' : Hp} (s : Same H H') : But p H H' := fun x u _ q => s x u q
theorem But.tr {p : Addr} {H H' H2 : Hp} (h : But p H H') (s : Same H' H2) : But p H H2 := fun x u n q => s _ _ (h x u n q)
theorem but_tup {p : Addr} {H H' : Hp} {K : PySem.W.Frag} {a dx C0 : Addr} {fs : List (Str × V)} {xs : List V} (hp : H p = some (.ins C0 dx fs)) (h : But p H H') (hS : SqT K H a xs) : SqT K H' a xs := by
  rcases hS with (q | ⟨o, q⟩) | q
  · exact .inl (.inl (h _ _ (ne_of q hp fun z => by cases z) q))
  · exact .inl (.inr ⟨o, h _ _ (ne_of q hp fun z => by cases z) q⟩)
  · exact .inr q
theorem but_seq {p : Addr} {H H' : Hp} {K : PySem.W.Frag} {a dx C0 : Addr} {fs : List (Str × V)} {xs : List V} (hp : H p = some (.ins C0 dx fs)) (h : But p H H') (hS : SqL K H a xs) : SqL K H' a xs := by
  rcases hS with (q | ⟨o, q⟩) | q
  · exact .inl (.inl (h _ _ (ne_of q hp fun z => by cases z) q))
  · exact .inl (.inr ⟨o, h _ _ (ne_of q hp fun z => by cases z) q⟩)
  · exact .inr q
mutual
theorem but_dp {p : Addr} {H H' : Hp} {K : PySem.W.Frag} {dx C0 : Addr} {fs : List (Str × V)} (hp : H p = some (.ins C0 dx fs)) (h : But p H H') : ∀ {v : V} {d : PyData}, Dp K H v d → Dp K H' v d
  | _, _, .non => .non
  | _, _, .bl b => .bl b
  | _, _, .int i => .int i
  | _, _, .str x => .str x
  | _, _, .lst q t => .lst (but_seq hp h q) (but_dpAll hp h t)
  | _, _, .tup q t => .tup (but_tup hp h q) (but_dpAll hp h t)
theorem but_dpAll {p : Addr} {H H' : Hp} {K : PySem.W.Frag} {dx C0 : Addr} {fs : List (Str × V)} (hp : H p = some (.ins C0 dx fs)) (h : But p H H') : ∀ {vs : List V} {ds : List PyData}, DpAll K H vs ds → DpAll K H' vs ds
  | _, _, .nil => .nil
  | _, _, .cons q t => .cons (but_dp hp h q) (but_dpAll hp h t)
end
theorem but_abv {p : Addr} {H H' : Hp} {d dx C0 : Addr} {fs : List (Str × V)} {ps : PSt} {ys : List Str} (hp : H p = some (.ins C0 dx fs)) (h : But p H H') (hA : AbvD H d ps ys) : AbvD H' d ps ys := by
  obtain ⟨kvs, h1, h2, h3⟩ := hA
  exact ⟨kvs, h _ _ (ne_of h1 hp fun z => by cases z) h1, h2, fun q hq x hx => by
    obtain ⟨l, zs, e, hl, a⟩ := h3 q hq x hx
    exact ⟨l, zs, e, h _ _ (ne_of hl hp fun z => by cases z) hl, a⟩⟩
theorem abv_some {H : Hp} {kvs : List (Key × V)} {ys : List Str} (hk : kvs.map (·.1) = ys.map Sum.inr) {x : Str} (hx : x ∈ ys) : (valV kvs (Sum.inr x)).isSome = true := by
  rw [← valV_any, List.any_eq_true]
  have hm : (Sum.inr x : Key) ∈ kvs.map (·.1) := by
    rw [hk]
    exact List.mem_map.mpr ⟨x, hx, rfl⟩
  obtain ⟨p, hp, e⟩ := List.mem_map.mp hm
  exact ⟨p, hp, decide_eq_true e⟩
theorem ok_init {k kb : Nat} {f f1 f2 f3 f4 : Addr} {fd fd1 fd2 fd3 fd4 : FuncData} (F : Fun K "__init__" "Room.__init__" sInit f fd) (T : RT K CR) (hk : kb ≤ k) (hk1 : 1 ≤ k)
    (G1 : FnOk P w K mg base (L2.CX P w) kb f1 fd1 ["bases", "order"] (spBas K C)) (b1 : Binds K fd1 ["bases", "order"] []) (k1 : PySem.W.keepIn K (.ref f1) = true) (m1 : mg "checked_bases" = some (.ref f1))
    (G2 : FnOk P w K mg base CX0 1 f2 fd2 ["names", "above"] spNam) (b2 : Binds K fd2 ["names", "above"] []) (k2 : PySem.W.keepIn K (.ref f2) = true) (m2 : mg "checked_names" = some (.ref f2))
    (G3 : FnOk P w K mg base CX0 1 f3 fd3 ["functions", "names", "above"] spFus) (b3 : Binds K fd3 ["functions", "names", "above"] []) (k3 : PySem.W.keepIn K (.ref f3) = true) (m3 : mg "checked_functions" = some (.ref f3))
    (G4 : FnOk P w K mg base CX0 k f4 fd4 ["kind", "above"] (spChT K)) (b4 : Binds K fd4 ["kind", "above"] []) (k4 : PySem.W.keepIn K (.ref f4) = true) (m4 : mg "checked_type" = some (.ref f4)) :
    FnOk P w K mg base (L2.CX P w) (k + 1) f fd NI (spInit K C CR) := by
  refine F.okX scInit (fun vs H Q E h => ?_) (fun cdv A outer s H vs Q E hr h => ?_)
  · obtain ⟨_, _, _, _, _, _, _, _, _, _, rfl, _⟩ := h
    rfl
  obtain ⟨p, dx, b, lo, dn0, df0, B, ps, g, gd, rfl, hp, ⟨hb, h1, h12, hnd, hw, hP, hps, hin⟩, hn0, hf0, hg, hgf, hgn, hgc, qE, qQ⟩ := h
  have hr1 : Room 1 _ := hr.mono hk1
  refine ⟨_, pss_cons (ps_fld (pv 0) (pe_call G1 (hr.mono hk) rfl m1 k1 b1 .nil (passes_call (takes_of rfl rfl rfl rfl) (fun _ _ _ _ z => z)) (pa_cons (pv 1) (pa_cons (pv 2) pa_nil))) rfl)
    (pss_cons (ps_fld (pv 0) (pe_call G2 hr1 rfl m2 k2 b2 .nil pass0 (pa_cons (pv 3) (pa_cons (pe_fld (pv 0) rfl) pa_nil))) rfl)
    (pss_cons (ps_fld (pv 0) (pe_call G3 hr1 rfl m3 k3 b3 .nil pass0 (pa_cons (pv 4) (pa_cons (pe_fld (pv 0) rfl) (pa_cons (pe_fld (pv 0) rfl) pa_nil)))) rfl)
    (pss_one (ps_fld (pv 0) (pe_call G4 hr rfl m4 k4 b4 .nil pass0 (pa_cons (pv 5) (pa_cons (pe_fld (pv 0) rfl) pa_nil))) rfl)))), ?_⟩
  refine ⟨_, rfl, _, rfl, b, lo, B, ps, rfl, hb, h1, h12, hnd, hw, hP, hps, hin, fun hring H' s => qE hring H' (But.of s), fun hno dA ys H1 s1 hperm hsort hA => ?_⟩
  have hp1 := s1 _ _ hp
  refine ⟨_, rfl, p, CR, dx, [], rfl, hp1, T.cl, T.nA, (by show 0 < 1000; decide), ?_⟩
  have u1 : But p H (upd H1 p (.ins CR dx [("above", .ref dA)])) := (But.of s1).upd
  have hn1 := u1 _ _ (ne_of hn0 hp fun z => by cases z) hn0
  refine ⟨_, rfl, _, rfl, p, CR, dx, _, .ref dA, rfl, upd_same, T.cl, T.nA, rfl, dn0, .ref dA, rfl, hn1, fun dn H2 s2 hdn => ?_⟩
  have hp2 := s2 _ _ (upd_same (H := H1) (a := p) (o := .ins CR dx [("above", .ref dA)]))
  refine ⟨_, rfl, p, CR, dx, _, rfl, hp2, T.cl, T.nN, (by show 1 < 1000; decide), ?_⟩
  have u2 : But p H (upd H2 p (.ins CR dx [("above", .ref dA), ("names", .ref dn)])) := (u1.tr s2).upd
  have hf2 := u2 _ _ (ne_of hf0 hp fun z => by cases z) hf0
  refine ⟨_, rfl, _, rfl, p, CR, dx, _, .ref dn, rfl, upd_same, T.cl, T.nN, rfl, _, rfl, p, CR, dx, _, .ref dA, rfl, upd_same, T.cl, T.nA, rfl, df0, .ref dn, .ref dA, rfl, hf2, fun df H3 s3 hdf => ?_⟩
  have hp3 := s3 _ _ (upd_same (H := H2) (a := p) (o := .ins CR dx [("above", .ref dA), ("names", .ref dn)]))
  refine ⟨_, rfl, p, CR, dx, _, rfl, hp3, T.cl, T.nF, (by show 2 < 1000; decide), ?_⟩
  have u3 : But p H (upd H3 p (.ins CR dx [("above", .ref dA), ("names", .ref dn), ("functions", .ref df)])) := (u2.tr s3).upd
  -- what was made before stays
  have v1 : But p H1 (upd H1 p (.ins CR dx [("above", .ref dA)])) := (But.of (Same.refl H1)).upd
  have hA1 := but_abv hp1 v1 hA
  have hA2 := hA1.same s2
  have v2 : But p H2 (upd H2 p (.ins CR dx [("above", .ref dA), ("names", .ref dn)])) := (But.of (Same.refl H2)).upd
  have hA3 := (but_abv hp2 v2 hA2).same s3
  have hdn3 := s3 _ _ (v2 _ _ (ne_of hdn hp2 fun z => by cases z) hdn)
  have v3 : But p H3 (upd H3 p (.ins CR dx [("above", .ref dA), ("names", .ref dn), ("functions", .ref df)])) := (But.of (Same.refl H3)).upd
  have hA4 := but_abv hp3 v3 hA3
  have hdn4 := v3 _ _ (ne_of hdn3 hp3 fun z => by cases z) hdn3
  have hdf4 := v3 _ _ (ne_of hdf hp3 fun z => by cases z) hdf
  obtain ⟨kvs, hK, hks, hR⟩ := id hA4
  have hHB : HasB K (upd H3 p (.ins CR dx [("above", .ref dA), ("names", .ref dn), ("functions", .ref df)])) g gd dA := by
    rcases hgc with ⟨a, wd, rfl, rfl, hS, hwd⟩ | ⟨a, b', rfl, rfl, hS, hS2⟩
    · exact .inl ⟨a, wd, kvs, rfl, rfl, but_tup hp u3 hS, hK, abv_some (H := H) hks (hperm.mem_iff.mpr hwd)⟩
    · exact .inr ⟨a, b', rfl, rfl, but_tup hp u3 hS, but_tup hp u3 hS2⟩
  refine ⟨_, rfl, _, rfl, p, CR, dx, _, .ref dA, rfl, upd_same, T.cl, T.nA, rfl, g, gd, dA, rfl, hHB, but_dp hp u3 hg, hgf, hgn, fun H4 s4 => ?_⟩
  have hp4 := s4 _ _ (upd_same (H := H3) (a := p) (o := .ins CR dx [("above", .ref dA), ("names", .ref dn), ("functions", .ref df)]))
  refine ⟨_, rfl, p, CR, dx, _, rfl, hp4, T.cl, T.nG, (by show 3 < 1000; decide), ?_⟩
  have v4 : But p H4 (upd H4 p (.ins CR dx (RoomFs dA dn df g))) := (But.of (Same.refl H4)).upd
  refine qQ hno ys _ (u3.tr s4).upd hperm hsort ⟨dx, dA, dn, df, upd_same, but_abv hp4 v4 (hA4.same s4), v4 _ _ (ne_of (s4 _ _ hdn4) hp4 fun z => by cases z) (s4 _ _ hdn4), v4 _ _ (ne_of (s4 _ _ hdf4) hp4 fun z => by cases z) (s4 _ _ hdf4)⟩
end
end K1

end
section
set_option Elab.async false
set_option linter.all false
set_option maxRecDepth 100000
set_option maxHeartbeats 4000000
namespace K1
open PySem PyProof.Rows
/-! ### a sorted list is told by its members -/
abbrev leS (x y : Str) : Prop := x.cps.toList ≤ y.cps.toList
theorem le_of_not {x y : Str} (h : Spec.ltCps y.cps.toList x.cps.toList = false) : leS x y := by
  have h2 : ¬ y.cps.toList < x.cps.toList := by
    rw [ltCps_eq] at h
    exact of_decide_eq_false h
  exact List.not_lt.mp h2
theorem rise_pw : ∀ (r : List Str) (p : Str), risingS p r = true → (p :: r).Pairwise leS
  | [], p, _ => List.pairwise_singleton _ _
  | x :: r, p, h => by
    have h' : (!Spec.ltCps x.cps.toList p.cps.toList && risingS x r) = true := h
    rw [Bool.and_eq_true, Bool.not_eq_true'] at h'
    have ih := rise_pw r x h'.2
    have hp : leS p x := le_of_not h'.1
    refine List.pairwise_cons.mpr ⟨fun y hy => ?_, ih⟩
    rcases List.mem_cons.mp hy with e | e
    · rw [e]
      exact hp
    · exact List.le_trans hp ((List.pairwise_cons.mp ih).1 y e)
theorem sort_pw {l : List Str} (h : sortedS l = true) : l.Pairwise leS := by
  cases l with
  | nil => exact .nil
  | cons x r => exact rise_pw r x h
theorem sort_one {a b : List Str} (ha : sortedS a = true) (hb : sortedS b = true) (hp : a.Perm b) : a = b :=
  hp.eq_of_pairwise (fun x y _ _ h1 h2 => by
    have e : x.cps.toList = y.cps.toList := List.le_antisymm h1 h2
    cases x with
    | mk x =>
      cases y with
      | mk y => exact congrArg Str.mk (Array.toList_inj.mp e)) (sort_pw ha) (sort_pw hb)
theorem sort_same {a b : List Str} (ha : sortedS a = true) (hb : sortedS b = true) (na : a.Nodup) (nb : b.Nodup) (h : ∀ x, x ∈ a ↔ x ∈ b) : a = b :=
  sort_one ha hb ((List.perm_ext_iff_of_nodup na nb).mpr h)
end K1

end
section
set_option Elab.async false
set_option linter.all false
set_option maxRecDepth 100000
set_option maxHeartbeats 4000000
namespace K1
open PySem PySem.Spec PyProof.Rows L2
/-! ### two dicts whose values are data: != -/
inductive HitsV (K : PySem.W.Frag) (H : Hp) (ls : List (Key × V)) : List (Key × V) → Bool → Prop
  | nil : HitsV K H ls [] true
  | miss {k : Key} {v : V} {r : List (Key × V)} : valV ls k = none → HitsV K H ls ((k, v) :: r) false
  | hit {k : Key} {v y : V} {d e : PyData} {r : List (Key × V)} {b : Bool} : valV ls k = some y → Dp K H v d → Dp K H y e → SeqAt.shaped d = true → SeqAt.shaped e = true → HitsV K H ls r b → HitsV K H ls ((k, v) :: r) (PyData.eqv d e && b)
section
variable {X : Cx}
theorem hits_of {pins : List (Addr × Obj)} {σ : L2.St} {H : Hp} {s : Shared} (I : Inv X pins σ H s) {A : Around} (hu : A.in1.units + 64 < cLine) {ls : List (Key × V)} {vb : List (Key × Value)} (rb : KV ls vb) :
    ∀ {ks : List (Key × V)} {va : List (Key × Value)} {r : Bool}, KV ks va → HitsV X.K H ls ks r → PySem.W.KeqHits A.in1 s vb va r := by
  intro ks va r ra h
  induction h generalizing va with
  | nil =>
    cases ra
    exact .nil
  | @miss k v r hn =>
    unfold KV at ra
    cases ra with
    | @cons _ q _ qs h1 h2 =>
      obtain ⟨k', u⟩ := q
      have e : k = k' := h1.1
      subst e
      have rr : RelO none (valueAt vb k) := by rw [← hn]; exact rb.val k
      exact .miss (by cases ev : valueAt vb k with
        | none => rfl
        | some z => rw [ev] at rr; exact False.elim rr)
  | @hit k v y d e r b hv hd he sd se _ ih =>
    unfold KV at ra
    cases ra with
    | @cons _ q _ qs h1 h2 =>
      obtain ⟨k', u⟩ := q
      have ek : k = k' := h1.1
      subst ek
      have rr : RelO (some y) (valueAt vb k) := by rw [← hv]; exact rb.val k
      obtain ⟨z, hz, rz⟩ := rr.some_of
      obtain ⟨as, r1⟩ := Dp.reads I d v u hd h1.2
      obtain ⟨bs, r2⟩ := Dp.reads I e y z he rz
      exact .hit hz (PySem.W.keq_at r1 r2 sd se hu) (ih h2)
def rNeDV (K : PySem.W.Frag) : R2 := fun x y H Q => ∃ a b ks ls r, x = .ref a ∧ y = .ref b ∧ H a = some (.dK ks) ∧ H b = some (.dK ls) ∧ (ks.length = ls.length → HitsV K H ls ks r) ∧ Q (.bl (!(ks.length == ls.length && r))) H
theorem op_neDV (hu : X.A.units + 65 < cLine) : OpR X (compareOp .NotEq) (rNeDV X.K) := by
  intro pins s σ H x y v u Q I rx ry h
  obtain ⟨a, b, ks, ls, r, rfl, rfl, ea, eb, hh, q⟩ := h
  cases (show v = Value.ref a from rx)
  cases (show u = Value.ref b from ry)
  obtain ⟨_, ya, va, ra, da⟩ : ObjOk X.prog X.w H s.heap a (.dK ks) := I.hok a _ ea
  obtain ⟨_, yb, vb, rb, db⟩ : ObjOk X.prog X.w H s.heap b (.dK ls) := I.hok b _ eb
  have hl : (va.length == vb.length) = (ks.length == ls.length) := by rw [← ra.length, ← rb.length]
  refine PySem.W.keq_ne (knd := mixKind X.prog X.w) (r := r) ya yb da db (by omega)
    (fun e => hits_of I (A := X.A) (by show X.A.units + 1 + 64 < cLine; omega) rb ra (hh (by rw [ra.length, rb.length]; exact e))) (fin_bl I q (by rw [hl]))
end
/-! ### a list of words as data -/
theorem dp_words {K : PySem.W.Frag} {H : Hp} {l : Addr} {zs : List Str} (h : H l = some (.lst (zs.map V.str))) : Dp K H (.ref l) (.list (zs.map PyData.str)) := by
  refine .lst (SqL.of h) ?_
  clear h
  induction zs with
  | nil => exact .nil
  | cons z zs ih => exact .cons (.str z) ih
theorem eqv_words (zs : List Str) : PyData.eqv (.list (zs.map PyData.str)) (.list (zs.map PyData.str)) = true := by
  show PyData.eqvAll (zs.map PyData.str) (zs.map PyData.str) = true
  induction zs with
  | nil => rfl
  | cons z zs ih =>
    show ((z == z) && PyData.eqvAll (zs.map PyData.str) (zs.map PyData.str)) = true
    rw [ih, beq_self_eq_true]
    rfl
theorem shaped_words {zs : List Str} (h : ∀ z ∈ zs, PyData.strOk z = true) : SeqAt.shaped (.list (zs.map PyData.str)) = true := by
  refine shaped_mk ?_ ?_
  · simp only [PyData.canLay0]
    refine lay_mem fun d hd => ?_
    obtain ⟨z, hz, e⟩ := List.mem_map.mp hd
    subst e
    exact lay_str (h z hz)
  · simp only [PyData.depth]
    have : PyData.depthAll (zs.map PyData.str) ≤ 0 := depth_mem fun d hd => by
      obtain ⟨z, _, e⟩ := List.mem_map.mp hd
      subst e
      simp only [PyData.depth]
      exact Nat.le_refl _
    omega
theorem hits_same {K : PySem.W.Frag} {H : Hp} {ps qs : PSt} (hr : ∀ x y, Reach ps x y ↔ Reach qs x y) (hok : ∀ x y, Reach ps x y → PyData.strOk y = true) {ls : List (Key × V)}
    (hls : ∀ p ∈ ls, ∀ x, p.1 = Sum.inr x → ∃ (l : Addr) (zs : List Str), p.2 = .ref l ∧ H l = some (.lst (zs.map V.str)) ∧ IsAbv qs x zs) :
    ∀ {ks : List (Key × V)}, (∀ p ∈ ks, ∃ x, p.1 = Sum.inr x ∧ ∃ y, valV ls p.1 = some y) → (∀ p ∈ ks, ∀ x, p.1 = Sum.inr x → ∃ (l : Addr) (zs : List Str), p.2 = .ref l ∧ H l = some (.lst (zs.map V.str)) ∧ IsAbv ps x zs) → HitsV K H ls ks true
  | [], _, _ => .nil
  | (k, v) :: r, h1, h2 => by
    obtain ⟨x, e, y, hy⟩ := h1 _ List.mem_cons_self
    have e' : k = Sum.inr x := e
    subst e'
    obtain ⟨l, zs, ev, hl, a1, a2, a3⟩ := h2 _ List.mem_cons_self x rfl
    have hym : ((Sum.inr x : Key), y) ∈ ls := by
      have hy' : valV ls (Sum.inr x) = some y := hy
      unfold valV at hy'
      cases ef : ls.find? (fun kv => decide (kv.1 = Sum.inr x)) with
      | none => rw [ef] at hy'; cases hy'
      | some p =>
        rw [ef] at hy'
        have h3 := List.mem_of_find?_eq_some ef
        have h4 : p.1 = Sum.inr x := by simpa using List.find?_some ef
        have h5 : p.2 = y := Option.some.inj hy'
        obtain ⟨p1, p2⟩ := p
        simp only at h4 h5
        rw [← h4, ← h5]
        exact h3
    obtain ⟨l2, zs2, ev2, hl2, b1, b2, b3⟩ := hls _ hym x rfl
    have ez : zs2 = zs := sort_same b1 a1 b2 a2 fun z => (b3 z).trans ((hr x z).symm.trans (a3 z).symm)
    subst ez
    have ev' : v = .ref l := ev
    have ey' : y = .ref l2 := ev2
    subst ev' ey'
    have sh : SeqAt.shaped (.list (zs2.map PyData.str)) = true := shaped_words fun z hz => hok x z ((a3 z).mp hz)
    have := HitsV.hit (k := (Sum.inr x : Key)) hy (dp_words (K := K) hl) (dp_words (K := K) hl2) sh sh (hits_same hr hok hls (fun p hp => h1 p (List.mem_cons_of_mem _ hp)) fun p hp => h2 p (List.mem_cons_of_mem _ hp))
    rw [eqv_words, Bool.true_and] at this
    exact this
section
variable {P : Program} {w : World} {K : PySem.W.Frag} {mg : Str → Option Value} {base : Heap} {aA aN C CR : Addr}
abbrev sEqM : Stmt := inClass (tp 24) 1
theorem scEqM : FnScope ["self", "other"] ["self", "other"] (defScope sEqM) := ⟨rfl, rfl, rfl, by decide +kernel, rfl, by decide +kernel, by decide +kernel⟩
/-- what isinstance(other, Room) asks of the class -/
structure RI (K : PySem.W.Frag) (mg : Str → Option Value) (C : Addr) : Prop where
  g : mg "Room" = some (.ref C)
  ha : PySem.W.findIn K (.ref C) "__class__" = some (some (.builtin "object.__class__"))
  hn : PySem.W.specialIn K (.builtin "object.__class__") "__get__" = some (some (.builtin "getset_descriptor.__get__"))
  ht : PySem.W.takesIn K (.builtin "object.__class__") = some true
  hm : PySem.W.mroIn K C (.type "object") = some true
  kit : PySem.W.kitOne K (.ref C) (.ref C) = some true
/-- two rooms that are told the same way, or one whose words are others -/
def SameR (K : PySem.W.Frag) (H : Hp) (CR a b : Addr) : Prop := ∃ (ps qs : PSt) (ys : List Str) (g g2 : V) (d d2 : PyData), RoomAt H CR a ps ys g ∧ RoomAt H CR b qs ys g2 ∧ (∀ x y, Reach ps x y ↔ Reach qs x y) ∧ (∀ x y, Reach ps x y → PyData.strOk y = true) ∧
  Dp K H g d ∧ Dp K H g2 d2 ∧ SeqAt.shaped d = true ∧ SeqAt.shaped d2 = true ∧ PyData.eqv d d2 = true
def OtherR (H : Hp) (CR a b : Addr) : Prop := ∃ (ps qs : PSt) (ys zs : List Str) (g g2 : V), RoomAt H CR a ps ys g ∧ RoomAt H CR b qs zs g2 ∧ ys ≠ [] ∧ ∀ x ∈ ys, x ∉ zs
def spEqM (K : PySem.W.Frag) (CR : Addr) : Sp := fun vs H Q _ => ∃ a b, vs = [.ref a, .ref b] ∧ ((SameR K H CR a b ∧ ∀ H', Same H H' → Q (.bl true) H') ∨ (OtherR H CR a b ∧ ∀ H', Same H H' → Q (.bl false) H'))
theorem ok_eqm {f : Addr} {fd : FuncData} (F : Fun K "__eq__" "Room.__eq__" sEqM f fd) (mI : mg "isinstance" = none) (T : RT K CR) (R : RI K mg CR) : FnOk P w K mg base CX0 1 f fd ["self", "other"] (spEqM K CR) := by
  refine F.ok scEqM (fun vs H Q E h => ?_) (fun cdv A outer s H vs Q E hr h => ?_)
  · obtain ⟨_, _, rfl, _⟩ := h
    rfl
  obtain ⟨a, b, rfl, h⟩ := h
  refine ⟨_, pss_cons (ps_if (pt_not (pt_val (pe_callB call_isi rfl mI (by decide +kernel) (pa_cons (pv 1) (pa_cons (pgl R.g) pa_nil))))) (pss_one ps_never) pss_nil)
    (pss_cons (ps_if (PW.pt (pw_or (pt_cmpR (op_neDV (hu65 hr)) (pe_fld (pv 0) rfl) (pe_fld (pv 1) rfl) (nomark _)) (pw_or1 (pt_cmpR (op_neDV (hu65 hr)) (pe_fld (pv 0) rfl) (pe_fld (pv 1) rfl) (nomark _))))) (pss_one (ps_ret pe_bl)) pss_nil)
    (pss_one (ps_ret (pe_and (pe_cmpR (op_eq_dictA hr.units0) (pe_fld (pv 0) rfl) (pe_fld (pv 1) rfl) (nomark _)) (pe_one (pe_cmpR (op_eqD hr.units) (pe_fld (pv 0) rfl) (pe_fld (pv 1) rfl) (nomark _))))))), ?_⟩
  rcases h with ⟨⟨ps, qs, ys, g, g2, d, d2, ⟨dx, dA, dn, df, h1, hA, hn, hf⟩, ⟨dx2, dA2, dn2, df2, h1', hA', hn', hf'⟩, hr1, hok, hd, hd2, sd, sd2, he⟩, q⟩ | ⟨⟨ps, qs, ys, zs, g, g2, ⟨dx, dA, dn, df, h1, hA, hn, hf⟩, ⟨dx2, dA2, dn2, df2, h1', hA', hn', hf'⟩, hne, hno⟩, q⟩
  · refine ⟨_, rfl, .ref b, .ref CR, .ref CR, .ref CR, true, rfl, .own _, .base (.ins h1' T.cl R.ha R.hn R.ht R.hm), R.kit, _, rfl, iteF ?_⟩
    obtain ⟨kvs, hK, hks, hkr⟩ := hA
    obtain ⟨lvs, hL, hls, hlr⟩ := hA'
    have hlen : kvs.length = lvs.length := by
      have e1 := congrArg List.length hks
      have e2 := congrArg List.length hls
      rw [List.length_map, List.length_map] at e1 e2
      rw [e1, e2]
    have hits : HitsV K H lvs kvs true := hits_same hr1 hok hlr (fun p hp => by
      have hm : p.1 ∈ ys.map Sum.inr := by rw [← hks]; exact List.mem_map.mpr ⟨p, hp, rfl⟩
      obtain ⟨x, hx, e⟩ := List.mem_map.mp hm
      refine ⟨x, e.symm, ?_⟩
      have := abv_some (H := H) hls hx
      rw [← e]
      exact Option.isSome_iff_exists.mp this) hkr
    refine ⟨_, rfl, a, CR, dx, _, .ref dA, rfl, h1, T.cl, T.nA, rfl, _, rfl, b, CR, dx2, _, .ref dA2, rfl, h1', T.cl, T.nA, rfl, dA, dA2, kvs, lvs, true, rfl, rfl, hK, hL, fun _ => hits, _, rfl, ?_⟩
    rw [hlen, beq_self_eq_true]
    refine iteF ?_
    refine ⟨_, rfl, a, CR, dx, _, .ref dn, rfl, h1, T.cl, T.nN, rfl, _, rfl, b, CR, dx2, _, .ref dn2, rfl, h1', T.cl, T.nN, rfl, dn, dn2, [], [], true, rfl, rfl, hn, hn', fun _ => .nil, _, rfl, iteF ?_⟩
    refine ⟨_, rfl, a, CR, dx, _, .ref df, rfl, h1, T.cl, T.nF, rfl, _, rfl, b, CR, dx2, _, .ref df2, rfl, h1', T.cl, T.nF, rfl, df, df2, [], [], rfl, rfl, hf, hf', rfl, fun p hp => (nomatch hp), _, rfl, iteT ?_⟩
    refine ⟨_, rfl, a, CR, dx, _, g, rfl, h1, T.cl, T.nG, rfl, _, rfl, b, CR, dx2, _, g2, rfl, h1', T.cl, T.nG, rfl, d, d2, hd, hd2, sd, sd2, ?_⟩
    rw [he]
    exact q H (Same.refl H)
  · refine ⟨_, rfl, .ref b, .ref CR, .ref CR, .ref CR, true, rfl, .own _, .base (.ins h1' T.cl R.ha R.hn R.ht R.hm), R.kit, _, rfl, iteF ?_⟩
    obtain ⟨kvs, hK, hks, hkr⟩ := hA
    obtain ⟨lvs, hL, hls, hlr⟩ := hA'
    have hits : HitsV K H lvs kvs false := by
      cases kvs with
      | nil =>
        have : ys = [] := by
          have e1 := congrArg List.length hks
          rw [List.length_map, List.length_map] at e1
          exact List.length_eq_zero_iff.mp e1.symm
        exact absurd this hne
      | cons p r =>
        obtain ⟨k, v⟩ := p
        have hm : k ∈ ys.map Sum.inr := by rw [← hks]; exact List.mem_map.mpr ⟨(k, v), List.mem_cons_self, rfl⟩
        obtain ⟨x, hx, e⟩ := List.mem_map.mp hm
        refine .miss ?_
        cases ev : valV lvs k with
        | none => rfl
        | some y =>
          exfalso
          have hs : (valV lvs k).isSome = true := by rw [ev]; rfl
          rw [← valV_any, List.any_eq_true] at hs
          obtain ⟨p, hp, hpk⟩ := hs
          have hpk' : p.1 = k := of_decide_eq_true hpk
          have hm2 : k ∈ zs.map Sum.inr := by rw [← hls, ← hpk']; exact List.mem_map.mpr ⟨p, hp, rfl⟩
          obtain ⟨x2, hx2, e2⟩ := List.mem_map.mp hm2
          have e3 : x = x2 := Sum.inr.inj (e.trans e2.symm)
          exact hno x hx (e3 ▸ hx2)
    refine ⟨_, rfl, a, CR, dx, _, .ref dA, rfl, h1, T.cl, T.nA, rfl, _, rfl, b, CR, dx2, _, .ref dA2, rfl, h1', T.cl, T.nA, rfl, dA, dA2, kvs, lvs, false, rfl, rfl, hK, hL, fun _ => hits, _, rfl, ?_⟩
    rw [Bool.and_false]
    exact iteT (q H (Same.refl H))
end
end K1

end
section
set_option Elab.async false
set_option linter.all false
set_option maxRecDepth 100000
set_option maxHeartbeats 4000000
namespace K1
open PySem PySem.Spec PyProof.Rows L2
/-! ### a room beside a tuple: == asks the room's own def, which declines, then the tuple's, which declines; they are not the same -/
section
variable {P : Program} {w : World} {K : PySem.W.Frag} {mg : Str → Option Value} {base : Heap} {CR : Addr}
theorem decl_call {f : Addr} {fd : FuncData} (F : Fun K "__eq__" "Room.__eq__" sEqM f fd) (bF : L2.Binds K fd ["self", "other"] []) (mI : mg "isinstance" = none) (mN : mg "NotImplemented" = none) (gR : mg "Room" = some (.ref CR)) (hkit : PySem.W.kitOne K (.type "tuple") (.ref CR) = some false)
    {A : Around} {outer : List Env} {s : Shared} {H : Hp} {p t : Addr} {xs : List V} (hr : Room 1 A) (e0 : Env0 P w K mg base A outer s H) (ht : SqT K H t xs) :
    codeAny (model P w) A (.call (.ref f) ⟨[.ref p, .ref t], []⟩) (fun r s' => r = .ok (.ret .notImplemented) ∧ s'.os = s.os ∧ AllBare s'.gens ∧ ∃ H', Un (frs outer) [] H H' s.heap s'.heap ∧ HOk P w H' s'.heap ∧ Same H H') s := by
  obtain ⟨oc, od, kV, doc, pm, an, cdv, ct, osl, rfl, lk, hcd⟩ := F.ex
  have S := scEqM
  have KX : K.In s.heap := e0.mod.kin.keeps fun b o e => (e0.bs b o e).1
  have lim : s.heap.NoLimit := e0.mod.nolimit.keeps fun b o e => (e0.bs b o e).1
  have hkind : ∀ y ∈ (["self", "other"] : List Str).zip [Value.ref p, Value.ref t], (defScope sEqM).names.lookup y.1 = some .local ∨
      ((defScope sEqM).names.lookup y.1 = some .cell ∧ ((cellsFrom (s.heap.objs.size + 1) (defScope sEqM).names []).lookup y.1).isSome = true) := fun ⟨n, v⟩ hy => by
    rcases S.par n (List.of_mem_zip hy).1 with q | q
    · exact .inl q
    · exact .inr ⟨q, PySem.W.cellsFrom_some _ _ _ (.inl q)⟩
  refine codeAny_call_function hr.depth (KX _ _ lk) rfl S.co S.gen rfl
    (PySem.W.codeRec_of KX hcd) (bF s [.ref p, .ref t] KX rfl _ _ _ _ ?_)
  refine wpAny_newFunctionEnv_cells S.kind hkind fun env he s1 x => ?_
  subst he
  refine ⟨lim.keeps x.toInCall.keep, codeAny_func ?_⟩
  have hr' := hr.deeper (envOfC "Room.__eq__" (defScope sEqM) s.heap.objs.size f cdv)
  have r2 : Vals [V.ref p, V.ref t] [Value.ref p, Value.ref t] := .cons rfl (.cons rfl .nil)
  have I : Inv (cxOf CX0 P w K mg base ["self", "other"] "Room.__eq__" (defScope sEqM) f cdv A outer s H E0) [] (L2.start ["self", "other"] [.ref p, .ref t]) H s1 := inv_start S hr.hd e0 rfl r2 x
  have body : wpAny (model P w) (A.deeper (envOfC "Room.__eq__" (defScope sEqM) s.heap.objs.size f cdv)) (execs (defBody sEqM) (envOfC "Room.__eq__" (defScope sEqM) s.heap.objs.size f cdv))
      (fun fl s' => fl = .ret .notImplemented ∧ ∃ H', Inv (cxOf CX0 P w K mg base ["self", "other"] "Room.__eq__" (defScope sEqM) f cdv A outer s H E0) [] (L2.start ["self", "other"] [.ref p, .ref t]) H' s' ∧ Same H H')
      (cxOf CX0 P w K mg base ["self", "other"] "Room.__eq__" (defScope sEqM) f cdv A outer s H E0).xe s1 := by
    have hpt := fun (p1 p2 p3 p4 p5 : Pos) => (pt_not (pt_val (pe_callB call_isi rfl mI (by decide +kernel) (pa_cons (pv 1) (pa_cons (pgl gR) pa_nil)))) :
      PT (cxOf CX0 P w K mg base ["self", "other"] "Room.__eq__" (defScope sEqM) f cdv A outer s H E0) (.UnaryOp .Not (.Call (.Name "isinstance" p1) [.Name "other" p2, .Name "Room" p3] [] p4) p5) _)
    refine wpAny_execs_cons (wpAny_If (thn ((hpt _ _ _ _ _).run [] s1 (L2.start ["self", "other"] [.ref p, .ref t]) H (fun b H1 => b = true ∧ H1 = H) I ?_) fun b s2 ⟨H1, I1, e1, e2⟩ => ?_))
    · exact ⟨_, rfl, .ref t, .ref CR, .type "tuple", .ref CR, false, rfl, .own _, sqT_ty ht, hkit, _, rfl, rfl, rfl⟩
    · subst e1 e2
      refine wpAny_execs_cons (wpAny_Return_some (ld_blt I1 rfl mN PyProof.Rows.Boot.NotImplemented ?_))
      exact ⟨rfl, H1, I1, Same.refl H1⟩
  refine wpAny_mono body (fun fl s' hs => ?_) fun e s' hs => ?_
  · obtain ⟨e, H', J, sm⟩ := hs
    subst e
    exact ⟨rfl, J.os, J.bare, H', J.base, J.hok, sm⟩
  · exact wpAny_mono hs (fun _ _ z => False.elim z) fun _ _ z => False.elim z
end
end K1

end
section
set_option Elab.async false
set_option linter.all false
set_option maxRecDepth 100000
set_option maxHeartbeats 4000000
namespace K1
open PySem PySem.Spec PyProof.Rows L2
section
variable {prog : Program} {w : World} {A : Around} {E : Value → Shared → Prop} {s : Shared} {K : PySem.W.Frag} {CR : Addr}
/-- a tuple's == declines what is no tuple -/
theorem tup_declines {t p : Addr} {ot ox : Obj} {od : Option Obj} {Q : Value → Shared → Prop} (X : K.In s.heap) (ht : s.heap.get? t = some ot) (hc : ot.cls = .type "tuple") (J : PySem.W.InstAt s.heap p ox CR od) (hsub : PySem.W.subIn K (.ref CR) (.type "tuple") = some false)
    (q : Q .notImplemented s) : wpAny (model prog w) A (call (.builtin "tuple.__eq__") [.ref t, .ref p]) Q E s := by
  refine wpAny_call_entry PySem.F.slot_tuple_eq ⟨_, ht, hc⟩ PySem.F.entry_tuple_eq ?_ (PySem.F.args_tuple_eq_2 _ _)
  unfold Builtin.«tuple.__eq__»
  refine wpAny_bind (m := slotArgs "__eq__" 1 ⟨[.ref t, .ref p], []⟩) (wpAny_pure ?_)
  dsimp only
  refine wpAny_bind (wpAny_bind (J.type.here ((PySem.W.looks_subIn X hsub).here ?_)))
  rw [if_pos (by rfl)]
  exact wpAny_pure ⟨_, rfl, q⟩
end
end K1

end
section
set_option Elab.async false
set_option linter.all false
set_option maxRecDepth 100000
set_option maxHeartbeats 4000000
namespace K1
open PySem PySem.Spec PyProof.Rows L2
section
variable {X : Cx} {CR : Addr}
/-- a room == a tuple -/
def rRT (K : PySem.W.Frag) (CR : Addr) : R2 := fun x y H Q => ∃ p t dx fs xs, x = .ref p ∧ y = .ref t ∧ H p = some (.ins CR dx fs) ∧ SqT K H t xs ∧ ∀ H', Same H H' → Q (.bl false) H'
theorem op_rt {n : Nat} (hr : Room 1 X.A)
    {f : Addr} {fd : FuncData} (F : Fun X.K "__eq__" "Room.__eq__" sEqM f fd) (bF : L2.Binds X.K fd ["self", "other"] []) (mI : X.mg "isinstance" = none) (mN : X.mg "NotImplemented" = none) (gR : X.mg "Room" = some (.ref CR))
    (hk : PySem.W.kitOne X.K (.type "tuple") (.ref CR) = some false)
    (hs : PySem.W.findIn X.K (.ref CR) "__eq__" = some (some (.ref f))) (hf : PySem.W.isFn X.K (.ref f) = true)
    (h1 : PySem.W.subIn X.K (.type "tuple") (.ref CR) = some false) (h2 : PySem.W.subIn X.K (.ref CR) (.type "tuple") = some false) : OpR X (compareOp .Eq) (rRT X.K CR) := by
  intro pins s σ H x y v u Q I rx ry h
  obtain ⟨p, t, dx, fs, xs, rfl, rfl, hp, ht, q⟩ := h
  cases (show v = Value.ref p from rx)
  cases (show u = Value.ref t from ry)
  show wpAny (model X.prog X.w) X.A (richCompare .Eq (.ref p) (.ref t)) (EP X pins σ Q) X.xe s
  obtain ⟨mA, J, _⟩ := ins_get I.hok hp
  obtain ⟨od, J, _⟩ := J.look
  have hty := sqT_ty ht
  have e0 : Env0 X.prog X.w X.K X.mg X.base X.A X.stack s H := by
    have e := I.env0
    exact e
  have KX := I.kIn
  obtain ⟨its, _, ⟨ot, ho, hc, _⟩, _⟩ := I.tuple ht
  unfold richCompare
  simp only [oneThing_ref]
  refine wpAny_holding (wpAny_bind (wpAny_cRoomFor hr.units0 ?_))
  refine wpAny_bind (J.type.here (wpAny_bind (wpAny_typeOf ⟨_, ho, hc⟩ ?_)))
  rw [if_pos (by rfl)]
  refine wpAny_bind ((PySem.W.looks_subIn KX h1).here ?_)
  simp only [Bool.false_eq_true, if_false]
  refine wpAny_bind ?_
  unfold tryCompare
  refine wpAny_bind (PySem.W.ifBound_K KX J hs hf ?_)
  refine wpAny_call (codeAny_mono (decl_call F bF mI mN gR hk hr e0 ht) fun r s' hq => ?_)
  obtain ⟨rfl, hos, hb, H', un, hok', sm⟩ := hq
  show wpAny _ _ _ _ _ s'
  dsimp only
  refine wpAny_pure ?_
  have I' : Inv X pins σ H' s' := I.call' hos un hok' hb (fun b z => absurd z (by simp))
  have ht' : SqT X.K H' t xs := by
    rcases ht with (h | ⟨o, h⟩) | ⟨o, its, n, h, hc, hr⟩
    · exact .inl (.inl (sm _ _ h))
    · exact .inl (.inr ⟨o, sm _ _ h⟩)
    · exact .inr ⟨o, its, n, h, hc, hr⟩
  obtain ⟨its', _, ⟨ot', ho', hc', _⟩, _⟩ := I'.tuple ht'
  obtain ⟨mA', J2, _⟩ := ins_get I'.hok (sm _ _ hp)
  obtain ⟨od', J2, _⟩ := J2.look
  show wpAny _ _ (tryCompare (.ref t) (cmpInfo .Eq).2.2 (.ref p) >>= _) _ _ s'
  refine wpAny_bind (wpAny_tryCompare_declines ⟨_, ho', hc'⟩ PySem.F.slot_tuple_eq_refl (tup_declines I'.kIn ho' hc' J2 h2 ⟨rfl, ?_⟩))
  show wpAny _ _ (isSame (.ref p) (.ref t) >>= fun b => pure (Value.bool b)) _ _ s'
  have hne : p ≠ t := by
    rintro rfl
    have e := J2.at_
    rw [ho'] at e
    cases e
    exact absurd hc' (by rw [J2.cls]; exact nofun)
  refine wpAny_bind (wpAny_isSame_ref_other hne J2.at_ ho' (by rw [J2.cls]; exact nofun) (wpAny_pure ?_))
  exact ⟨.bl false, H', I', rfl, q H' sm⟩
end
end K1

end
section
set_option Elab.async false
set_option linter.all false
set_option maxRecDepth 100000
set_option maxHeartbeats 4000000
namespace K1
open PySem PySem.Spec PyProof.Rows L2
/-! ### != of two rooms: the default of __ne__ asks the own __eq__ -/
theorem one_bind (self : Value) : bindSpecial (.builtin "object.__ne__") self = pure (.builtin "object.__ne__", [self]) :=
  (Slot.of (T := "object") (name := "__ne__") (owner := "object") (n := "__ne__") (by rw [typeLookup_type, builtinLookup_eq_fast]; kernel_rfl) (by decide +kernel) (by decide +kernel) (by decide +kernel)
    (.inl (by decide +kernel)) (by rw [isSubtype_type]; kernel_rfl)).bind self
theorem one_plain : plainId "object.__ne__" = true := by decide +kernel
section
variable {prog : Program} {w : World} {A : Around} {E : Value → Shared → Prop} {s : Shared} {K : PySem.W.Frag} {C x f : Addr} {ox : Obj} {od : Option Obj} {y : Value}
theorem ifBound_ne {Q : Option Value → Shared → Prop} (X : K.In s.heap) (I : PySem.W.InstAt s.heap x ox C od) (hs : PySem.W.findIn K (.ref C) "__ne__" = some (some (.builtin "object.__ne__")))
    (h : wpAny (model prog w) A (call (.builtin "object.__ne__") [.ref x, y]) (fun v => Q (some v)) E s) : wpAny (model prog w) A (callSpecialIfBound? (.ref x) "__ne__" [y]) Q E s := by
  simp only [callSpecialIfBound?, bindSpecialIfBound?, one_bind]
  refine wpAny_holding (wpAny_bind (wpAny_bind (wpAny_bind (I.type.here ((PySem.W.looks_findIn X hs).here ?_)))))
  refine wpAny_bind (wpAny_askSetting (wpAny_ite ?_))
  have fin : wpAny (model prog w) A (call (.builtin "object.__ne__") ([.ref x] ++ [y]) >>= fun v => pure (some v)) Q E s := wpAny_bind (wpAny_mono h (fun v s' h' => wpAny_pure h') fun _ _ h' => h')
  simp only [one_bind]
  split
  · exact wpAny_bind (wpAny_pure (by exact wpAny_pure (by exact fin)))
  · exact wpAny_tryCatch (wpAny_bind (wpAny_pure (by exact wpAny_pure (by exact fin))))
theorem check_ne {Q : Unit → Shared → Prop} (X : K.In s.heap) (I : PySem.W.InstAt s.heap x ox C od) (hob : PySem.W.subIn K (.ref C) (.type "object") = some true) (hq : Q () s) :
    wpAny (model prog w) A (checkBuiltinCall "object.__ne__" ⟨[.ref x, y], []⟩) Q E s := by
  have ha := F.cmpArgs_ne (.ref x) y
  simp only [checkBuiltinCall, F.cmpKind_ne, F.cmpSplit_ne]
  refine wpAny_bind (wpAny_bind (I.type.here ((PySem.W.looks_subIn X hob).here ?_)))
  rw [if_neg (by simp)]
  cases hsig : Manifest.signature? "object.__ne__" with
  | none => exact wpAny_pure hq
  | some sig =>
    simp only [argsOk, hsig] at ha
    have h2 : Bind.checkArgs "object.__ne__" sig ⟨[.ref x, y], []⟩ = pure () := ha
    show wpAny (model prog w) A (Bind.checkArgs "object.__ne__" sig ⟨[.ref x, y], []⟩) Q E _
    rw [h2]
    exact wpAny_pure hq
theorem body_ne (X : K.In s.heap) (I : PySem.W.InstAt s.heap x ox C od) (hs : PySem.W.findIn K (.ref C) "__eq__" = some (some (.ref f))) (hf : PySem.W.isFn K (.ref f) = true) (hu : A.units < cLine) {Q : Fin → Shared → Prop}
    (hcall : wpAny (model prog w) A (call (.ref f) [.ref x, y]) (fun v s' => ∃ b, v = .bool b ∧ Q (.done (.ret (.bool (!b)))) s') E s) :
    wpAny (model prog w) A (Builtin.«object.__ne__» ⟨[.ref x, y], []⟩) Q E s := by
  unfold Builtin.«object.__ne__»
  refine wpAny_bind (m := slotArgs "__ne__" 1 ⟨[.ref x, y], []⟩) (wpAny_pure ?_)
  dsimp only
  refine wpAny_bind (wpAny_cRoomFor hu ?_)
  refine wpAny_bind (m := callSpecialIfBound? (.ref x) "__eq__" [y]) (PySem.W.ifBound_K X I hs hf (wpAny_mono hcall (fun v s' hv => ?_) fun _ _ e => e))
  obtain ⟨b, rfl, hq⟩ := hv
  dsimp only
  refine wpAny_bind (wpAny_truthy_bool ?_)
  exact wpAny_pure hq
end
section
variable {X : Cx} {CR : Addr}
def rNeM (CR : Addr) : R2 := fun x y H Q => ∃ a b, x = .ref a ∧ y = .ref b ∧ OtherR H CR a b ∧ ∀ H', Same H H' → Q (.bl true) H'
theorem op_neM {f : Addr} {fd : FuncData} (hr : Room 2 X.A) (F : FnOk X.prog X.w X.K X.mg X.base CX0 1 f fd ["self", "other"] (spEqM X.K CR)) (hb : L2.Binds X.K fd ["self", "other"] [])
    (hs : PySem.W.findIn X.K (.ref CR) "__eq__" = some (some (.ref f))) (hf : PySem.W.isFn X.K (.ref f) = true)
    (hn : PySem.W.findIn X.K (.ref CR) "__ne__" = some (some (.builtin "object.__ne__"))) (hob : PySem.W.subIn X.K (.ref CR) (.type "object") = some true) : OpR X (compareOp .NotEq) (rNeM CR) := by
  intro pins s σ H x y v u Q I rx ry h
  obtain ⟨a, b, rfl, rfl, ho, q⟩ := h
  cases (show v = Value.ref a from rx)
  cases (show u = Value.ref b from ry)
  show wpAny (model X.prog X.w) X.A (richCompare .NotEq (.ref a) (.ref b)) (EP X pins σ Q) X.xe s
  have KX := I.kIn
  have ho' := ho
  obtain ⟨ps, qs, ys, zs, g, g2, ⟨dx, dA, dn, df, h1, hA, hnm, hff⟩, ⟨dx2, dA2, dn2, df2, h1', hA', hn', hf'⟩, hne, hno⟩ := ho'
  obtain ⟨mA, J, _⟩ := ins_get I.hok h1
  obtain ⟨od, J, _⟩ := J.look
  obtain ⟨mB, J2, _⟩ := ins_get I.hok h1'
  obtain ⟨od2, J2, _⟩ := J2.look
  unfold richCompare
  simp only [oneThing_ref]
  refine wpAny_holding (wpAny_bind (wpAny_cRoomFor hr.units0 ?_))
  refine wpAny_bind (J.type.here (wpAny_bind (J2.type.here ?_)))
  rw [if_neg (by simp)]
  refine wpAny_bind (wpAny_pure ?_)
  simp only [Bool.false_eq_true, if_false]
  refine wpAny_bind ?_
  unfold tryCompare
  refine wpAny_bind (m := callSpecialIfBound? (.ref a) "__ne__" [.ref b]) (ifBound_ne KX J hn ?_)
  refine wpAny_call (codeAny_call_builtin one_plain PySem.F.cmpEntry_ne (check_ne KX J hob (body_ne KX J hs hf (by have := hr.units0; have := hr.un; show X.A.units + 1 < cLine; omega) ?_)))
  have hsp : spEqM X.K CR [.ref a, .ref b] H (fun v H' => v = .bl false ∧ Same H H') (fun _ _ _ => False) := ⟨a, b, rfl, .inr ⟨ho, fun H' e => ⟨rfl, e⟩⟩⟩
  have r2 : Vals [V.ref a, V.ref b] [Value.ref a, Value.ref b] := .cons rfl (.cons rfl .nil)
  have hl := F.len _ _ _ _ hsp
  refine wpAny_call (codeAny_mono (F.run X.A.in1 X.stack s H ⟨[.ref a, .ref b], []⟩ [.ref a, .ref b] [.ref a, .ref b] _ _ hr.in1 I.env0.in1 (by
    have := hb s [.ref a, .ref b] KX (by simpa using hl)
    simpa using this) r2 hsp) fun r s' hq => ?_)
  cases r with
  | error e => exact False.elim hq
  | ok fl =>
    cases fl with
    | ret z =>
      obtain ⟨v', H', I', rz, ez, ex⟩ := I.after hq
      subst ez
      cases (show z = Value.bool false from rz)
      refine ⟨false, rfl, ?_⟩
      show wpAny _ _ _ _ _ s'
      exact wpAny_pure (wpAny_pure ⟨.bl true, H', I', rfl, q H' ex⟩)
    | next => exact False.elim hq
    | brk => exact False.elim hq
    | cont => exact False.elim hq
/-- == of two rooms that are told the same way -/
def rEqM (K : PySem.W.Frag) (CR : Addr) : R2 := fun x y H Q => ∃ a b, x = .ref a ∧ y = .ref b ∧ SameR K H CR a b ∧ ∀ H', Same H H' → Q (.bl true) H'
theorem op_eqM {f : Addr} {fd : FuncData} (hr : Room 1 X.A) (F : FnOk X.prog X.w X.K X.mg X.base CX0 1 f fd ["self", "other"] (spEqM X.K CR)) (hb : L2.Binds X.K fd ["self", "other"] [])
    (hs : PySem.W.findIn X.K (.ref CR) "__eq__" = some (some (.ref f))) (hf : PySem.W.isFn X.K (.ref f) = true) : OpR X (compareOp .Eq) (rEqM X.K CR) := by
  intro pins s σ H x y v u Q I rx ry h
  obtain ⟨a, b, rfl, rfl, ho, q⟩ := h
  cases (show v = Value.ref a from rx)
  cases (show u = Value.ref b from ry)
  show wpAny (model X.prog X.w) X.A (richCompare .Eq (.ref a) (.ref b)) (EP X pins σ Q) X.xe s
  have KX := I.kIn
  have ho' := ho
  obtain ⟨ps, qs, ys, g, g2, d, d2, ⟨dx, dA, dn, df, h1, _⟩, ⟨dx2, dA2, dn2, df2, h1', _⟩, _⟩ := ho'
  obtain ⟨mA, J, _⟩ := ins_get I.hok h1
  obtain ⟨od, J, _⟩ := J.look
  obtain ⟨mB, J2, _⟩ := ins_get I.hok h1'
  obtain ⟨od2, J2, _⟩ := J2.look
  obtain ⟨m, hF⟩ := I.fr
  refine PySem.W.cmp_K (op := .Eq) (tb := .ref CR) hr.units0 hF I.ok.mod.kin J J2.type (by simp [PySem.W.notFirst]) hs hf ?_
  have hsp : spEqM X.K CR [.ref a, .ref b] H (fun v H' => v = .bl true ∧ Same H H') (fun _ _ _ => False) := ⟨a, b, rfl, .inl ⟨ho, fun H' e => ⟨rfl, e⟩⟩⟩
  have r2 : Vals [V.ref a, V.ref b] [Value.ref a, Value.ref b] := .cons rfl (.cons rfl .nil)
  have hl := F.len _ _ _ _ hsp
  refine wpAny_call (codeAny_mono (F.run X.A X.stack s H ⟨[.ref a, .ref b], []⟩ [.ref a, .ref b] [.ref a, .ref b] _ _ hr I.env0 (by
    have := hb s [.ref a, .ref b] KX (by simpa using hl)
    simpa using this) r2 hsp) fun r s' hq => ?_)
  cases r with
  | error e => exact False.elim hq
  | ok fl =>
    cases fl with
    | ret z =>
      obtain ⟨v', H', I', rz, ez, ex⟩ := I.after hq
      subst ez
      cases (show z = Value.bool true from rz)
      exact ⟨.bl true, H', I', rfl, q H' ex⟩
    | next => exact False.elim hq
    | brk => exact False.elim hq
    | cont => exact False.elim hq
end
end K1

end
section
set_option Elab.async false
set_option linter.all false
set_option maxRecDepth 100000
set_option maxHeartbeats 4000000
namespace K1
open PySem PySem.Spec PyProof.Rows L2
/-! ### Room.is_below -/
open Classical in
noncomputable def abR (ps : PSt) (u v : Str) : Bool := decide (Reach ps u v)
theorem abR_true {ps : PSt} {u v : Str} : abR ps u v = true ↔ Reach ps u v := by
  unfold abR
  exact @decide_eq_true_iff _ (Classical.propDecidable _)
theorem abv_of {H : Hp} {d : Addr} {ps : PSt} {ys B : List Str} (h : AbvD H d ps ys) (hp : ys.Perm B) : Abv H d B (abR ps) := by
  obtain ⟨kvs, h1, h2, h3⟩ := h
  refine ⟨kvs, h1, fun u hu => ?_⟩
  have hs := abv_some (H := H) h2 (hp.mem_iff.mpr hu)
  obtain ⟨y, hy⟩ := Option.isSome_iff_exists.mp hs
  have hm : ((Sum.inr u : Key), y) ∈ kvs := by
    have hy' : valV kvs (Sum.inr u) = some y := hy
    unfold valV at hy'
    cases ef : kvs.find? (fun kv => decide (kv.1 = Sum.inr u)) with
    | none => rw [ef] at hy'; cases hy'
    | some p =>
      rw [ef] at hy'
      have h3 := List.mem_of_find?_eq_some ef
      have h4 : p.1 = Sum.inr u := by simpa using List.find?_some ef
      have h5 : p.2 = y := Option.some.inj hy'
      obtain ⟨p1, p2⟩ := p
      simp only at h4 h5
      rw [← h4, ← h5]
      exact h3
  obtain ⟨l, zs, e, hl, _, _, hz⟩ := h3 _ hm u rfl
  have e' : y = .ref l := e
  subst e'
  refine ⟨l, zs, hy, hl, fun v => ?_⟩
  by_cases hr : Reach ps u v
  · rw [abR_true.mpr hr, decide_eq_true ((hz v).mpr hr)]
  · rw [Bool.eq_false_iff.mpr fun z => hr (abR_true.mp z), decide_eq_false fun z => hr ((hz v).mp z)]
theorem bas_word : ∀ w ∈ BAS, wordB w = true := by decide +kernel
theorem kd_nest {B : List Str} (hB : ∀ w ∈ B, w ∈ BAS) {n : Nat} (hn : n ≤ 8) {d : PyData} (h : KdOk B n d) : isNest 8 d = true := nest_ok bas_word 8 d ((h.sub hB).le hn)
theorem kd_fine {B : List Str} (hB : ∀ w ∈ B, w ∈ BAS) {n : Nat} (hn : n ≤ 20) {d : PyData} (h : KdOk B n d) : Fine d := ⟨tiny_ok n d (h.sub hB), shaped_ok (h.sub hB) hn⟩
section
variable {P : Program} {w : World} {K : PySem.W.Frag} {mg : Str → Option Value} {base : Heap} {aA aN C CT CR : Addr}
abbrev sIsb : Stmt := inClass (tp 24) 3
theorem scIsb : FnScope ["self", "one", "other"] ["self", "one", "other"] (defScope sIsb) := ⟨rfl, rfl, rfl, by decide +kernel, rfl, by decide +kernel, by decide +kernel⟩
def spIsb (K : PySem.W.Frag) (CT CR : Addr) : Sp := fun vs H Q E => ∃ (p : Addr) (v v' : V) (d d' : PyData) (ps : PSt) (ys B : List Str) (g : V), vs = [.ref p, v, v'] ∧ RoomAt H CR p ps ys g ∧ ys.Perm B ∧ (∀ w ∈ B, w ∈ BAS) ∧
  Dp K H v d ∧ Fine d ∧ Dp K H v' d' ∧ Fine d' ∧
  (((isNest 8 d = false ∨ (PyData.eqv d' anyD || isNest 8 d') = false) ∧ ∀ H', Same H H' → E (.ref CT) none H') ∨
   (d' = anyD ∧ KdH K H B 4 v d ∧ ∀ H', Same H H' → Q (.bl true) H') ∨
   (KdH K H B 4 v d ∧ KdH K H B 4 v' d' ∧ ∀ H', Same H H' → Q (.bl (underD (abR ps) 4 d d')) H'))
theorem ok_isb {k : Nat} {f f1 f2 f3 : Addr} {fd fd1 fd2 fd3 : FuncData} (F : Fun K "is_below" "Room.is_below" sIsb f fd) (T : RT K CR) (X : XF K mg "BadType" CT) (hk : 4 ≤ k)
    (G1 : FnOk P w K mg base CX0 k f1 fd1 ["thing"] (spType K)) (b1 : Binds K fd1 ["thing"] []) (k1 : PySem.W.keepIn K (.ref f1) = true) (m1 : mg "is_type" = some (.ref f1))
    (G2 : FnOk P w K mg base CX0 k f2 fd2 ["thing"] (spNeed K)) (b2 : Binds K fd2 ["thing"] []) (k2 : PySem.W.keepIn K (.ref f2) = true) (m2 : mg "is_need" = some (.ref f2))
    (G3 : ∀ (B : List Str) (ab : Str → Str → Bool), (∀ w ∈ B, w ∈ BAS) → FnOk P w K mg base CX0 4 f3 fd3 ["above", "one", "other"] (spUnder K B ab 4)) (b3 : Binds K fd3 ["above", "one", "other"] []) (k3 : PySem.W.keepIn K (.ref f3) = true) (m3 : mg "is_under" = some (.ref f3)) :
    FnOk P w K mg base (L2.CX P w) (k + 1) f fd ["self", "one", "other"] (spIsb K CT CR) := by
  refine F.okX scIsb (fun vs H Q E h => ?_) (fun cdv A outer s H vs Q E hr h => ?_)
  · obtain ⟨_, _, _, _, _, _, _, _, _, rfl, _⟩ := h
    rfl
  obtain ⟨p, v, v', d, d', ps, ys, B, g, rfl, hR, hperm, hBB, hd, hf, hd', hf', q⟩ := h
  refine ⟨_, pss_cons (ps_if (PW.pt (pw_or (pt_not (pt_val (pe_call G1 hr rfl m1 k1 b1 .nil pass0 (pa_cons (pv 1) pa_nil)))) (pw_or1 (pt_not (pt_val (pe_call G2 hr rfl m2 k2 b2 .nil pass0 (pa_cons (pv 2) pa_nil)))))))
      (pss_one (ps_bad X rfl (takes_of rfl rfl rfl rfl))) pss_nil)
    (pss_one (ps_ret (pe_call (G3 B (abR ps) hBB) (hr.mono hk) rfl m3 k3 b3 .nil pass0 (pa_cons (pe_fld (pv 0) rfl) (pa_cons (pv 1) (pa_cons (pv 2) pa_nil)))))), ?_⟩
  refine ⟨_, rfl, v, d, rfl, hd, hf, fun H1 s1 => ⟨_, rfl, ?_⟩⟩
  have isb : (d' = anyD ∧ KdH K H B 4 v d ∧ ∀ H', Same H H' → Q (.bl true) H') ∨ (KdH K H B 4 v d ∧ KdH K H B 4 v' d' ∧ ∀ H', Same H H' → Q (.bl (underD (abR ps) 4 d d')) H') → 
      isNest 8 d = true ∧ (PyData.eqv d' anyD || isNest 8 d') = true := by
    rintro (⟨e, hkd, _⟩ | ⟨hkd, hkd', _⟩)
    · subst e
      exact ⟨kd_nest hBB (by omega) hkd.ok, by decide +kernel⟩
    · exact ⟨kd_nest hBB (by omega) hkd.ok, by rw [kd_nest hBB (by omega) hkd'.ok, Bool.or_true]⟩
  cases hn : isNest 8 d with
  | false =>
    rcases q with ⟨_, q⟩ | q
    · exact iteT (iteT (q H1 s1))
    · rw [(isb q).1] at hn
      cases hn
  | true =>
    refine iteF ⟨_, rfl, v', d', rfl, dp_same s1 hd', hf', fun H2 s2 => ⟨_, rfl, ?_⟩⟩
    have s12 := s1.trans s2
    cases hn2 : (PyData.eqv d' anyD || isNest 8 d') with
    | false =>
      rcases q with ⟨_, q⟩ | q
      · exact iteT (q H2 s12)
      · rw [(isb q).2] at hn2
        cases hn2
    | true =>
      have hR2 := hR.same s12
      obtain ⟨dx, dA, dn, df, h1, hA, hnm, hff⟩ := hR2
      refine iteF ⟨_, rfl, p, CR, dx, _, .ref dA, rfl, h1, T.cl, T.nA, rfl, _, rfl, _, rfl, dA, v, v', rfl, ?_⟩
      rcases q with ⟨hb, _⟩ | ⟨e, hkd, q⟩ | ⟨hkd, hkd', q⟩
      · rw [hn, hn2] at hb
        rcases hb with z | z <;> cases z
      · subst e
        exact .inl ⟨d, dp_same s12 hd', hkd.same s12, q H2 s12⟩
      · exact .inr ⟨d, d', by omega, abv_of hA hperm, hkd.same s12, hkd'.same s12, fun H3 s3 => q H3 (s12.trans s3)⟩
end
end K1

end
section
set_option Elab.async false
set_option linter.all false
set_option maxRecDepth 100000
set_option maxHeartbeats 4000000
namespace K1
open PySem PySem.Spec PyProof.Rows L2
/-! ### comprehensions that draw: what holds of the list so far -/
theorem lc_inv {J : It} {g : TG} {tt : TT} {te : TE} {vs : List Nat} {σ : L2.St} {H1 : Hp} {D : Addr} {Qd : Hp → Prop} (n : Nat) (hn : n ≤ 1000) (P : Nat → List V → Hp → Prop)
    (h0 : P 0 [] (upd H1 D (.lst [])))
    (step : ∀ (i : Nat) (acc : List V) (H : Hp) (Ny : VK) (Nx : Hp → Prop), i < n → H D = some (.lst acc) → P i acc H →
      (∀ y H4, H4 D = some (.lst acc) → P (i + 1) (acc ++ [y]) (upd H4 D (.lst (acc ++ [y]))) → Ny y H4) → (∀ H3, H3 D = some (.lst acc) → P (i + 1) acc H3 → Nx H3) →
      J.go i H ∧ ∀ x H', J.yld i H x H' → g x (wipe σ vs) H' fun σ2 H2 => wipe σ2 vs = wipe σ vs ∧ tt σ2 H2 fun b H3 => if b = true then te σ2 H3 Ny else Nx H3)
    (stop : ∀ acc H, H D = some (.lst acc) → P n acc H → J.stop n H ∧ Qd H) :
    ∃ W : Nat → Nat → Hp → Prop, (∃ m, W 0 m (upd H1 D (.lst []))) ∧ ∀ i m H, W i m H →
      (J.stop i H ∧ Qd H) ∨ (J.go i H ∧ ∃ Nx : Hp → Prop, (∀ H', Nx H' → ∃ m', m' < m ∧ W (i + 1) m' H') ∧ ∀ x H', J.yld i H x H' → g x (wipe σ vs) H' fun σ2 H2 => wipe σ2 vs = wipe σ vs ∧ tt σ2 H2 fun b H3 =>
        if b = true then te σ2 H3 fun y H4 => ∃ acc, H4 D = some (.lst acc) ∧ acc.length < sizeLine ∧ Nx (upd H4 D (.lst (acc ++ [y]))) else Nx H3) := by
  refine ⟨fun i m H => m = n - i ∧ i ≤ n ∧ ∃ acc, H D = some (.lst acc) ∧ acc.length ≤ i ∧ P i acc H, ⟨n, by omega, Nat.zero_le _, [], upd_same, Nat.le_refl _, h0⟩, ?_⟩
  rintro i m H ⟨rfl, hi, acc, hD, hl, hP⟩
  by_cases hlt : i < n
  · have z := step i acc H (fun y H4 => ∃ acc, H4 D = some (.lst acc) ∧ acc.length < sizeLine ∧ (∃ acc', upd H4 D (.lst (acc ++ [y])) D = some (.lst acc') ∧ acc'.length ≤ i + 1 ∧ P (i + 1) acc' (upd H4 D (.lst (acc ++ [y])))))
      (fun H3 => ∃ acc', H3 D = some (.lst acc') ∧ acc'.length ≤ i + 1 ∧ P (i + 1) acc' H3) hlt hD hP (fun y H4 h p => ⟨acc, h, small1000 (by omega), _, upd_same, by rw [List.length_append]; show acc.length + 1 ≤ i + 1; omega, p⟩) (fun H3 h p => ⟨acc, h, by omega, p⟩)
    exact .inr ⟨z.1, fun H' => ∃ acc', H' D = some (.lst acc') ∧ acc'.length ≤ i + 1 ∧ P (i + 1) acc' H', fun H' p' => ⟨n - (i + 1), by omega, rfl, hlt, p'⟩, z.2⟩
  · have e : i = n := by omega
    subst e
    exact .inl (stop acc H hD hP)
theorem DrwS.upd {H : Hp} {d sa D : Addr} {o : HO} (h : DrwS H d sa) (h1 : D ≠ d) (h2 : D ≠ sa) : DrwS (upd H D o) d sa := by
  obtain ⟨ns, n, e1, e2, e3⟩ := h
  exact ⟨ns, n, by rw [upd_ne (Ne.symm h1)]; exact e1, by rw [upd_ne (Ne.symm h2)]; exact e2, e3⟩
theorem DrwS.same {H H' : Hp} {d sa : Addr} (h : DrwS H d sa) (s : Same H H') : DrwS H' d sa := by
  obtain ⟨ns, n, e1, e2, e3⟩ := h
  exact ⟨ns, n, s _ _ e1, s _ _ e2, e3⟩
theorem DrwS.new {H : Hp} {d sa D : Addr} (h : DrwS H d sa) (hD : H D = none) : D ≠ d ∧ D ≠ sa := by
  obtain ⟨ns, n, e1, e2, e3⟩ := h
  exact ⟨fun e => (by rw [e, e1] at hD; cases hD), fun e => (by rw [e, e2] at hD; cases hD)⟩
theorem Aft.put {H H' : Hp} {d D : Addr} {o : HO} (s : Aft H H' d) (hn : H' D = none) : Aft H (upd H' D o) d := fun x u hx hu => by
  have z := s x u hx hu
  rw [upd_ne (ne_of_none z hn)]
  exact z
/-- a list was written: tuples stay -/
theorem lst_tup {K : PySem.W.Frag} {H H' : Hp} {p a : Addr} {ys xs : List V} (hp : H p = some (.lst ys)) (s : Aft H H' p) (h : SqT K H a xs) : SqT K H' a xs := by
  rcases h with (h | ⟨o, h⟩) | h
  · exact .inl (.inl (s _ _ (fun e => by rw [e, hp] at h; cases h) h))
  · exact .inl (.inr ⟨o, s _ _ (fun e => by rw [e, hp] at h; cases h) h⟩)
  · exact .inr h
theorem lst_tupN {H H' : Hp} {p a : Addr} {ys xs : List V} (hp : H p = some (.lst ys)) (s : Aft H H' p) (h : TupN H a xs) : TupN H' a xs := by
  obtain ⟨o, h, q⟩ := h
  exact ⟨o, s _ _ (fun e => by rw [e, hp] at h; cases h) h, q⟩
theorem lst_kd {K : PySem.W.Frag} {H H' : Hp} {B : List Str} {p : Addr} {ys : List V} (hp : H p = some (.lst ys)) (s : Aft H H' p) : ∀ {n : Nat} {v : V} {d : PyData}, KdH K H B n v d → KdH K H' B n v d
  | n + 1, v, d, .inl ⟨w, a, hw, e, ev, hS⟩ => .inl ⟨w, a, hw, e, ev, lst_tup hp s hS⟩
  | n + 1, v, d, .inr ⟨a, b, L, e, hs, ev, hS, hT, hL⟩ => .inr ⟨a, b, L, e, hs, ev, lst_tup hp s hS, lst_tupN hp s hT, fun r hr => ⟨lst_tup hp s (hL r hr).1, lst_kd hp s (hL r hr).2⟩⟩
theorem aft_put {H : Hp} {p : Addr} {o : HO} : Aft H (upd H p o) p := fun x u hx hu => by
  rw [upd_ne hx]
  exact hu
/-- the list that is made is written: all but it stays -/
theorem Aft.acc {H1 H : Hp} {d D : Addr} {o : HO} (hD : H1 D = none) (s : Aft H1 H d) : Aft H1 (upd H D o) d := fun x u hx hu => by
  rw [upd_ne (ne_of_none hu hD)]
  exact s x u hx hu
theorem pt_never {X : Cx} {e : Expr} : PT X e (fun _ _ _ => False) := ⟨fun _ _ _ _ _ _ h => False.elim h⟩
section
variable {P : Program} {w : World} {K : PySem.W.Frag} {mg : Str → Option Value} {base : Heap}
abbrev sKind : Stmt := tp 43
abbrev NK : List Str := ["draw", "bases", "deep", "fields", "field"]
theorem scKind : FnScope NK ["draw", "bases", "deep"] (defScope sKind) := ⟨rfl, rfl, rfl, by decide +kernel, rfl, by decide +kernel, by decide +kernel⟩
def spKind (K : PySem.W.Frag) (n : Nat) : Sp := fun vs H Q _ => ∃ (d sa l : Addr) (B : List Str), vs = [.ref d, .ref l, .int (n : Nat)] ∧ DrwS H d sa ∧ SqL K H l (B.map V.str) ∧ l ≠ d ∧ B ≠ [] ∧
  ∀ v k H', KdH K H' B (n + 1) v k → Aft H H' d → DrwS H' d sa → Q v H'
theorem kd_base {H : Hp} {B : List Str} {n : Nat} {x : V} {a : Addr} {i : Nat} (hx : (B.map V.str)[i]? = some x) (hS : SqT K H a [.str "base", x]) : ∃ k, KdH K H B (n + 1) (.ref a) k := by
  rw [List.getElem?_map] at hx
  cases e : B[i]? with
  | none => rw [e] at hx; cases hx
  | some wd =>
    rw [e] at hx
    cases hx
    exact ⟨baseD wd, .inl ⟨wd, a, List.mem_of_getElem? e, rfl, rfl, hS⟩⟩
theorem ok_kind0 {k : Nat} {f f2 : Addr} {fd fd2 : FuncData} (F : Fun K "_law_kind" "_law_kind" sKind f fd) (hk : 4 ≤ k)
    (G2 : FnOk P w K mg base CX0 4 f2 fd2 ["draw", "things"] (spPick K)) (b2 : Binds K fd2 ["draw", "things"] []) (k2 : PySem.W.keepIn K (.ref f2) = true) (m2 : mg "_law_pick" = some (.ref f2)) :
    FnOk P w K mg base CX0 (k + 1) f fd ["draw", "bases", "deep"] (spKind K 0) := by
  refine F.ok scKind (fun vs H Q E h => ?_) (fun cdv A outer s H vs Q E hr h => ?_)
  · obtain ⟨_, _, _, _, rfl, _⟩ := h
    rfl
  obtain ⟨d, sa, l, B, rfl, hd, hl, hne, hB, q⟩ := h
  refine ⟨_, pss_cons (ps_if (PW.pt (pw_or (pt_cmpR op_eq (pv 2) pe_int (nomark _)) (pw_or1 pt_never))) (pss_one (ps_ret (pe_tup (pa_cons pe_str (pa_cons (pe_call G2 (hr.mono hk) rfl m2 k2 b2 .nil pass0 (pa_cons (pv 0) (pa_cons (pv 1) pa_nil))) pa_nil))))) pss_nil) pss_never, ?_⟩
  refine ⟨_, rfl, rfl, _, rfl, iteT (iteT ?_)⟩
  refine ⟨_, rfl, _, rfl, d, sa, l, _, rfl, hd, hl, hne, (fun z => hB (List.map_eq_nil_iff.mp z)), fun i x H1 hx a1 d1 => ⟨(by show 2 ≤ sizeLine; decide), fun p hp => ?_⟩⟩
  obtain ⟨kk, hkd⟩ := kd_base (K := K) (n := 0) hx (SqT.of (H := upd H1 p (.tup [.str "base", x])) upd_same)
  exact q _ kk _ hkd (a1.put hp) (d1.upd (d1.new hp).1 (d1.new hp).2)
theorem ok_kind {n k : Nat} {f f1 f2 : Addr} {fd fd1 fd2 : FuncData} (F : Fun K "_law_kind" "_law_kind" sKind f fd) (hk : 4 ≤ k) (hn : n ≤ 20) (mT : mg "tuple" = none)
    (G1 : FnOk P w K mg base CX0 3 f1 fd1 ["draw", "bound"] spNext) (b1 : Binds K fd1 ["draw", "bound"] []) (k1 : PySem.W.keepIn K (.ref f1) = true) (m1 : mg "_law_next" = some (.ref f1))
    (G2 : FnOk P w K mg base CX0 4 f2 fd2 ["draw", "things"] (spPick K)) (b2 : Binds K fd2 ["draw", "things"] []) (k2 : PySem.W.keepIn K (.ref f2) = true) (m2 : mg "_law_pick" = some (.ref f2))
    (G : FnOk P w K mg base CX0 k f fd ["draw", "bases", "deep"] (spKind K n)) (bG : Binds K fd ["draw", "bases", "deep"] []) (mG : mg "_law_kind" = some (.ref f)) :
    FnOk P w K mg base CX0 (k + 1) f fd ["draw", "bases", "deep"] (spKind K (n + 1)) := by
  refine F.ok scKind (fun vs H Q E h => ?_) (fun cdv A outer s H vs Q E hr h => ?_)
  · obtain ⟨_, _, _, _, rfl, _⟩ := h
    rfl
  obtain ⟨d, sa, l, B, rfl, hd, hl, hne, hB, q⟩ := h
  have hr3 : Room 3 _ := hr.mono (by omega)
  refine ⟨_, pss_cons (ps_if (PW.pt (pw_or (pt_cmpR op_eq (pv 2) pe_int (nomark _)) (pw_or1 (pt_cmpR op_gt (pe_call G1 hr3 rfl m1 k1 b1 .nil pass0 (pa_cons (pv 0) (pa_cons pe_int pa_nil))) pe_int (nomark _)))))
      (pss_one (ps_ret (pe_tup (pa_cons pe_str (pa_cons (pe_call G2 (hr.mono hk) rfl m2 k2 b2 .nil pass0 (pa_cons (pv 0) (pa_cons (pv 1) pa_nil))) pa_nil))))) pss_nil)
    (pss_cons (ps_setLc (i := 3) (own := [("field", 4)]) (g := gName 4) rfl scKind.nd rfl rfl (sw_true rfl rfl rfl (by decide +kernel)) (pi_tup (pe_tup (pa_cons pe_str (pa_cons pe_str (pa_cons pe_str pa_nil)))))
      (blkOk_by (N := NK) (sc := defScope sKind) (by decide +kernel)) (fun _ _ _ _ _ => pg_name (i := 4) scKind.nd rfl (Or.inl rfl))
      (fun _ _ _ _ _ => pts_one (pt_cmpR op_eq (pe_call G1 hr3 rfl m1 k1 b1 .nil pass0 (pa_cons (pv 0) (pa_cons pe_int pa_nil))) pe_int (nomark _))) (fun _ _ _ _ _ => pv 4))
    (pss_one (ps_ret (pe_tup (pa_cons pe_str (pa_cons (pe_callTy call_tuple_ofN rfl mT (by decide +kernel) (pa_cons (pe_lc (own := [("field", 4)]) (g := gName 4) rfl scKind.nd (pi_list (pv 3))
      (blkOk_by (N := NK) (sc := defScope sKind) (by decide +kernel)) (fun _ _ _ _ _ => pg_name (i := 4) scKind.nd rfl (Or.inl rfl)) (fun _ _ _ _ _ => pts_nil)
      (fun _ _ _ _ _ => pe_tup (pa_cons (pv 4) (pa_cons (pe_call G hr rfl mG F.kp bG .nil pass0 (pa_cons (pv 0) (pa_cons (pv 1) (pa_cons (pe_op op_sub (pv 2) pe_int) pa_nil)))) pa_nil)))) pa_nil)) pa_nil)))))), ?_⟩
  have ne0 : decide (V.int ((n + 1 : Nat) : Int) = V.int 0) = false := decide_eq_false fun z => by
    have z' := V.int.inj z
    omega
  have hdL : ∀ {H4 : Hp}, DrwS H4 d sa → ∃ ys, H4 d = some (.lst ys) := fun h => by
    obtain ⟨ns, m, h1, _⟩ := h
    exact ⟨_, h1⟩
  refine ⟨_, rfl, rfl, _, rfl, ?_⟩
  rw [ne0]
  refine iteF ⟨_, rfl, d, sa, 3, rfl, hd, by decide, fun r H1 r0 r1 a1 d1 => ⟨_, _, rfl, rfl, _, rfl, ite2 (fun c => ?_) (fun c => ?_)⟩⟩
  · refine ⟨_, rfl, _, rfl, d, sa, l, _, rfl, d1, Aft.seq hne a1 hl, hne, (fun z => hB (List.map_eq_nil_iff.mp z)), fun i x H2 hx a2 d2 => ⟨(by show 2 ≤ sizeLine; decide), fun p hp => ?_⟩⟩
    obtain ⟨kk, hkd⟩ := kd_base (K := K) (n := n + 1) hx (SqT.of (H := upd H2 p (.tup [.str "base", x])) upd_same)
    exact q _ kk _ hkd ((a1.trans a2).put hp) (d2.upd (d2.new hp).1 (d2.new hp).2)
  · refine ⟨(by show 3 ≤ sizeLine; decide), fun T hT => ⟨T, rfl, ⟨_, SqT.of upd_same⟩, fun D hD => ?_⟩⟩
    have nT := d1.new hT
    have d2 := d1.upd (o := .tup [.str "p", .str "q", .str "r"]) nT.1 nT.2
    have a2 := a1.put (o := .tup [.str "p", .str "q", .str "r"]) hT
    have nD := d2.new hD
    have hT2 : SqT K (upd H1 T (.tup [.str "p", .str "q", .str "r"])) T (FLD.map V.str) := SqT.of upd_same
    generalize upd H1 T (.tup [.str "p", .str "q", .str "r"]) = H2 at *
    refine lc_inv 3 (by decide) (fun i acc H' => Aft H2 H' d ∧ DrwS H' d sa ∧ ∃ fs : List Str, acc = fs.map V.str ∧ fs.Sublist (FLD.take i)) ⟨Aft.acc hD (Aft.refl _ _), d2.upd nD.1 nD.2, [], rfl, List.Sublist.slnil⟩ (fun i acc H3 Ny Nx hi hacc ⟨a3, d3, fs, e, hs⟩ qy qx => ?_) (fun acc H3 hacc ⟨a3, d3, fs, e, hs⟩ => ?_)
    · obtain ⟨y, hy⟩ : ∃ y, FLD[i]? = some y := ⟨FLD[i], List.getElem?_eq_getElem hi⟩
      have hT3 := Aft.tup d2.drw a3 hT2
      have hyV : (FLD.map V.str)[i]? = some (.str y) := by rw [List.getElem?_map, hy]; rfl
      refine ⟨⟨_, _, hT3, hyV⟩, fun x H4 yl => ?_⟩
      obtain ⟨e4, yl⟩ := yl
      subst e4
      have ex : x = .str y := by
        have z := yl _ hT3
        rw [hyV] at z
        exact (Option.some.inj z).symm
      subst ex
      refine ⟨rfl, _, rfl, d, sa, 2, rfl, d3, by decide, fun r5 H5 _ _ a5 d5 => ⟨rfl, _, rfl, ?_⟩⟩
      have hD5 : H5 D = some (.lst acc) := a5 _ _ nD.1 hacc
      refine ite2 (fun _ => ?_) (fun _ => ?_)
      · refine ⟨_, rfl, qy _ H5 hD5 ⟨Aft.acc hD (a3.trans a5), d5.upd nD.1 nD.2, fs ++ [y], by rw [e, List.map_append]; rfl, ?_⟩⟩
        rw [take_more hy]
        exact List.Sublist.append hs (List.Sublist.refl _)
      · refine qx H5 hD5 ⟨a3.trans a5, d5, fs, e, ?_⟩
        rw [take_more hy]
        exact hs.trans (List.sublist_append_left _ _)
    · subst e
      have hT3 := Aft.tup d2.drw a3 hT2
      refine ⟨⟨_, hT3, Nat.le_refl _⟩, ?_⟩
      have hs3 : fs.Sublist FLD := hs
      have h3 := len_fld hs3
      refine ⟨_, rfl, D, rfl, ⟨_, SqL.of hacc⟩, fun D2 hD2 => ?_⟩
      have nD2 := d3.new hD2
      have a03 := a2.trans a3
      have hDne : D2 ≠ D := fun z => by rw [z, hacc] at hD2; cases hD2
      refine lc_inv fs.length (by omega) (fun i acc H' => Aft H3 H' d ∧ DrwS H' d sa ∧ ∃ L : List Rw, acc = L.map (fun r => V.ref r.c) ∧ L.map (·.f) = fs.take i ∧ ∀ r ∈ L, SqT K H' r.c [.str r.f, r.u] ∧ KdH K H' B (n + 1) r.u r.k)
        ⟨Aft.acc hD2 (Aft.refl _ _), d3.upd nD2.1 nD2.2, [], rfl, rfl, fun r hr => (nomatch hr)⟩ (fun i acc H4 Ny Nx hi hacc4 ⟨a4, d4, L, e, hf, hL⟩ qy qx => ?_) (fun acc H4 hacc4 ⟨a4, d4, L, e, hf, hL⟩ => ?_)
      · obtain ⟨y, hy⟩ : ∃ y, fs[i]? = some y := ⟨fs[i], List.getElem?_eq_getElem hi⟩
        have hS4 : SqL K H4 D (fs.map V.str) := SqL.of (a4 _ _ nD.1 hacc)
        have hyV : (fs.map V.str)[i]? = some (.str y) := by rw [List.getElem?_map, hy]; rfl
        refine ⟨⟨_, _, hS4, hyV⟩, fun x H5 yl => ?_⟩
        obtain ⟨e5, yl⟩ := yl
        subst e5
        have ex : x = .str y := by
          have z := yl _ hS4
          rw [hyV] at z
          exact (Option.some.inj z).symm
        subst ex
        refine ⟨rfl, _, rfl, _, rfl, _, rfl, _, rfl, _, _, rfl, rfl, d, sa, l, B, ?_, d4, Aft.seq hne (a03.trans a4) hl, hne, hB, fun v kk H6 hkd a6 d6 => ⟨(by show 2 ≤ sizeLine; decide), fun p hp => ?_⟩⟩
        · show [V.ref d, V.ref l, V.int (((n + 1 : Nat) : Int) - 1)] = _
          rw [show (((n + 1 : Nat) : Int) - 1) = (n : Nat) from by omega]
        have np := d6.new hp
        have hacc6 : H6 D2 = some (.lst acc) := a6 _ _ nD2.1 hacc4
        have hp2 : p ≠ D2 := fun z => by rw [z, hacc6] at hp; cases hp
        have d7 := d6.upd (o := .tup [.str y, v]) np.1 np.2
        have s7 := Same.new hp (.tup [.str y, v])
        have hacc7 := s7 _ _ hacc6
        refine qy _ _ hacc7 ⟨Aft.acc hD2 ((a4.trans a6).put hp), d7.upd nD2.1 nD2.2, L ++ [⟨p, y, v, kk⟩], by rw [e, List.map_append]; rfl, ?_, fun r hr => ?_⟩
        · rw [List.map_append, hf, take_more hy]
          rfl
        · have put : Aft (upd H6 p (.tup [.str y, v])) (upd (upd H6 p (.tup [.str y, v])) D2 (.lst (acc ++ [V.ref p]))) D2 := aft_put
          rcases List.mem_append.mp hr with h | h
          · obtain ⟨h1, h2⟩ := hL r h
            exact ⟨lst_tup hacc7 put (Same.tup s7 (Aft.tup d4.drw a6 h1)), lst_kd hacc7 put ((h2.aft d4.drw a6).same s7)⟩
          · cases List.mem_singleton.mp h
            exact ⟨lst_tup hacc7 put (SqT.of upd_same), lst_kd hacc7 put (hkd.same s7)⟩
      · refine ⟨⟨_, SqL.of (a4 _ _ nD.1 hacc), by rw [List.length_map]; exact Nat.le_refl _⟩, ?_⟩
        subst e
        refine ⟨D2, _, rfl, SqL.of hacc4, fun t o ht hc hdict => ⟨(by show 2 ≤ sizeLine; decide), fun p hp => ?_⟩⟩
        have nt := d4.new ht
        have s5 := Same.new ht (.frz o (.tup (L.map fun r => V.ref r.c)))
        have d5 := d4.upd (o := .frz o (.tup (L.map fun r => V.ref r.c))) nt.1 nt.2
        have np := d5.new hp
        have s6 := Same.new hp (.tup [.str "record", .ref t])
        rw [List.take_of_length_le (Nat.le_refl _)] at hf
        have hT5 : TupN (upd H4 t (.frz o (.tup (L.map fun r => V.ref r.c)))) t (L.map fun r => V.ref r.c) := ⟨o, upd_same, hc, hdict⟩
        refine q _ (recD (L.map Rw.pair)) _ (.inr ⟨p, t, L, rfl, by rw [hf]; exact hs3, rfl, SqT.of upd_same, hT5.same s6, fun r hr => ⟨Same.tup (s5.trans s6) (hL r hr).1, ((hL r hr).2.same s5).same s6⟩⟩) (((a03.trans a4).put ht).put hp) (d5.upd np.1 np.2)
end
end K1

end
section
set_option Elab.async false
set_option linter.all false
set_option maxRecDepth 100000
set_option maxHeartbeats 4000000
namespace K1
open PySem PySem.Spec PyProof.Rows L2
/-! ### the law's own way to what pairs lead to -/
theorem cnt_app {ps : PSt} : ∀ {ds fs : List Str}, ds.Nodup → (∀ y ∈ ds, y ∉ fs ∧ ∃ a, (a, y) ∈ ps) → cnt (fs ++ ds) ps + ds.length ≤ cnt fs ps
  | [], fs, _, _ => by rw [List.append_nil]; exact Nat.le_refl _
  | d :: ds, fs, hn, h => by
    obtain ⟨h1, a, ha⟩ := h d List.mem_cons_self
    have c := cnt_lt fs d h1 ha
    have hn' := List.nodup_cons.mp hn
    have ih := cnt_app (ps := ps) (ds := ds) (fs := fs ++ [d]) hn'.2 fun y hy => ⟨fun z => by
      rcases List.mem_append.mp z with z | z
      · exact (h y (List.mem_cons_of_mem _ hy)).1 z
      · rw [List.mem_singleton.mp z] at hy
        exact hn'.1 hy, (h y (List.mem_cons_of_mem _ hy)).2⟩
    rw [List.append_assoc, List.singleton_append] at ih
    rw [List.length_cons]
    omega
/-- found so far, and the last ones -/
structure LpI (ps : PSt) (b : Str) (fs ls : List Str) : Prop where
  r : ∀ x ∈ fs, Reach ps b x
  w : ∀ x ∈ ls, x = b ∨ x ∈ fs
  c : ∀ x y, (x, y) ∈ ps → (x = b ∨ x ∈ fs) → y ∈ fs ∨ x ∈ ls
  nd : fs.Nodup
  l : fs.length + cnt fs ps ≤ ps.length
  s : ∀ x ∈ fs, ∃ a, (a, x) ∈ ps
theorem LpI.start {ps : PSt} {b : Str} : LpI ps b [] [b] := ⟨fun x h => (nomatch h), fun x h => .inl (List.mem_singleton.mp h), fun x y _ h => by
  rcases h with e | e
  · exact .inr (List.mem_singleton.mpr e)
  · exact (nomatch e), List.nodup_nil, by have := cnt_all [] ps; simpa using this, fun x h => (nomatch h)⟩
theorem LpI.next {ps : PSt} {b : Str} {fs ls ms ds : List Str} (h : LpI ps b fs ls) (hm : ∀ y, y ∈ ms ↔ ∃ p ∈ ps, p.1 ∈ ls ∧ p.2 ∉ fs ∧ y = p.2) (hd : ds.Nodup) (he : ∀ y, y ∈ ds ↔ y ∈ ms) :
    LpI ps b (fs ++ ds) ms ∧ cnt (fs ++ ds) ps + ds.length ≤ cnt fs ps := by
  have hc := cnt_app (ps := ps) (fs := fs) hd fun y hy => by
    obtain ⟨p, hp, _, h2, e⟩ := (hm y).mp ((he y).mp hy)
    subst e
    exact ⟨h2, p.1, hp⟩
  refine ⟨⟨fun x hx => ?_, fun x hx => .inr (List.mem_append_right _ ((he x).mpr hx)), fun x y hxy hx => ?_, ?_, ?_, fun x hx => ?_⟩, hc⟩
  · rcases List.mem_append.mp hx with z | z
    · exact h.r x z
    · obtain ⟨p, hp, h1, _, e⟩ := (hm x).mp ((he x).mp z)
      subst e
      rcases h.w _ h1 with e | e
      · exact .one (by rw [← e]; exact hp)
      · exact .more (h.r _ e) hp
  · have old : (x = b ∨ x ∈ fs) → y ∈ fs ++ ds ∨ x ∈ ms := fun q => by
      rcases h.c x y hxy q with z | z
      · exact .inl (List.mem_append_left _ z)
      · by_cases hy : y ∈ fs
        · exact .inl (List.mem_append_left _ hy)
        · exact .inl (List.mem_append_right _ ((he y).mpr ((hm y).mpr ⟨(x, y), hxy, z, hy, rfl⟩)))
    rcases hx with e | e
    · exact old (.inl e)
    · rcases List.mem_append.mp e with z | z
      · exact old (.inr z)
      · exact .inr ((he x).mp z)
  · refine List.nodup_append.mpr ⟨h.nd, hd, fun a ha c hc2 e => ?_⟩
    obtain ⟨p, _, _, h2, e2⟩ := (hm c).mp ((he c).mp hc2)
    rw [e2] at e
    rw [e] at ha
    exact h2 ha
  · rw [List.length_append]
    have := h.l
    omega
  · rcases List.mem_append.mp hx with z | z
    · exact h.s x z
    · obtain ⟨p, hp, _, _, e⟩ := (hm x).mp ((he x).mp z)
      subst e
      exact ⟨p.1, hp⟩
theorem LpI.fin {ps : PSt} {b : Str} {fs : List Str} (h : LpI ps b fs []) (x : Str) : x ∈ fs ↔ Reach ps b x := by
  have cl : ∀ y z, (y, z) ∈ ps → (y = b ∨ y ∈ fs) → z ∈ fs := fun y z hyz hy => by
    rcases h.c y z hyz hy with q | q
    · exact q
    · cases q
  refine ⟨h.r x, fun hr => ?_⟩
  induction hr with
  | one h1 => exact cl _ _ h1 (.inl rfl)
  | more _ h1 ih => exact cl _ _ h1 (.inr ih)
theorem cut_upto (xs : List V) (i : Nat) (hi : i ≤ xs.length) : cutV xs none (some (i : Int)) = xs.take i := by
  unfold cutV
  have h0 : HT.sIx xs.length 0 none = 0 := rfl
  have h1 : HT.sIx xs.length xs.length (some (i : Int)) = i := by
    unfold HT.sIx
    simp only [Int.toNat_natCast]
    rw [if_neg (by omega)]
    omega
  rw [h0, h1, List.drop_zero, Nat.sub_zero]
section
variable {P : Program} {w : World} {K : PySem.W.Frag} {mg : Str → Option Value} {base : Heap}
abbrev sAbv : Stmt := tp 45
abbrev NA : List Str := ["pairs", "base", "found", "last", "more", "lower", "upper", "at", "one"]
theorem scAbv : FnScope NA ["pairs", "base"] (defScope sAbv) := ⟨rfl, rfl, rfl, by decide +kernel, rfl, by decide +kernel, by decide +kernel⟩
def spAbv (K : PySem.W.Frag) : Sp := fun vs H Q _ => ∃ (b : Str) (lo : Addr) (ps : PSt), vs = [.ref lo, .str b] ∧ PrsL K H lo ps ∧ ps.length ≤ 20 ∧ b ∈ BAS ∧ (∀ p ∈ ps, p.2 ∈ BAS) ∧
  ∀ (ys : List Str) (l : Addr) (H' : Hp), Same H H' → H l = none → H' l = some (.lst (ys.map V.str)) → ys.Nodup → ys.length ≤ 20 → (∀ x, x ∈ ys ↔ Reach ps b x) → Q (.ref l) H'
theorem ok_abv {f : Addr} {fd : FuncData} (F : Fun K "_law_above" "_law_above" sAbv f fd) (mE : mg "enumerate" = none) : FnOk P w K mg base CX0 1 f fd ["pairs", "base"] (spAbv K) := by
  refine F.ok scAbv (fun vs H Q E h => ?_) (fun cdv A outer s H vs Q E hr h => ?_)
  · obtain ⟨_, _, _, rfl, _⟩ := h
    rfl
  obtain ⟨b, lo, ps, rfl, hP, hz, hb, hps, q⟩ := h
  refine ⟨_, pss_cons (ps_asg (pe_tup (pa_cons (pe_lst pa_nil) (pa_cons (pe_lst (pa_cons (pv 1) pa_nil)) pa_nil))) (pg_tup rfl (pgs_cons (pg_name (i := 2) scAbv.nd rfl (Or.inr rfl)) (pgs_cons (pg_name (i := 3) scAbv.nd rfl (Or.inr rfl)) pgs_nil))))
    (pss_cons (ps_while PassesOwn.never (pt_cmpR (op_neD hr.units) (pv 3) (pe_lst pa_nil) (nomark _))
      (pss_cons (ps_set (i := 4) scAbv.nd rfl (Or.inr rfl) (pe_lc (own := [("lower", 5), ("upper", 6)]) (g := gTup K 2 (gCons (gName 5) (gCons (gName 6) gNil))) rfl scAbv.nd (pi_list (pv 0))
        (blkOk_by (N := NA) (sc := defScope sAbv) (by decide +kernel)) (fun _ _ _ _ _ => pg_tup rfl (pgs_cons (pg_name (i := 5) scAbv.nd rfl (Or.inl rfl)) (pgs_cons (pg_name (i := 6) scAbv.nd rfl (Or.inl rfl)) pgs_nil)))
        (fun _ _ _ _ _ => pts_one (PW.pt (pw_and (pt_cmpR (r := rIn K false) op_in_seq (pv 5) (pv 3) (by rfl)) (pw_and1 (pt_cmpR (r := rIn K true) op_notIn_seq (pv 6) (pv 2) (by rfl)))))) (fun _ _ _ _ _ => pv 6)))
      (pss_cons (ps_set (i := 2) scAbv.nd rfl (Or.inr rfl) (pe_op op_cat (pv 2) (pe_lc (own := [("at", 7), ("one", 8)]) (g := gTup K 2 (gCons (gName 7) (gCons (gName 8) gNil))) rfl scAbv.nd (pi_enum rfl mE (pa_cons (pv 4) pa_nil))
        (blkOk_by (N := NA) (sc := defScope sAbv) (by decide +kernel)) (fun _ _ _ _ _ => pg_tup rfl (pgs_cons (pg_name (i := 7) scAbv.nd rfl (Or.inl rfl)) (pgs_cons (pg_name (i := 8) scAbv.nd rfl (Or.inl rfl)) pgs_nil)))
        (fun _ _ _ _ _ => pts_one (pt_cmpR (r := rIn K true) op_notIn_seq (pv 8) (pe_slice (r := rSlL K) sl_list (pv 4) po_none (po_some (pv 7))) (by rfl))) (fun _ _ _ _ _ => pv 8))))
      (pss_one (ps_set (i := 3) scAbv.nd rfl (Or.inr rfl) (pv 4))))))
    (pss_one (ps_ret (pv 2)))), ?_⟩
  refine ⟨(by show 0 ≤ sizeLine; decide), fun lf hf => ⟨_, rfl, (by show 1 ≤ sizeLine; decide), fun ll hll => ⟨(by show 2 ≤ sizeLine; decide), fun T hT => ?_⟩⟩⟩
  have bok : ∀ x ∈ BAS, PyData.strOk x = true := by decide +kernel
  refine ⟨T, _, rfl, SqT.of upd_same, rfl, _, _, rfl, _, _, rfl, rfl, ?_⟩
  have s0 : Same H (upd (upd (upd H lf (.lst [])) ll (.lst [V.str b])) T (.tup [V.ref lf, V.ref ll])) := ((Same.new hf _).trans (Same.new hll _)).trans (Same.new hT _)
  have hlf : lf ≠ ll := ne_of_none upd_same hll
  have h1 : upd (upd (upd H lf (.lst [])) ll (.lst [V.str b])) T (.tup [V.ref lf, V.ref ll]) lf = some (.lst []) := Same.new hT _ _ _ (by rw [upd_ne hlf, upd_same])
  have h2 : upd (upd (upd H lf (.lst [])) ll (.lst [V.str b])) T (.tup [V.ref lf, V.ref ll]) ll = some (.lst [V.str b]) := Same.new hT _ _ _ upd_same
  refine ⟨fun m σ H' => ∃ (fs ls : List Str) (lf ll : Addr) (v4 v5 v6 v7 v8 : Option V), m = 2 * cnt fs ps + (if ls = [] then 0 else 1) ∧ σ = [some (.ref lo), some (.str b), some (.ref lf), some (.ref ll), v4, v5, v6, v7, v8] ∧ LpI ps b fs ls ∧ Same H H' ∧
      H lf = none ∧ H' lf = some (.lst (fs.map V.str)) ∧ H' ll = some (.lst (ls.map V.str)) ∧ ls.length ≤ 20 ∧ ∀ x ∈ ls, x ∈ BAS,
    ⟨_, [], [b], lf, ll, none, none, none, none, none, rfl, rfl, LpI.start, s0, hf, h1, h2, (by show 1 ≤ 20; decide), fun x hx => by rw [List.mem_singleton.mp hx]; exact hb⟩, ?_⟩
  rintro m σ H' ⟨fs, ls, lf, ll, v4, v5, v6, v7, v8, rfl, rfl, hI, hs, hfn, hF, hL, hl20, hlB⟩
  have hfl : fs.length ≤ 20 := by have := hI.l; omega
  refine ⟨_, rfl, (by show 0 ≤ sizeLine; decide), fun le hle => ⟨.list (ls.map PyData.str), .list [], dp_words (Same.new hle _ _ _ hL), .lst (SqL.of upd_same) .nil, shaped_words fun z hz => bok z (hlB z hz), by decide +kernel, _, rfl, ?_⟩⟩
  cases ls with
  | nil =>
    have e : (!PyData.eqv (.list (([] : List Str).map PyData.str)) (.list [])) = false := rfl
    rw [e]
    exact iteF ⟨_, rfl, q fs lf _ (hs.trans (Same.new hle _)) hfn (Same.new hle _ _ _ hF) hI.nd hfl hI.fin⟩
  | cons x0 ls0 =>
    have e : (!PyData.eqv (.list ((x0 :: ls0).map PyData.str)) (.list [])) = true := rfl
    rw [e]
    generalize els : x0 :: ls0 = ls at *
    have s1 := hs.trans (Same.new hle (.lst []))
    have hF1 := Same.new hle (.lst []) _ _ hF
    have hL1 := Same.new hle (.lst []) _ _ hL
    generalize upd H' le (.lst []) = H1 at *
    obtain ⟨cs, hC, hCl, hCp⟩ := hP
    refine iteT ⟨fun σ' H2 => ∃ (fs' ls' : List Str) (lf ll : Addr) (v4 v5 v6 v7 v8 : Option V), 2 * cnt fs' ps + (if ls' = [] then 0 else 1) < 2 * cnt fs ps + (if ls = [] then 0 else 1) ∧ σ' = [some (.ref lo), some (.str b), some (.ref lf), some (.ref ll), v4, v5, v6, v7, v8] ∧ LpI ps b fs' ls' ∧ Same H H2 ∧
        H lf = none ∧ H2 lf = some (.lst (fs'.map V.str)) ∧ H2 ll = some (.lst (ls'.map V.str)) ∧ ls'.length ≤ 20 ∧ ∀ x ∈ ls', x ∈ BAS,
      fun σ' H2 ⟨fs', ls', lf, ll, v4, v5, v6, v7, v8, a1, a2, a3⟩ => ⟨_, a1, fs', ls', lf, ll, v4, v5, v6, v7, v8, rfl, a2, a3⟩, ?_⟩
    refine ⟨_, rfl, lo, rfl, ⟨_, s1.seq hC⟩, fun D hD => ?_⟩
    refine lc_inv cs.length (by omega) (fun i acc H2 => Same H1 H2 ∧ ∃ ms : List Str, acc = ms.map V.str ∧ ms.length ≤ i ∧ ∀ y, y ∈ ms ↔ ∃ p ∈ ps.take i, p.1 ∈ ls ∧ p.2 ∉ fs ∧ y = p.2) ⟨Same.new hD _, [], rfl, Nat.le_refl _, fun y => ⟨fun z => (nomatch z), fun ⟨p, hp, _⟩ => by simp at hp⟩⟩
      (fun i acc H2 Ny Nx hi hacc ⟨s2, ms, e2, hml, hms⟩ qy qx => ?_) (fun acc H2 hacc ⟨s2, ms, e2, hml, hms⟩ => ?_)
    · have ec : cs[i]? = some cs[i] := List.getElem?_eq_getElem hi
      have hi' : i < ps.length := by rw [← hCl]; exact hi
      have hp : ps[i]? = some ps[i] := List.getElem?_eq_getElem hi'
      have hC2 := (s1.trans s2).seq hC
      have hcp := Same.tup (s1.trans s2) (hCp i _ _ ec hp)
      have hV : (cs.map V.ref)[i]? = some (.ref cs[i]) := by rw [List.getElem?_map, ec]; rfl
      refine ⟨⟨_, _, hC2, hV⟩, fun x H3 yl => ?_⟩
      obtain ⟨e3, yl⟩ := yl
      subst H3
      have ex : x = .ref cs[i] := by
        have z := yl _ hC2
        rw [hV] at z
        exact (Option.some.inj z).symm
      subst ex
      have hmem : ∀ {y : Str}, (∃ p ∈ ps.take (i + 1), p.1 ∈ ls ∧ p.2 ∉ fs ∧ y = p.2) ↔ (∃ p ∈ ps.take i, p.1 ∈ ls ∧ p.2 ∉ fs ∧ y = p.2) ∨ (ps[i].1 ∈ ls ∧ ps[i].2 ∉ fs ∧ y = ps[i].2) := fun {y} => by
        rw [take_more hp]
        constructor
        · rintro ⟨p, hp1, h⟩
          rcases List.mem_append.mp hp1 with z | z
          · exact .inl ⟨p, z, h⟩
          · rw [List.mem_singleton.mp z] at h
            exact .inr h
        · rintro (⟨p, hp1, h⟩ | h)
          · exact ⟨p, List.mem_append_left _ hp1, h⟩
          · exact ⟨_, List.mem_append_right _ (List.mem_singleton.mpr rfl), h⟩
      have skip : (¬ (ps[i].1 ∈ ls ∧ ps[i].2 ∉ fs)) → Nx H2 := fun hno => qx H2 hacc ⟨s2, ms, e2, by omega, fun y => by
        rw [hmem, hms]
        exact ⟨.inl, fun z => z.elim id fun z => absurd ⟨z.1, z.2.1⟩ hno⟩⟩
      refine ⟨cs[i], _, rfl, hcp, rfl, _, _, rfl, _, _, rfl, rfl, rfl, _, rfl, _, rfl, ll, _, rfl, .inl (SqL.of (s2 _ _ hL1)), rfl, flat_strs ls, _, rfl, ?_⟩
      rw [if_neg (by decide), in_strs]
      by_cases c1 : ps[i].1 ∈ ls
      · rw [decide_eq_true c1]
        refine iteT ⟨_, rfl, _, rfl, lf, _, rfl, .inl (SqL.of (s2 _ _ hF1)), rfl, flat_strs fs, _, rfl, ?_⟩
        rw [if_pos rfl, in_strs]
        by_cases c2 : ps[i].2 ∈ fs
        · rw [decide_eq_true c2]
          exact iteF (skip fun z => z.2 c2)
        · rw [decide_eq_false c2]
          refine iteT ⟨_, rfl, qy _ H2 hacc ⟨same_acc hD s2, ms ++ [ps[i].2], by rw [e2, List.map_append]; rfl, by rw [List.length_append]; show ms.length + 1 ≤ i + 1; omega, fun y => ?_⟩⟩
          rw [hmem, List.mem_append, List.mem_singleton, hms]
          exact ⟨fun z => z.imp id fun z => ⟨c1, c2, z⟩, fun z => z.imp id fun z => z.2.2⟩
      · rw [decide_eq_false c1]
        exact iteF (iteF (skip fun z => c1 z.1))
    · subst e2
      refine ⟨⟨_, (s1.trans s2).seq hC, by rw [List.length_map]; exact Nat.le_refl _⟩, ?_⟩
      have hms' : ∀ y, y ∈ ms ↔ ∃ p ∈ ps, p.1 ∈ ls ∧ p.2 ∉ fs ∧ y = p.2 := fun y => by
        rw [hms, hCl, List.take_length]
      have hml' : ms.length ≤ 20 := by omega
      refine ⟨_, rfl, _, rfl, D, _, rfl, SqL.of hacc, fun D2 hD2 => ?_⟩
      have s12 := s1.trans s2
      refine lc_inv ms.length (by omega) (fun i acc H3 => Same H2 H3 ∧ ∃ ds : List Str, acc = ds.map V.str ∧ ds.Nodup ∧ ds.length ≤ i ∧ ∀ y, y ∈ ds ↔ y ∈ ms.take i) ⟨Same.new hD2 _, [], rfl, List.nodup_nil, Nat.le_refl _, fun y => by simp⟩
        (fun i acc H3 Ny Nx hi hacc3 ⟨s3, ds, e3, hdn, hdl, hdm⟩ qy qx => ?_) (fun acc H3 hacc3 ⟨s3, ds, e3, hdn, hdl, hdm⟩ => ?_)
      · have hy : ms[i]? = some ms[i] := List.getElem?_eq_getElem hi
        have hD3 : SqL K H3 D (ms.map V.str) := SqL.of (s3 _ _ hacc)
        have hV : (ms.map V.str)[i]? = some (.str ms[i]) := by rw [List.getElem?_map, hy]; rfl
        refine ⟨⟨_, _, hD3, hV⟩, fun x H4 yl => ?_⟩
        obtain ⟨T2, x', rfl, hT2, e4, yl⟩ := yl
        have ex : x' = .str ms[i] := by
          have z := yl _ hD3
          rw [hV] at z
          exact (Option.some.inj z).symm
        subst ex
        have s4 : Same H3 H4 := by rw [e4]; exact Same.new hT2 _
        have hT4 : H4 T2 = some (.tup [.int (i : Nat), .str ms[i]]) := by rw [e4]; exact upd_same
        clear e4
        have hacc4 := s4 _ _ hacc3
        refine ⟨T2, _, rfl, SqT.of hT4, rfl, _, _, rfl, _, _, rfl, rfl, rfl, _, rfl, _, rfl, _, rfl, _, rfl, D, _, rfl, SqL.of (s4 _ _ (s3 _ _ hacc)), fun p hp => ?_⟩
        have s5 := Same.new hp (.lst (cutV (ms.map V.str) none (some ((i : Nat) : Int))))
        have hp5 : upd H4 p (.lst (cutV (ms.map V.str) none (some ((i : Nat) : Int)))) p = some (.lst ((ms.take i).map V.str)) := by
          rw [upd_same, cut_upto _ _ (by rw [List.length_map]; omega), List.map_take]
        have hacc5 := s5 _ _ hacc4
        refine ⟨p, _, rfl, .inl (SqL.of hp5), rfl, flat_strs _, _, rfl, ?_⟩
        rw [if_pos rfl, in_strs]
        have hst : Same H2 (upd H4 p (.lst (cutV (ms.map V.str) none (some ((i : Nat) : Int))))) := (s3.trans s4).trans s5
        by_cases c1 : ms[i] ∈ ms.take i
        · rw [decide_eq_true c1]
          refine iteF (qx _ hacc5 ⟨hst, ds, e3, hdn, by omega, fun y => ?_⟩)
          rw [hdm, take_more hy, List.mem_append, List.mem_singleton]
          exact ⟨.inl, fun z => z.elim id fun z => by rw [z]; exact c1⟩
        · rw [decide_eq_false c1]
          refine iteT ⟨_, rfl, qy _ _ hacc5 ⟨same_acc hD2 hst, ds ++ [ms[i]], by rw [e3, List.map_append]; rfl, ?_, by rw [List.length_append]; show ds.length + 1 ≤ i + 1; omega, fun y => ?_⟩⟩
          · refine List.nodup_append.mpr ⟨hdn, by simp, fun a ha c hc e => ?_⟩
            rw [List.mem_singleton.mp hc] at e
            rw [e] at ha
            exact c1 ((hdm _).mp ha)
          · rw [take_more hy, List.mem_append, List.mem_append, hdm]
      · subst e3
        rw [List.take_length] at hdm
        obtain ⟨hN, hc⟩ := hI.next hms' hdn hdm
        refine ⟨⟨_, SqL.of (s3 _ _ hacc), by rw [List.length_map]; exact Nat.le_refl _⟩, ?_⟩
        have s123 := s12.trans s3
        refine ⟨lf, D2, _, _, rfl, rfl, s3 _ _ (s2 _ _ hF1), hacc3, by rw [List.length_map, List.length_map]; exact Nat.le_of_lt (small1000 (by omega)), fun p hp => ?_⟩
        refine ⟨_, rfl, fs ++ ds, ms, p, D, _, _, _, _, _, ?_, rfl, hN, s123.trans (Same.new hp _), s123.free hp, by rw [upd_same, List.map_append], Same.new hp _ _ _ (s3 _ _ hacc), hml', fun x hx => ?_⟩
        · rw [if_neg (show ¬ ls = [] by rw [← els]; simp)]
          by_cases hm0 : ms = []
          · rw [if_pos hm0]
            omega
          · rw [if_neg hm0]
            have : ds ≠ [] := fun e => by
              obtain ⟨y, hy⟩ := List.exists_mem_of_ne_nil ms hm0
              rw [← hdm, e] at hy
              cases hy
            have := List.length_pos_iff.mpr this
            omega
        · obtain ⟨p', hp', _, _, e⟩ := (hms' x).mp hx
          rw [e]
          exact hps p' hp'
end
end K1

end
section
set_option Elab.async false
set_option linter.all false
set_option maxRecDepth 100000
set_option maxHeartbeats 4000000
namespace K1
open PySem PySem.Spec PyProof.Rows L2 LamX
/-! ### _law_error: what is returned, or the name of the error -/
abbrev sErr : Stmt := tp 46
theorem scErr : FnScope ["work"] ["work"] (defScope sErr) := ⟨rfl, rfl, rfl, by decide +kernel, rfl, by decide +kernel, by decide +kernel⟩
/-- told: try: return a() / except BadRoom: return ("BadRoom",) / except BadType: return ("BadType",) -/
def TT2 (K : PySem.W.Frag) (CB CT : Addr) : (XK → Hp → VK → Prop) → Hp → VK → Prop := fun tl H Q =>
  tl (fun cls _ H' => ∃ b, PySem.W.exmOne K cls (.ref CB) = some b ∧ (b = true → ∀ p, H' p = none → Q (.ref p) (upd H' p (.tup [.str "BadRoom"]))) ∧
    (b = false → ∃ b2, PySem.W.exmOne K cls (.ref CT) = some b2 ∧ (b2 = true → ∀ p, H' p = none → Q (.ref p) (upd H' p (.tup [.str "BadType"]))) ∧ (b2 = false → False))) H Q
theorem err_gives {X : Cx} {q : Str} {g CB CT : Addr} {cdg : Value} (m1 : X.mg "BadRoom" = some (.ref CB)) (m2 : X.mg "BadType" = some (.ref CT)) :
    GivesTo X ["work"] "_law_error" (defScope sErr) g cdg (defBody sErr) "work" q (TT2 X.K CB CT) := by
  intro f c' s H Q tl act hc h
  have body : ∀ (W : WX) (pn : List (Addr × Obj)) (xe : Value → Shared → Prop), Takes ((cxOf C8.CX0 X.prog X.w X.K X.mg X.base ["work"] "_law_error" (defScope sErr) g cdg X.A X.stack s H C8.E0).nox.tr pn xe) W → ∀ (p1 p2 p3 : Pos),
      PSs ((cxOf C8.CX0 X.prog X.w X.K X.mg X.base ["work"] "_law_error" (defScope sErr) g cdg X.A X.stack s H C8.E0).nox.tr pn xe) [.Return (some (.Call (.Name "work" p1) [] [] p2)) p3]
        (fun D σ H => ∃ Ech : XK, (∀ cls d σ' H', Ech cls d H' → W cls d σ' H') ∧ σ[0]? = some (some (.ref f)) ∧ H c' = some (CodeO c' q) ∧ tl Ech H D.rt) := fun W pn xe tk p1 p2 p3 => by
    refine ⟨fun pins s' σ H' D I h' => ?_⟩
    obtain ⟨Ech, hW, h1, h2, h3⟩ := h'
    have hp := act W pn xe Ech p1 p2 tk hW
    have hq := pss_one (ps_ret (pos := p3) hp)
    exact hq.run pins s' σ H' D I ⟨h1, h2, h3⟩
  refine ⟨_, pss_one (ps_try_many (X := (cxOf C8.CX0 X.prog X.w X.K X.mg X.base ["work"] "_law_error" (defScope sErr) g cdg X.A X.stack s H C8.E0).nox)
      rfl rfl L2.takes0 (fun W pn xe tk _ => body W pn xe tk _ _ _)
      (.cons (c := .ref CB) ⟨rfl, rfl, .inl m1⟩ (fun a oe cls d pn _ _ => pss_one (ps_ret (pe_tup (pa_cons pe_str pa_nil))))
        (.cons (c := .ref CT) ⟨rfl, rfl, .inl m2⟩ (fun a oe cls d pn _ _ => pss_one (ps_ret (pe_tup (pa_cons pe_str pa_nil)))) .nil))), ?_⟩
  · refine ⟨_, fun cls d σ' H' z => ?_, rfl, hc, h⟩
    obtain ⟨b, e, y, n⟩ := z
    refine ⟨b, e, fun hb a ha => ⟨(by show 1 ≤ sizeLine; decide), fun p hp => y hb p hp⟩, fun hb => ?_⟩
    obtain ⟨b2, e2, y2, n2⟩ := n hb
    exact ⟨b2, e2, fun hb2 a ha => ⟨(by show 1 ≤ sizeLine; decide), fun p hp => y2 hb2 p hp⟩, fun hb2 => n2 hb2⟩
end K1

end
section
set_option Elab.async false
set_option linter.all false
set_option maxRecDepth 100000
set_option maxHeartbeats 4000000
namespace K1
open PySem PySem.Spec PyProof.Rows L2 LamX
/-! ### the law: what it calls -/
structure Cal (P : Program) (w : World) (K : PySem.W.Frag) (mg : Str → Option Value) (base : Heap) (x : Str) (ps : List Str) (sp : Sp) : Prop where
  ex : ∃ f fd, FnOk P w K mg base CX0 30 f fd ps sp ∧ Binds K fd ps [] ∧ PySem.W.keepIn K (.ref f) = true ∧ mg x = some (.ref f)
theorem pe_cal {X : Cx} {x : Str} {ps : List Str} {sp : Sp} {e : Expr} {es : List Expr} {t : TA} {p pos : Pos} (C : Cal X.prog X.w X.K X.mg X.base x ps sp) (hr : Room 30 X.A) (ha : PA X (e :: es) t) (hg : Gl X x := by rfl)
    (hdb : (x == ("__debug__" : Str)) = false := by decide) (he : starEach (e :: es) X.env = (false, eval e X.env) :: starEach es X.env := by rfl) (hpl : (backTo pos (starEach es X.env)).any (·.1) = false := by rfl) :
    PE X (.Call (.Name x p) (e :: es) [] pos) (tCall sp [] E0 t) := by
  obtain ⟨f, fd, G, b, k, m⟩ := C.ex
  exact pe_call G hr hg m k b .nil pass0 ha hdb he hpl
abbrev sLaw : Stmt := tp 47
abbrev NL : List Str := ["script", "draw", "bases", "pairs", "is_ring", "room", "order", "base", "own", "turn", "one", "two", "bad", "told", "deep", "levels", "upper", "row"]
theorem scLaw : FnScope NL ["script"] (defScope sLaw) := ⟨rfl, rfl, rfl, by decide +kernel, rfl, by decide +kernel, by decide +kernel⟩
abbrev stL (i : Nat) : Stmt := (defBody sLaw).getD i (.Pass ⟨0, 0, 0, 0⟩)
abbrev XL (P : Program) (w : World) (K : PySem.W.Frag) (mg : Str → Option Value) (base : Heap) (fL cL : Addr) (A : Around) (outer : List Env) (s : Shared) (H : Hp) (E : XK) : Cx :=
  (cxOf CX0 P w K mg base NL "law" (defScope sLaw) fL (.ref cL) A outer s H E).nox
/-! ### what stays when something is drawn, or a lambda is made -/
/-- neither a table nor a drawing list -/
def Nd (o : HO) : Prop := (∀ ps, o ≠ .tbl ps) ∧ ∀ a n, o ≠ .lst [.ref a, .int 0, .int n]
def Kn (H H' : Hp) : Prop := ∀ x o, Nd o → H x = some o → H' x = some o
theorem Kn.refl (H : Hp) : Kn H H := fun _ _ _ h => h
theorem Kn.trans {H H1 H2 : Hp} (a : Kn H H1) (b : Kn H1 H2) : Kn H H2 := fun x o n h => b x o n (a x o n h)
theorem Kn.of {H H' : Hp} (s : Same H H') : Kn H H' := fun x o _ h => s x o h
theorem Kn.aft {H H' : Hp} {d sa : Addr} (hd : DrwS H d sa) (s : Aft H H' d) : Kn H H' := fun x o n h => s x o (fun e => by
  obtain ⟨ns, m, h1, _⟩ := hd
  rw [e, h1] at h
  exact n.2 sa m (Option.some.inj h).symm) h
theorem Kn.ext {H H' : Hp} (s : ExtN H H') : Kn H H' := fun x o n h => s x o h n.1
theorem DrwS.ext {H H' : Hp} {d sa : Addr} (h : DrwS H d sa) (s : ExtN H H') : DrwS H' d sa := by
  obtain ⟨ns, n, e1, e2, e3⟩ := h
  exact ⟨ns, n, s _ _ e1 (fun _ z => by cases z), s _ _ e2 (fun _ z => by cases z), e3⟩
theorem tabs_aft {T : List (Addr × Str)} {H H' : Hp} {d sa : Addr} (t : Tabs T H) (hd : DrwS H d sa) (s : Aft H H' d) : Tabs T H' := fun p hp => by
  obtain ⟨ps, h1, h2, h3⟩ := t p hp
  obtain ⟨ns, m, hd1, _⟩ := hd
  refine ⟨ps, s _ _ (fun e => by rw [e, hd1] at h1; cases h1) h1, h2, fun pos cv hc => ?_⟩
  obtain ⟨c, e1, e2⟩ := h3 pos cv hc
  exact ⟨c, e1, s _ _ (fun e => by rw [e, hd1] at e2; unfold CodeO at e2; cases e2) e2⟩
theorem nd_tup {xs : List V} : Nd (.tup xs) := ⟨fun _ z => (by cases z), fun _ _ z => (by cases z)⟩
theorem nd_frzT {o : Obj} {u : HO} : Nd (.frz o u) := ⟨fun _ z => (by cases z), fun _ _ z => (by cases z)⟩
theorem nd_ins {C dx : Addr} {fs : List (Str × V)} : Nd (.ins C dx fs) := ⟨fun _ z => (by cases z), fun _ _ z => (by cases z)⟩
theorem nd_own {a : Addr} : Nd (.own a) := ⟨fun _ z => (by cases z), fun _ _ z => (by cases z)⟩
theorem nd_dK {kvs : List (Key × V)} : Nd (.dK kvs) := ⟨fun _ z => (by cases z), fun _ _ z => (by cases z)⟩
theorem nd_strs {ys : List Str} : Nd (.lst (ys.map V.str)) := by
  refine ⟨fun _ z => (by cases z), fun a n z => ?_⟩
  cases ys with
  | nil => cases z
  | cons => cases z
theorem nd_refs {cs : List Addr} : Nd (.lst (cs.map V.ref)) := by
  refine ⟨fun _ z => (by cases z), fun a n z => ?_⟩
  cases cs with
  | nil => cases z
  | cons c r =>
    cases r with
    | nil => cases z
    | cons => cases z
theorem Kn.tup {K : PySem.W.Frag} {H H' : Hp} {a : Addr} {xs : List V} (s : Kn H H') (h : SqT K H a xs) : SqT K H' a xs := by
  rcases h with (h | ⟨o, h⟩) | h
  · exact .inl (.inl (s _ _ nd_tup h))
  · exact .inl (.inr ⟨o, s _ _ nd_frzT h⟩)
  · exact .inr h
theorem Kn.tupN {H H' : Hp} {a : Addr} {xs : List V} (s : Kn H H') (h : TupN H a xs) : TupN H' a xs := by
  obtain ⟨o, h, q⟩ := h
  exact ⟨o, s _ _ nd_frzT h, q⟩
theorem Kn.kd {K : PySem.W.Frag} {H H' : Hp} {B : List Str} (s : Kn H H') : ∀ {n : Nat} {v : V} {d : PyData}, KdH K H B n v d → KdH K H' B n v d
  | n + 1, v, d, .inl ⟨w, a, hw, e, ev, hS⟩ => .inl ⟨w, a, hw, e, ev, s.tup hS⟩
  | n + 1, v, d, .inr ⟨a, b, L, e, hs, ev, hS, hT, hL⟩ => .inr ⟨a, b, L, e, hs, ev, s.tup hS, s.tupN hT, fun r hr => ⟨s.tup (hL r hr).1, s.kd (hL r hr).2⟩⟩
theorem Kn.abv {H H' : Hp} {d : Addr} {ps : PSt} {ys : List Str} (s : Kn H H') (h : AbvD H d ps ys) : AbvD H' d ps ys := by
  obtain ⟨kvs, h1, h2, h3⟩ := h
  exact ⟨kvs, s _ _ nd_dK h1, h2, fun p hp x hx => by
    obtain ⟨l, zs, e, q, a⟩ := h3 p hp x hx
    exact ⟨l, zs, e, s _ _ nd_strs q, a⟩⟩
theorem Kn.room {H H' : Hp} {C p : Addr} {ps : PSt} {ys : List Str} {g : V} (s : Kn H H') (h : RoomAt H C p ps ys g) : RoomAt H' C p ps ys g := by
  obtain ⟨dx, dA, dn, df, h1, h2, h3, h4⟩ := h
  exact ⟨dx, dA, dn, df, s _ _ nd_ins h1, s.abv h2, s _ _ nd_dK h3, s _ _ nd_dK h4⟩
/-- the list of pairs, as the law makes it -/
def PrsN (H : Hp) (lo : Addr) (ps : PSt) : Prop := ∃ cs : List Addr, H lo = some (.lst (cs.map V.ref)) ∧ cs.length = ps.length ∧ ∀ (i : Nat) (c : Addr) (p : Str × Str), cs[i]? = some c → ps[i]? = some p → H c = some (.tup [.str p.1, .str p.2])
theorem PrsN.prs {K : PySem.W.Frag} {H : Hp} {lo : Addr} {ps : PSt} (h : PrsN H lo ps) : PrsL K H lo ps := by
  obtain ⟨cs, h1, h2, h3⟩ := h
  exact ⟨cs, SqL.of h1, h2, fun i c p e1 e2 => SqT.of (h3 i c p e1 e2)⟩
theorem Kn.prs {H H' : Hp} {lo : Addr} {ps : PSt} (s : Kn H H') (h : PrsN H lo ps) : PrsN H' lo ps := by
  obtain ⟨cs, h1, h2, h3⟩ := h
  exact ⟨cs, s _ _ nd_refs h1, h2, fun i c p e1 e2 => s _ _ nd_tup (h3 i c p e1 e2)⟩
theorem Kn.acc {H H' : Hp} {D : Addr} {o : HO} (hD : H D = none) (s : Kn H H') : Kn H (upd H' D o) := fun x u n hu => by
  rw [upd_ne (ne_of_none hu hD)]
  exact s x u n hu
theorem tabs_lst {T : List (Addr × Str)} {H : Hp} {D : Addr} {xs ys : List V} (t : Tabs T H) (hD : H D = some (.lst xs)) : Tabs T (upd H D (.lst ys)) := fun p hp => by
  obtain ⟨ps, h1, h2, h3⟩ := t p hp
  refine ⟨ps, by rw [upd_ne (fun e => by rw [e, hD] at h1; cases h1)]; exact h1, h2, fun pos cv hc => ?_⟩
  obtain ⟨c, e1, e2⟩ := h3 pos cv hc
  exact ⟨c, e1, by rw [upd_ne (fun e => by rw [e, hD] at e2; unfold CodeO at e2; cases e2)]; exact e2⟩
theorem cut_min (xs : List V) (i : Nat) : cutV xs none (some (i : Int)) = xs.take i := by
  unfold cutV
  have h0 : HT.sIx xs.length 0 none = 0 := rfl
  have h1 : HT.sIx xs.length xs.length (some (i : Int)) = min i xs.length := by
    unfold HT.sIx
    simp only [Int.toNat_natCast]
    rw [if_neg (by omega)]
  rw [h0, h1, List.drop_zero, Nat.sub_zero]
  by_cases h : i ≤ xs.length
  · rw [Nat.min_eq_left h]
  · rw [Nat.min_eq_right (by omega), List.take_of_length_le (Nat.le_refl _), List.take_of_length_le (by omega)]
section
variable {P : Program} {w : World} {K : PySem.W.Frag} {mg : Str → Option Value} {base : Heap} {fL cL : Addr} {A : Around} {outer : List Env} {s : Shared} {H0 : Hp} {Q0 : VK} {E : XK} {T : List (Addr × Str)}
theorem law0 : ∃ t, PS (XL P w K mg base fL cL A outer s H0 E) (stL 0) t ∧ ∀ (D : Ends) (a : Addr) (ns : List Int) (H : Hp), SqL K H a (ns.map V.int) → ns.length ≤ 63 → Tabs T H →
    (∀ d sa H', DrwS H' d sa → Tabs T H' → D.nx ((L2.start NL [.ref a]).set 1 (some (.ref d))) H') → t D (L2.start NL [.ref a]) H := by
  refine ⟨_, ps_set (i := 1) scLaw.nd rfl (Or.inr rfl) (pe_lst (pa_cons (pe_slice (r := rSlL K) sl_list (pv 0) po_none (po_some pe_int)) (pa_cons pe_int (pa_cons pe_int pa_nil)))), ?_⟩
  intro D a ns H hS hl hT q
  refine ⟨_, rfl, _, rfl, a, _, rfl, hS, fun p hp => ⟨(by show 3 ≤ sizeLine; decide), fun d hd => ?_⟩⟩
  have s1 := Same.new hp (.lst (cutV (ns.map V.int) none (some 63)))
  have s2 := Same.new hd (.lst [.ref p, .int 0, .int 0])
  refine q d p _ ⟨ns.take 63, 0, upd_same, s2 _ _ ?_, by rw [List.length_take]; omega, Int.le_refl _⟩ (hT.ext fun b o h => s2 _ _ (s1 _ _ h))
  rw [upd_same, show cutV (ns.map V.int) none (some 63) = (ns.map V.int).take 63 from cut_min _ 63, List.map_take]
theorem law1 (hr : Room 30 (XL P w K mg base fL cL A outer s H0 E).A) (cN : Cal P w K mg base "_law_next" ["draw", "bound"] spNext) :
    ∃ t, PS (XL P w K mg base fL cL A outer s H0 E) (stL 1) t ∧ ∀ (D : Ends) (a d sa : Addr) (H : Hp), DrwS H d sa → Tabs T H →
    (∀ lb n H', H' lb = some (.lst ((BAS.take (n + 1)).map V.str)) → DrwS H' d sa → Tabs T H' → n < 4 → D.nx (((L2.start NL [.ref a]).set 1 (some (.ref d))).set 2 (some (.ref lb))) H') → t D ((L2.start NL [.ref a]).set 1 (some (.ref d))) H := by
  refine ⟨_, ps_set (i := 2) scLaw.nd rfl (Or.inr rfl) (pe_slice (r := rSlL K) sl_list (pe_lst (pa_cons pe_str (pa_cons pe_str (pa_cons pe_str (pa_cons pe_str pa_nil))))) po_none
    (po_some (pe_op op_add pe_int (pe_cal cN hr (pa_cons (pv 1) (pa_cons pe_int pa_nil)))))), ?_⟩
  intro D a d sa H hd hT q
  refine ⟨(by show 4 ≤ sizeLine; decide), fun p hp => ?_⟩
  have s0 := Same.new hp (.lst [V.str "a", .str "b", .str "c", .str "d"])
  have d0 := hd.same s0
  have hp0 : upd H p (.lst [V.str "a", .str "b", .str "c", .str "d"]) p = some (.lst (BAS.map V.str)) := upd_same
  have hT0 := hT.ext (fun b o h => s0 b o h)
  generalize upd H p (.lst [V.str "a", .str "b", .str "c", .str "d"]) = H1 at *
  refine ⟨_, rfl, d, sa, 4, rfl, d0, by decide, fun r H' r0 r1 a1 d1 => ⟨_, _, rfl, rfl, _, rfl, p, _, rfl, SqL.of (Kn.aft d0 a1 _ _ nd_strs hp0), fun lb hlb => ?_⟩⟩
  have s1 := Same.new hlb (.lst (cutV (BAS.map V.str) none (some (1 + r))))
  obtain ⟨n, rfl⟩ : ∃ n : Nat, r = n := ⟨r.toNat, by omega⟩
  refine q lb n _ ?_ (d1.same s1) ((tabs_aft hT0 d0 a1).ext fun b o h => s1 b o h) (by omega)
  rw [upd_same, show (1 + (n : Int)) = ((n + 1 : Nat) : Int) from by omega, cut_min, List.map_take]
theorem law2 (hr : Room 30 (XL P w K mg base fL cL A outer s H0 E).A) (cN : Cal P w K mg base "_law_next" ["draw", "bound"] spNext) (cP : Cal P w K mg base "_law_pick" ["draw", "things"] (spPick K)) (mR : mg "range" = none) :
    ∃ t, PS (XL P w K mg base fL cL A outer s H0 E) (stL 2) t ∧ ∀ (D : Ends) (a d sa lb : Addr) (B : List Str) (H : Hp), DrwS H d sa → Tabs T H → B ≠ [] → H lb = some (.lst (B.map V.str)) →
    (∀ lo ps H', Kn H H' → DrwS H' d sa → Tabs T H' → PrsN H' lo ps → ps.length ≤ 3 → (∀ p ∈ ps, p.1 ∈ B ∧ p.2 ∈ B) → D.nx ((((L2.start NL [.ref a]).set 1 (some (.ref d))).set 2 (some (.ref lb))).set 3 (some (.ref lo))) H') →
    t D (((L2.start NL [.ref a]).set 1 (some (.ref d))).set 2 (some (.ref lb))) H := by
  refine ⟨_, ps_set (i := 3) scLaw.nd rfl (Or.inr rfl) (pe_lc (own := [("turn", 9)]) (g := gName 9) rfl scLaw.nd (pi_range1 rfl mR (pa_cons (pe_cal cN hr (pa_cons (pv 1) (pa_cons pe_int pa_nil))) pa_nil))
    (blkOk_by (N := NL) (sc := defScope sLaw) (by decide +kernel)) (fun _ _ _ _ _ => pg_name (i := 9) scLaw.nd rfl (Or.inl rfl)) (fun _ _ _ _ _ => pts_nil)
    (fun _ _ _ _ _ => pe_tup (pa_cons (pe_cal cP hr (pa_cons (pv 1) (pa_cons (pv 2) pa_nil))) (pa_cons (pe_cal cP hr (pa_cons (pv 1) (pa_cons (pv 2) pa_nil))) pa_nil)))), ?_⟩
  intro D a d sa lb B H hd hT hB hlb q
  have hBV : B.map V.str ≠ [] := fun z => hB (List.map_eq_nil_iff.mp z)
  refine ⟨_, rfl, d, sa, 4, rfl, hd, by decide, fun r H1 r0 r1 a1 d1 => ⟨r, rfl, by omega, by omega, fun D2 hD2 => ?_⟩⟩
  have k1 := Kn.aft hd a1
  have t1 := tabs_aft hT hd a1
  have hlb1 := k1 _ _ nd_strs hlb
  have nD := d1.new hD2
  refine lc_inv r.toNat (by omega) (fun i acc H' => Kn H1 H' ∧ DrwS H' d sa ∧ Tabs T H' ∧ ∃ (ps : PSt) (cs : List Addr), acc = cs.map V.ref ∧ cs.length = ps.length ∧ ps.length ≤ i ∧ (∀ p ∈ ps, p.1 ∈ B ∧ p.2 ∈ B) ∧
      ∀ (i : Nat) (c : Addr) (p : Str × Str), cs[i]? = some c → ps[i]? = some p → H' c = some (.tup [.str p.1, .str p.2]))
    ⟨Kn.of (Same.new hD2 _), d1.upd nD.1 nD.2, t1.ext (fun b o h => Same.new hD2 _ b o h), [], [], rfl, rfl, Nat.le_refl _, fun p hp => (nomatch hp), fun i c p e => by simp at e⟩
    (fun i acc H2 Ny Nx hi hacc ⟨k2, d2, t2, ps, cs, e, hl, hpl, hin, hcp⟩ qy qx => ?_) (fun acc H2 hacc ⟨k2, d2, t2, ps, cs, e, hl, hpl, hin, hcp⟩ => ?_)
  · refine ⟨hi, fun x H3 yl => ?_⟩
    obtain ⟨e3, ex⟩ := yl
    subst H3
    have hlb2 := k2 _ _ nd_strs hlb1
    have nlb : ∀ {H4 : Hp}, DrwS H4 d sa → H4 lb = some (.lst (B.map V.str)) → lb ≠ d := fun hh h e => by
      obtain ⟨ns, m, z, _⟩ := hh
      rw [e, z] at h
      exact (nd_strs (ys := B)).2 sa m (Option.some.inj h).symm
    refine ⟨rfl, _, rfl, _, rfl, d, sa, lb, _, rfl, d2, SqL.of hlb2, nlb d2 hlb2, hBV, fun j x1 H3 hx1 a3 d3 => ?_⟩
    have hlb3 := Kn.aft d2 a3 _ _ nd_strs hlb2
    refine ⟨_, rfl, _, rfl, d, sa, lb, _, rfl, d3, SqL.of hlb3, nlb d3 hlb3, hBV, fun j2 x2 H4 hx2 a4 d4 => ⟨(by show 2 ≤ sizeLine; decide), fun p hp => ?_⟩⟩
    have isS : ∀ {j : Nat} {x : V}, (B.map V.str)[j]? = some x → ∃ z, x = .str z ∧ z ∈ B := fun {j x} h => by
      rw [List.getElem?_map] at h
      cases ez : B[j]? with
      | none => rw [ez] at h; cases h
      | some z =>
        rw [ez] at h
        cases h
        exact ⟨z, rfl, List.mem_of_getElem? ez⟩
    obtain ⟨z1, rfl, hz1⟩ := isS hx1
    obtain ⟨z2, rfl, hz2⟩ := isS hx2
    have k34 := (Kn.aft d2 a3).trans (Kn.aft d3 a4)
    have hacc4 : H4 D2 = some (.lst acc) := a4 _ _ nD.1 (a3 _ _ nD.1 hacc)
    have np := d4.new hp
    have s5 := Same.new hp (.tup [.str z1, .str z2])
    have hacc5 := s5 _ _ hacc4
    have d5 := d4.upd (o := .tup [.str z1, .str z2]) np.1 np.2
    have t5 : Tabs T (upd H4 p (.tup [.str z1, .str z2])) := (tabs_aft (tabs_aft t2 d2 a3) d3 a4).ext fun b o h => s5 b o h
    have put : ∀ {c : Addr} {xs : List V}, upd H4 p (.tup [.str z1, .str z2]) c = some (.tup xs) → upd (upd H4 p (.tup [.str z1, .str z2])) D2 (.lst (acc ++ [V.ref p])) c = some (.tup xs) := fun {c xs} h => by
      rw [upd_ne (fun e => by rw [e, hacc5] at h; cases h)]
      exact h
    refine qy _ _ hacc5 ⟨Kn.acc hD2 ((k2.trans k34).trans (Kn.of s5)), d5.upd nD.1 nD.2, tabs_lst t5 hacc5, ps ++ [(z1, z2)], cs ++ [p], by rw [e, List.map_append]; rfl, by rw [List.length_append, List.length_append, hl]; rfl, by rw [List.length_append]; show ps.length + 1 ≤ i + 1; omega, fun p' hp' => ?_, fun j c p' e1 e2 => ?_⟩
    · rcases List.mem_append.mp hp' with h | h
      · exact hin p' h
      · cases List.mem_singleton.mp h
        exact ⟨hz1, hz2⟩
    · by_cases hj : j < cs.length
      · rw [List.getElem?_append_left hj] at e1
        rw [List.getElem?_append_left (by omega)] at e2
        exact put (s5 _ _ (k34 _ _ nd_tup (hcp j c p' e1 e2)))
      · rw [List.getElem?_append_right (by omega)] at e1 e2
        rw [hl] at e1
        cases ej : j - ps.length with
        | zero =>
          rw [ej] at e1 e2
          cases Option.some.inj e1
          cases Option.some.inj e2
          exact put upd_same
        | succ m =>
          rw [ej] at e1
          simp at e1
  · subst e
    refine ⟨Nat.le_refl _, q D2 ps H2 (k1.trans k2) d2 t2 ⟨cs, hacc, hl, hcp⟩ (by omega) hin⟩
end
end K1

end
section
set_option Elab.async false
set_option linter.all false
set_option maxRecDepth 100000
set_option maxHeartbeats 4000000
namespace K1
open PySem PySem.Spec PyProof.Rows L2 LamX
section
variable {P : Program} {w : World} {K : PySem.W.Frag} {mg : Str → Option Value} {base : Heap} {fL cL : Addr} {A : Around} {outer : List Env} {s : Shared} {H0 : Hp} {Q0 : VK} {E : XK} {T : List (Addr × Str)}
/-- the law's names: draw, bases, pairs, is_ring, room -/
abbrev s3 (a d lb lo : Addr) : L2.St := (((L2.start NL [.ref a]).set 1 (some (.ref d))).set 2 (some (.ref lb))).set 3 (some (.ref lo))
theorem law3 (hr : Room 30 (XL P w K mg base fL cL A outer s H0 E).A) (cA : Cal P w K mg base "_law_above" ["pairs", "base"] (spAbv K)) (mA : mg "any" = none) :
    ∃ t, PS (XL P w K mg base fL cL A outer s H0 E) (stL 3) t ∧ ∀ (D : Ends) (a d lb lo : Addr) (B : List Str) (ps : PSt) (H : Hp), (∀ x ∈ B, x ∈ BAS) → B.length ≤ 20 → H lb = some (.lst (B.map V.str)) → PrsN H lo ps → ps.length ≤ 20 → (∀ p ∈ ps, p.2 ∈ BAS) →
    (∀ ring H', Same H H' → (ring = true ↔ ∃ x ∈ B, Reach ps x x) → D.nx ((s3 a d lb lo).set 4 (some (.bl ring))) H') → t D (s3 a d lb lo) H := by
  refine ⟨_, ps_set (i := 4) scLaw.nd rfl (Or.inl rfl) (pe_callB (cr_any rfl) rfl mA (by decide +kernel) (pa_cons (pe_lc (own := [("base", 7)]) (g := gName 7) rfl scLaw.nd (pi_list (pv 2))
    (blkOk_by (N := NL) (sc := defScope sLaw) (by decide +kernel)) (fun _ _ _ _ _ => pg_name (i := 7) scLaw.nd rfl (Or.inl rfl)) (fun _ _ _ _ _ => pts_nil)
    (fun _ _ _ _ _ => pe_cmpR (r := rIn K false) op_in_seq (pv 7) (pe_cal cA hr (pa_cons (pv 3) (pa_cons (pv 7) pa_nil))) (by rfl))) pa_nil)), ?_⟩
  intro D a d lb lo B ps H hB hBl hlb hP hpl hps q
  refine ⟨_, rfl, lb, rfl, ⟨_, SqL.of hlb⟩, fun D2 hD2 => lcL ((B.map (rb ps)).map V.bl) (by rw [List.length_map, List.length_map, List.length_map]) (by rw [List.length_map]; omega) (SqL.of hlb) hD2 (fun i y x H' Q' hx hy s1 k => ?_) fun H' s1 hL => ?_⟩
  · rw [List.getElem?_map] at hx hy
    rw [List.getElem?_map] at hy
    cases ez : B[i]? with
    | none => rw [ez] at hx; cases hx
    | some z =>
      rw [ez] at hx hy
      cases hx
      cases hy
      refine ⟨rfl, _, rfl, _, rfl, _, rfl, z, lo, ps, rfl, hP.prs.same s1, hpl, hB z (List.mem_of_getElem? ez), hps, fun ys l H4 s4 _ hl _ _ hm => ?_⟩
      refine ⟨l, _, rfl, .inl (SqL.of hl), rfl, flat_strs ys, ?_⟩
      rw [if_neg (by decide), in_strs]
      have e : decide (z ∈ ys) = rb ps z := rb_mem hm
      rw [e]
      exact k H4 s4
  · refine ⟨D2, _, rfl, SqL.of hL, q _ H' s1 ?_⟩
    rw [List.any_map, List.any_eq_true]
    constructor
    · rintro ⟨x, hx, h⟩
      exact ⟨x, hx, rb_true.mp h⟩
    · rintro ⟨x, hx, h⟩
      exact ⟨x, hx, rb_true.mpr h⟩
end
/-- the table of the law's code: all its lambdas -/
abbrev TL (fL cL PL : Addr) : List (Addr × Str) := [(PL, (envOfC "law" (defScope sLaw) 0 fL (.ref cL)).qual ++ "<lambda>")]
/-- what a lambda of the law that is handed to _law_error asks -/
structure LamH (K : PySem.W.Frag) (mg : Str → Option Value) (base : Heap) (cL PL CB CT : Addr) : Prop where
  err : ∃ gE fdE, Fun K "_law_error" "_law_error" sErr gE fdE ∧ L2.Binds K fdE ["work"] [] ∧ mg "_law_error" = some (.ref gE)
  tb : TabB base mg cL PL
  m1 : mg "BadRoom" = some (.ref CB)
  m2 : mg "BadType" = some (.ref CT)
section
variable {P : Program} {w : World} {K : PySem.W.Frag} {mg : Str → Option Value} {base : Heap} {fL cL PL CB CT CR : Addr} {A : Around} {outer : List Env} {s : Shared} {H0 : Hp} {E : XK}
def rTupOf (K : PySem.W.Frag) : List V → Hp → VK → Prop := fun xs H Q => ∃ p ys, xs = [.ref p] ∧ ((SqL K H p ys ∧ ∀ l, H l = none → Q (.ref l) (upd H l (.tup ys))) ∨ (SqT K H p ys ∧ Q (.ref p) H))
theorem call_tupleR {X : Cx} : CallR X (.type "tuple") (rTupOf X.K) := call_tuple_of
theorem pe_err {params : Arguments} {body : Expr} {scope : Scope} {t : XK → TE} {p lpos pos : Pos} (h : LamH K mg base cL PL CB CT) (hr : Room 33 (XL P w K mg base fL cL A outer s H0 E).A) (L : LamS (defScope sLaw) scope)
    (hdef : defaultsOf params (XL P w K mg base fL cL A outer s H0 E).env = ([], []))
    (hbind : ∀ (q : Str) (cl : List (Str × Addr)) (pm cv ctv : Value), bindArgs (PySem.W.kla_fn "<lambda>" q params body scope cl pm cv ctv) ⟨[], []⟩ = pure [])
    (hbody : ∀ (A' : Around) (outer' : List Env) (s' : Shared) (H : Hp) (E' : XK) (f c' : Addr), Room 31 (A'.deeper (lamEnv (XL P w K mg base fL cL A outer s H0 E) scope s'.heap.objs.size f c')) → PE (lamCx (XL P w K mg base fL cL A outer s H0 E) A' outer' s' H E' scope f c') body (t E')) :
    PE (XL P w K mg base fL cL A outer s H0 E) (.Call (.Name "_law_error" p) [.Lambda params body scope lpos] [] pos) (tLam (TL fL cL PL) (TT2 K CB CT) t) := by
  obtain ⟨gE, fdE, FE, bE, mE⟩ := h.err
  obtain ⟨oc, od, kV, doc, pm, an, cdv, ct, osl, e, lk, hcd⟩ := FE.ex
  subst e
  exact pe_lamcall (k := 31) rfl mE FE.kp lk hcd bE scErr rfl (Or.inl rfl) (err_gives h.m1 h.m2) h.tb rfl (List.mem_singleton.mpr rfl) (fun p hp _ => by rw [List.mem_singleton.mp hp]; rfl) hr L hdef hbind hbody
theorem recD_nil : recD [] = .tuple [.str "record", .tuple []] := rfl
theorem fine_rec : Fine (recD []) := ⟨by decide +kernel, by decide +kernel⟩
theorem tabs_but {T : List (Addr × Str)} {H1 H2 H' : Hp} {p : Addr} (t : Tabs T H1) (s : Same H1 H2) (hp : H1 p = none) (b : But p H2 H') : Tabs T H' := t.ext fun x o h => b x o (ne_of_none h hp) (s x o h)
/-- a room that is made: what its arguments are, and what comes of it -/
theorem make_room {K : PySem.W.Frag} {CB CR : Addr} {H : Hp} {b lo dn df g : Addr} {B : List Str} {ps : PSt} {gd : PyData} {Q : VK} {E' : XK} (hM : Mkb K H b lo B ps) (hn : H dn = some (.dK [])) (hf : H df = some (.dK [])) (hg : Dp K H (.ref g) gd) (hgf : Fine gd) (hgn : isNest 8 gd = true)
    (hgc : (∃ a wd, (V.ref g) = .ref a ∧ gd = baseD wd ∧ SqT K H a [.str "base", .str wd] ∧ wd ∈ B) ∨ ∃ a b, (V.ref g) = .ref a ∧ gd = recD [] ∧ SqT K H a [.str "record", .ref b] ∧ SqT K H b [])
    (qE : (∃ x ∈ B, Reach ps x x) → ∀ H', Same H H' → E' (.ref CB) none H')
    (qQ : (∀ x ∈ B, ¬ Reach ps x x) → ∀ (p : Addr) (ys : List Str) (H' : Hp), Same H H' → ys.Perm B → sortedS ys = true → RoomAt H' CR p ps ys (.ref g) → Q (.ref p) H') :
    ∀ x dx, H x = none → H dx = none → dx ≠ x → spInit K CB CR (.ref x :: ([.ref b, .ref lo, .ref dn, .ref df, .ref g] ++ [])) (upd (upd H dx (.own x)) x (.ins CR dx [])) (fun v H2 => v = .non ∧ Q (.ref x) H2) E' := by
  intro x dx hx hdx hne
  have hx1 : upd H dx (.own x) x = none := by rw [upd_ne (Ne.symm hne)]; exact hx
  have s1 : Same H (upd (upd H dx (.own x)) x (.ins CR dx [])) := (Same.new hdx _).trans (Same.new hx1 _)
  have out : ∀ {H'}, But x (upd (upd H dx (.own x)) x (.ins CR dx [])) H' → Same H H' := fun bt y o h => bt y o (ne_of_none h hx) (s1 y o h)
  refine ⟨x, dx, b, lo, dn, df, B, ps, .ref g, gd, rfl, upd_same, ⟨hM.b.same s1, hM.l1, hM.l12, hM.nd, hM.w, hM.p.same s1, hM.l20, hM.sub⟩, s1 _ _ hn, s1 _ _ hf, dp_same s1 hg, hgf, hgn, ?_, fun hr H' bt => qE hr H' (out bt), fun hno ys H' bt hp hso hR => ⟨rfl, qQ hno x ys H' (out bt) hp hso hR⟩⟩
  rcases hgc with ⟨a, wd, e1, e2, e3, e4⟩ | ⟨a, b', e1, e2, e3, e4⟩
  · exact .inl ⟨a, wd, e1, e2, Same.tup s1 e3, e4⟩
  · exact .inr ⟨a, b', e1, e2, Same.tup s1 e3, Same.tup s1 e4⟩
/-- the base types that the law draws -/
def BOk (B : List Str) : Prop := B ≠ [] ∧ B.length ≤ 4 ∧ B.Nodup ∧ ∀ x ∈ B, x ∈ BAS
theorem bok_take {n : Nat} (h : n < 4) : BOk (BAS.take (n + 1)) := by
  have : ∀ n < 4, BAS.take (n + 1) ≠ [] ∧ (BAS.take (n + 1)).length ≤ 4 ∧ (BAS.take (n + 1)).Nodup ∧ ∀ x ∈ BAS.take (n + 1), x ∈ BAS := by decide +kernel
  exact this n h
theorem bas_len : ∀ x ∈ BAS, x.length ≤ 20 := by decide +kernel
theorem mkb_of {K : PySem.W.Frag} {H : Hp} {b lo : Addr} {B : List Str} {ps : PSt} (hB : BOk B) (hb : SqE K H b (B.map V.str)) (hp : PrsL K H lo ps) (hl : ps.length ≤ 20) (hs : ∀ p ∈ ps, p.1 ∈ B ∧ p.2 ∈ B) : Mkb K H b lo B ps :=
  ⟨hb, List.length_pos_iff.mpr hB.1, by have := hB.2.1; omega, hB.2.2.1, fun x hx => ⟨bas_word x (hB.2.2.2 x hx), bas_len x (hB.2.2.2 x hx)⟩, hp, hl, hs⟩
theorem law4 (hr : Room 33 (XL P w K mg base fL cL A outer s H0 E).A) (h : LamH K mg base cL PL CB CT) {fI : Addr} {fdI : FuncData} (M : Mk K CR fI) (FI : FnOk P w K mg base (L2.CX P w) 30 fI fdI NI (spInit K CB CR)) (bI : L2.Binds K fdI NI []) (mR : mg "Room" = some (.ref CR)) (mT : mg "tuple" = none)
    (xB : PySem.W.exmOne K (.ref CB) (.ref CB) = some true) :
    ∃ t, PS (XL P w K mg base fL cL A outer s H0 E) (stL 4) t ∧ ∀ (D : Ends) (a d sa lb lo : Addr) (rg : V) (B : List Str) (ps : PSt) (H : Hp), DrwS H d sa → Tabs (TL fL cL PL) H → BOk B → H lb = some (.lst (B.map V.str)) → PrsN H lo ps → ps.length ≤ 20 → (∀ p ∈ ps, p.1 ∈ B ∧ p.2 ∈ B) →
    ((∃ x ∈ B, Reach ps x x) → ∀ r H', Kn H H' → DrwS H' d sa → Tabs (TL fL cL PL) H' → H' r = some (.tup [.str "BadRoom"]) → D.nx (((s3 a d lb lo).set 4 (some rg)).set 5 (some (.ref r))) H') →
    ((∀ x ∈ B, ¬ Reach ps x x) → ∀ r ys g H', Kn H H' → DrwS H' d sa → Tabs (TL fL cL PL) H' → ys.Perm B → sortedS ys = true → RoomAt H' CR r ps ys g → Dp K H' g (recD []) → D.nx (((s3 a d lb lo).set 4 (some rg)).set 5 (some (.ref r))) H') → t D ((s3 a d lb lo).set 4 (some rg)) H := by
  refine ⟨_, ps_set (i := 5) scLaw.nd rfl (Or.inr rfl) (pe_err h hr (lamS_by (by decide +kernel)) rfl (fun _ _ _ _ _ => rfl) (fun A' outer' s' H' E' f c' hr' =>
    pe_make M FI hr' rfl mR bI .nil (passes_call (takes_of rfl rfl rfl rfl) (fun _ _ _ _ z => z)) (pa_cons (pe_callTy (T := "tuple") (r := rTupOf K) call_tupleR rfl mT (by decide +kernel) (pa_cons (pv 2) pa_nil)) (pa_cons (pv 3) (pa_cons pe_dnewK (pa_cons pe_dnewK (pa_cons (pe_tup (pa_cons pe_str (pa_cons (pe_tup pa_nil) pa_nil))) pa_nil))))))), ?_⟩
  intro D a d sa lb lo rg B ps H hd hT hB hlb hP hl hs qE qQ
  refine ⟨hT, fun H1 e1 t1 => ?_⟩
  have k1 := Kn.ext e1
  have d1 := hd.ext e1
  have hlb1 := k1 _ _ nd_strs hlb
  have hP1 := k1.prs hP
  refine ⟨_, rfl, lb, _, rfl, .inl ⟨SqL.of hlb1, fun lt hlt => ⟨_, rfl, fun dn hdn => fun df hdf => ⟨(by show 0 ≤ sizeLine; decide), fun q hq => ⟨(by show 2 ≤ sizeLine; decide), fun g hg => ?_⟩⟩⟩⟩⟩
  have n1 := Same.new hlt (.tup (B.map V.str))
  have n2 := Same.new hdn (.dK [])
  have n3 := Same.new hdf (.dK [])
  have n4 := Same.new hq (.tup [])
  have n5 := Same.new hg (.tup [.str "record", .ref q])
  have sn := (((n1.trans n2).trans n3).trans n4).trans n5
  have hq5 := n5 _ _ (upd_same (H := upd (upd (upd H1 lt (.tup (B.map V.str))) dn (.dK [])) df (.dK [])) (a := q) (o := .tup []))
  intro x dx hx hdx hne
  refine make_room (Q := fun v H2 => D.nx (((s3 a d lb lo).set 4 (some rg)).set 5 (some v)) H2) (mkb_of hB (.inr (SqT.of ((((n2.trans n3).trans n4).trans n5) _ _ upd_same))) (hP1.prs.same sn) hl hs) (((n3.trans n4).trans n5) _ _ upd_same) ((n4.trans n5) _ _ upd_same) (dp_ref (SqT.of upd_same) (.str _) (.tup (SqT.of hq5) .nil)) fine_rec (by decide +kernel)
    (.inr ⟨g, q, rfl, rfl, SqT.of upd_same, SqT.of hq5⟩) (fun hring H' s' => ?_) (fun hno p ys H' s' hperm hso hR => ?_) x dx hx hdx hne
  · refine ⟨true, xB, fun _ p hp => ?_, fun z => nomatch z⟩
    have s2 := (sn.trans s').trans (Same.new hp (.tup [.str "BadRoom"]))
    exact qE hring p _ (k1.trans (Kn.of s2)) (d1.same s2) (t1.ext fun x o hx => s2 x o hx) upd_same
  · have s2 := sn.trans s'
    exact qQ hno p ys _ H' (k1.trans (Kn.of s2)) (d1.same s2) (t1.ext fun x o hx => s2 x o hx) hperm hso hR (dp_same s' (dp_ref (SqT.of upd_same) (.str _) (.tup (SqT.of hq5) .nil)))
end
end K1

end
section
set_option Elab.async false
set_option linter.all false
set_option maxRecDepth 100000
set_option maxHeartbeats 4000000
namespace K1
open PySem PySem.Spec PyProof.Rows L2 LamX
def rOr (r1 r2 : R2) : R2 := fun x y H Q => r1 x y H Q ∨ r2 x y H Q
theorem op_or {X : Cx} {f : Value → Value → Sem Value} {r1 r2 : R2} (h1 : OpR X f r1) (h2 : OpR X f r2) : OpR X f (rOr r1 r2) := fun pins s σ H x y v u Q I rx ry h => h.elim (fun q => h1 pins s σ H x y v u Q I rx ry q) fun q => h2 pins s σ H x y v u Q I rx ry q
/-- what == and != of rooms ask -/
structure RmEq (K : PySem.W.Frag) (mg : Str → Option Value) (CR fQ : Addr) (fdQ : FuncData) : Prop where
  F : Fun K "__eq__" "Room.__eq__" sEqM fQ fdQ
  b : L2.Binds K fdQ ["self", "other"] []
  mI : mg "isinstance" = none
  mN : mg "NotImplemented" = none
  R : RI K mg CR
  T : RT K CR
  hk : PySem.W.kitOne K (.type "tuple") (.ref CR) = some false
  hs : PySem.W.findIn K (.ref CR) "__eq__" = some (some (.ref fQ))
  hf : PySem.W.isFn K (.ref fQ) = true
  h1 : PySem.W.subIn K (.type "tuple") (.ref CR) = some false
  h2 : PySem.W.subIn K (.ref CR) (.type "tuple") = some false
  hn : PySem.W.findIn K (.ref CR) "__ne__" = some (some (.builtin "object.__ne__"))
  hob : PySem.W.subIn K (.ref CR) (.type "object") = some true
section
variable {P : Program} {w : World} {K : PySem.W.Frag} {mg : Str → Option Value} {base : Heap} {fL cL PL CB CT CR fQ : Addr} {fdQ : FuncData} {A : Around} {outer : List Env} {s : Shared} {H0 : Hp} {E : XK} {T : List (Addr × Str)}
theorem op_rt' {X : Cx} (hr : Room 1 X.A) (h : RmEq X.K X.mg CR fQ fdQ) : OpR X (compareOp .Eq) (rRT X.K CR) := op_rt (n := 0) hr h.F h.b h.mI h.mN h.R.g h.hk h.hs h.hf h.h1 h.h2
abbrev s5 (a d lb lo : Addr) (ring : Bool) (r : Addr) : L2.St := ((s3 a d lb lo).set 4 (some (.bl ring))).set 5 (some (.ref r))
theorem law5 (hr : Room 33 (XL P w K mg base fL cL A outer s H0 E).A) (h : RmEq K mg CR fQ fdQ) :
    ∃ t, PS (XL P w K mg base fL cL A outer s H0 E) (stL 5) t ∧ ∀ (D : Ends) (a d lb lo r : Addr) (ring : Bool) (H : Hp),
    ((ring = true ∧ H r = some (.tup [.str "BadRoom"]) ∧ ∀ H', D.rt (.bl true) H') ∨ (ring = false ∧ (∃ dx fs, H r = some (.ins CR dx fs)) ∧ ∀ H', Same H H' → D.nx (s5 a d lb lo ring r) H')) → t D (s5 a d lb lo ring r) H := by
  refine ⟨_, ps_if (PW.pt (pw_or (pt_val (pv 4)) (pw_or1 (pt_cmpR (r := rOr (rEqD K) (rRT K CR)) (op_or (op_eqD hr.units) (op_rt' (X := XL P w K mg base fL cL A outer s H0 E) (hr.mono (by omega)) h)) (pv 5) (pe_tup (pa_cons pe_str pa_nil)) (nomark _)))))
    (pss_one (ps_ret (pe_and (pv 4) (pe_one (pe_cmpR (r := rOr (rEqD K) (rRT K CR)) (op_or (op_eqD hr.units) (op_rt' (X := XL P w K mg base fL cL A outer s H0 E) (hr.mono (by omega)) h)) (pv 5) (pe_tup (pa_cons pe_str pa_nil)) (nomark _)))))) pss_nil, ?_⟩
  intro D a d lb lo r ring H hyp
  rcases hyp with ⟨rfl, hT, q⟩ | ⟨rfl, ⟨dx, fs, hI⟩, q⟩
  · refine ⟨_, rfl, true, rfl, iteT (iteT ⟨_, rfl, true, rfl, iteT ⟨_, rfl, (by show 1 ≤ sizeLine; decide), fun p hp => .inl ?_⟩⟩)⟩
    have s1 := Same.new hp (.tup [.str "BadRoom"])
    refine ⟨.tuple [.str "BadRoom"], .tuple [.str "BadRoom"], .tup (SqT.of (s1 _ _ hT)) (.cons (.str _) .nil), .tup (SqT.of upd_same) (.cons (.str _) .nil), by decide +kernel, by decide +kernel, ?_⟩
    have e : PyData.eqv (.tuple [.str "BadRoom"]) (.tuple [.str "BadRoom"]) = true := by decide +kernel
    rw [e]
    exact q _
  · refine ⟨_, rfl, false, rfl, iteF ⟨_, rfl, (by show 1 ≤ sizeLine; decide), fun p hp => .inr ?_⟩⟩
    have s1 := Same.new hp (.tup [.str "BadRoom"])
    exact ⟨r, p, dx, fs, _, rfl, rfl, s1 _ _ hI, SqT.of upd_same, fun H' s' => ⟨_, rfl, iteF (q H' (s1.trans s'))⟩⟩
theorem law6 : ∃ t, PS (XL P w K mg base fL cL A outer s H0 E) (stL 6) t ∧ ∀ (D : Ends) (a d lb lo r : Addr) (ring : Bool) (H : Hp), (∀ l H', Same H H' → H l = none → H' l = some (.lst []) → D.nx ((s5 a d lb lo ring r).set 6 (some (.ref l))) H') → t D (s5 a d lb lo ring r) H := by
  refine ⟨_, ps_set (i := 6) scLaw.nd rfl (Or.inl rfl) (pe_lst pa_nil), ?_⟩
  intro D a d lb lo r ring H q
  exact ⟨(by show 0 ≤ sizeLine; decide), fun l hl => q l _ (Same.new hl _) hl upd_same⟩
theorem shaped_pairs {qs : List (Str × Str)} (h : ∀ p ∈ qs, p.1 ∈ BAS ∧ p.2 ∈ BAS) : SeqAt.shaped (.list (qs.map pairD)) = true := by
  have bok : ∀ x ∈ BAS, PyData.strOk x = true := by decide +kernel
  refine shaped_mk ?_ ?_
  · simp only [PyData.canLay0]
    refine lay_mem fun d hd => ?_
    obtain ⟨p, hp, e⟩ := List.mem_map.mp hd
    subst e
    unfold pairD
    simp only [PyData.canLay0]
    refine lay_mem fun d hd => ?_
    rcases List.mem_cons.mp hd with e | e
    · rw [e]; exact lay_str (bok _ (h p hp).1)
    · rw [List.mem_singleton.mp e]; exact lay_str (bok _ (h p hp).2)
  · simp only [PyData.depth]
    have : PyData.depthAll (qs.map pairD) ≤ 1 := depth_mem fun d hd => by
      obtain ⟨p, _, e⟩ := List.mem_map.mp hd
      subst e
      unfold pairD
      simp only [PyData.depth]
      have : PyData.depthAll [PyData.str p.1, .str p.2] ≤ 0 := depth_mem fun d hd => by
        rcases List.mem_cons.mp hd with e | e
        · rw [e]; simp only [PyData.depth]; exact Nat.le_refl _
        · rw [List.mem_singleton.mp e]; simp only [PyData.depth]; exact Nat.le_refl _
      omega
    omega
abbrev s7 (a d lb lo r l : Addr) (ring : Bool) (v7 : Option V) : L2.St := ((s5 a d lb lo ring r).set 6 (some (.ref l))).set 7 v7
theorem law7 (hr : Room 33 (XL P w K mg base fL cL A outer s H0 E).A) (cA : Cal P w K mg base "_law_above" ["pairs", "base"] (spAbv K)) :
    ∃ t, PS (XL P w K mg base fL cL A outer s H0 E) (stL 7) t ∧ ∀ (D : Ends) (a d sa lb lo r l : Addr) (ring : Bool) (B : List Str) (ps : PSt) (Hb H : Hp), Hb l = none → Kn Hb H → DrwS H d sa → Tabs T H → l ≠ d → l ≠ sa → H l = some (.lst []) → BOk B → Hb lb = some (.lst (B.map V.str)) → PrsN Hb lo ps → ps.length ≤ 20 → (∀ p ∈ ps, p.2 ∈ BAS) →
    (∀ qs v7 H', Kn Hb H' → DrwS H' d sa → Tabs T H' → PrsN H' l qs → (∀ p, p ∈ qs ↔ p.1 ∈ B ∧ Reach ps p.1 p.2) → D.nx (s7 a d lb lo r l ring v7) H') → t D ((s5 a d lb lo ring r).set 6 (some (.ref l))) H := by
  refine ⟨_, ps_for PassesOwn.never rfl (pi_list (pv 2)) (pg_name (i := 7) scLaw.nd rfl (Or.inr rfl)) (pss_one (ps_expr (pe_bm PySem.F.plainAttrs_list PySem.F.slot_list_extend PySem.F.type_list_extend mt_extend (pv 6) (pa_cons
    (pe_lc (own := [("upper", 16)]) (g := gName 16) rfl scLaw.nd (pi_list (pe_cal cA (hr.mono (by omega)) (pa_cons (pv 3) (pa_cons (pv 7) pa_nil))))
      (blkOk_by (N := NL) (sc := defScope sLaw) (by decide +kernel)) (fun _ _ _ _ _ => pg_name (i := 16) scLaw.nd rfl (Or.inl rfl)) (fun _ _ _ _ _ => pts_nil)
      (fun _ _ _ _ _ => pe_tup (pa_cons (pv 7) (pa_cons (pv 16) pa_nil)))) pa_nil)))), ?_⟩
  intro D a d sa lb lo r l ring B ps Hb H hlb kb hd hT n1 n2 hl hB hbs hP hpl hps q
  have hS := fun {H'} (k : Kn Hb H') => SqL.of (K := K) (k _ _ nd_strs hbs)
  refine ⟨_, rfl, lb, rfl, ⟨_, hS kb⟩, for_list (K := K) (a := lb) (xs := B.map V.str) (fun i σ H2 => ∃ (v7 : Option V) (qs : PSt), σ = s7 a d lb lo r l ring v7 ∧ Kn Hb H2 ∧ DrwS H2 d sa ∧ Tabs T H2 ∧ PrsN H2 l qs ∧ qs.length ≤ 20 * i ∧ ∀ p, p ∈ qs ↔ p.1 ∈ B.take i ∧ Reach ps p.1 p.2)
    ⟨none, [], rfl, kb, hd, hT, ⟨[], hl, rfl, fun i c p e => by simp at e⟩, Nat.zero_le _, fun p => by simp⟩ (fun i σ H2 _ ⟨_, _, _, k2, _⟩ => hS k2) ?_ ?_⟩
  · rintro i x σ H2 hx ⟨v7, qs, rfl, k2, d2, t2, hq2, hql, hqm⟩
    rw [List.getElem?_map] at hx
    cases ez : B[i]? with
    | none => rw [ez] at hx; cases hx
    | some z =>
      rw [ez] at hx
      cases hx
      have hzB := List.mem_of_getElem? ez
      have hi4 : i < 4 := by
        have := (List.getElem?_eq_some_iff.mp ez).1
        have := hB.2.1
        omega
      obtain ⟨cs, hc1, hc2, hc3⟩ := hq2
      refine ⟨_, rfl, .inl ⟨rfl, _, SqL.of hc1⟩, _, rfl, _, rfl, z, lo, ps, rfl, (k2.prs hP).prs, hpl, hB.2.2.2 z hzB, hps, fun ys l2 H4 s4 _ hl2 _ hyl hm => ⟨l2, rfl, ⟨_, SqL.of hl2⟩, fun D2 hD2 => ?_⟩⟩
      have d4 := d2.same s4
      have nD := d4.new hD2
      refine lc_inv ys.length (by omega) (fun j acc H5 => Same H4 H5 ∧ ∃ es : List Addr, acc = es.map V.ref ∧ es.length = j ∧ ∀ (m : Nat) (c : Addr) (y : Str), es[m]? = some c → ys[m]? = some y → H5 c = some (.tup [.str z, .str y])) ⟨Same.new hD2 _, [], rfl, rfl, fun m c y e => by simp at e⟩
        (fun j acc H5 Ny Nx hj hacc ⟨s5', es, e, hel, hes⟩ qy qx => ?_) (fun acc H5 hacc ⟨s5', es, e, hel, hes⟩ => ?_)
      · have hy : ys[j]? = some ys[j] := List.getElem?_eq_getElem hj
        have hl5 : SqL K H5 l2 (ys.map V.str) := SqL.of (s5' _ _ hl2)
        have hV : (ys.map V.str)[j]? = some (.str ys[j]) := by rw [List.getElem?_map, hy]; rfl
        refine ⟨⟨_, _, hl5, hV⟩, fun x H6 yl => ?_⟩
        obtain ⟨e6, yl⟩ := yl
        subst H6
        have ex : x = .str ys[j] := by
          have zz := yl _ hl5
          rw [hV] at zz
          exact (Option.some.inj zz).symm
        subst ex
        refine ⟨rfl, _, rfl, _, rfl, (by show 2 ≤ sizeLine; decide), fun p hp => ?_⟩
        have s6 := Same.new hp (.tup [.str z, .str ys[j]])
        have hacc6 := s6 _ _ hacc
        refine qy _ _ hacc6 ⟨same_acc hD2 (s5'.trans s6), es ++ [p], by rw [e, List.map_append]; rfl, by rw [List.length_append, hel]; rfl, fun m c y e1 e2 => ?_⟩
        have put : upd H5 p (.tup [.str z, .str ys[j]]) c = some (.tup [.str z, .str y]) → upd (upd H5 p (.tup [.str z, .str ys[j]])) D2 (.lst (acc ++ [V.ref p])) c = some (.tup [.str z, .str y]) := fun h => by
          rw [upd_ne (fun e => by rw [e, hacc6] at h; cases h)]
          exact h
        by_cases hm2 : m < es.length
        · rw [List.getElem?_append_left hm2] at e1
          exact put (s6 _ _ (hes m c y e1 e2))
        · rw [List.getElem?_append_right (by omega)] at e1
          cases ej : m - es.length with
          | zero =>
            rw [ej] at e1
            cases Option.some.inj e1
            have em : m = j := by omega
            rw [em, hy] at e2
            cases Option.some.inj e2
            exact put upd_same
          | succ m' =>
            rw [ej] at e1
            simp at e1
      · subst e
        refine ⟨⟨_, SqL.of (s5' _ _ hl2), by rw [List.length_map]; exact Nat.le_refl _⟩, ?_⟩
        have s45 := s4.trans s5'
        have hl5 := s45 _ _ hc1
        refine ⟨l, D2, _, _, rfl, rfl, hl5, hacc, by rw [List.length_map, List.length_map]; exact Nat.le_of_lt (small1000 (by omega)), ?_⟩
        have put : ∀ {c : Addr} {xs : List V}, H5 c = some (.tup xs) → upd H5 l (.lst (cs.map V.ref ++ es.map V.ref)) c = some (.tup xs) := fun {c xs} h => by
          rw [upd_ne (fun e => by rw [e, hl5] at h; cases h)]
          exact h
        refine ⟨some (.str z), qs ++ ys.map (fun y => (z, y)), rfl, Kn.acc hlb (k2.trans (Kn.of s45)), (d2.same s45).upd n1 n2, tabs_lst (t2.ext fun x o h => s45 x o h) hl5, ⟨cs ++ es, by rw [upd_same, List.map_append], by rw [List.length_append, List.length_append, List.length_map, hc2, hel], fun m c p e1 e2 => ?_⟩, ?_, fun p => ?_⟩
        · by_cases hm2 : m < cs.length
          · rw [List.getElem?_append_left hm2] at e1
            rw [List.getElem?_append_left (by omega)] at e2
            exact put (s45 _ _ (hc3 m c p e1 e2))
          · rw [List.getElem?_append_right (by omega)] at e1 e2
            rw [hc2] at e1
            rw [List.getElem?_map] at e2
            cases ey : ys[m - qs.length]? with
            | none => rw [ey] at e2; cases e2
            | some y =>
              rw [ey] at e2
              cases Option.some.inj e2
              exact put (hes _ c y e1 ey)
        · rw [List.length_append, List.length_map]
          omega
        · rw [List.mem_append, hqm, take_more ez, List.mem_append, List.mem_singleton, List.mem_map]
          obtain ⟨u, v⟩ := p
          constructor
          · rintro (⟨h1, h2⟩ | ⟨y, hy, e⟩)
            · exact ⟨.inl h1, h2⟩
            · cases e
              exact ⟨.inr rfl, (hm _).mp hy⟩
          · rintro ⟨h1 | h1, h2⟩
            · exact .inl ⟨h1, h2⟩
            · have h1' : u = z := h1
              subst h1'
              exact .inr ⟨v, (hm v).mpr h2, rfl⟩
  · rintro σ H2 ⟨v7, qs, rfl, k2, d2, t2, hq2, hql, hqm⟩
    refine q qs v7 H2 k2 d2 t2 hq2 fun p => ?_
    rw [hqm, List.length_map, List.take_length]
abbrev s8 (a d lb lo r l o : Addr) (ring : Bool) (v7 : Option V) : L2.St := (s7 a d lb lo r l ring v7).set 8 (some (.ref o))
theorem own_of {K : PySem.W.Frag} {H : Hp} {o l : Addr} {qs : PSt} (ho : H o = some (.dK [(Sum.inr "order", .ref l)])) (hq : PrsN H l qs) (hb : ∀ p ∈ qs, p.1 ∈ BAS ∧ p.2 ∈ BAS) : OwnO K H o qs := by
  obtain ⟨cs, h1, h2, h3⟩ := hq
  refine ⟨l, ho, .lst (SqL.of h1) ?_, shaped_pairs hb⟩
  clear h1 ho hb
  induction cs generalizing qs with
  | nil =>
    cases qs with
    | nil => exact .nil
    | cons => cases h2
  | cons c cs ih =>
    cases qs with
    | nil => cases h2
    | cons p qs =>
      exact .cons (dp_ref (SqT.of (h3 0 c p rfl rfl)) (.str _) (.str _)) (ih (by simpa using h2) fun i c' p' e1 e2 => h3 (i + 1) c' p' e1 e2)
theorem law8 : ∃ t, PS (XL P w K mg base fL cL A outer s H0 E) (stL 8) t ∧ ∀ (D : Ends) (a d lb lo r l : Addr) (ring : Bool) (v7 : Option V) (H : Hp),
    (∀ o H', Same H H' → H' o = some (.dK [(Sum.inr "order", .ref l)]) → D.nx (s8 a d lb lo r l o ring v7) H') → t D (s7 a d lb lo r l ring v7) H := by
  refine ⟨_, ps_set (i := 8) scLaw.nd rfl (Or.inl rfl) (pe_disp (pps_cons pe_str (pv 6) pps_nil) rfl rfl (by simp) (by decide)), ?_⟩
  intro D a d lb lo r l ring v7 H q
  refine fun p hp => ⟨_, rfl, upd_same, [(Sum.inr "order", .ref l)], rfl, (by show 1 ≤ 15; decide), q p _ ?_ upd_same⟩
  exact same_acc hp (Same.new hp _)
end
end K1

end
section
set_option Elab.async false
set_option linter.all false
set_option maxRecDepth 100000
set_option maxHeartbeats 4000000
namespace K1
open PySem L2
section
variable {P : Program} {w : World} {K : PySem.W.Frag} {mg : Str → Option Value} {base : Heap} {aA aN : Addr}
abbrev sLText : Stmt := tp 44
theorem scLText : FnScope ["kind", "field", "part"] ["kind"] (defScope sLText) := ⟨rfl, rfl, rfl, by decide +kernel, rfl, by decide +kernel, by decide +kernel⟩
def spLText (K : PySem.W.Frag) (n : Nat) : Sp := fun vs H Q _ => ∃ v d, vs = [v] ∧ Dp K H v d ∧ n ≤ 5 ∧ KdOk BAS n d ∧ ∀ H', Same H H' → Q (.str (textD n d)) H'
theorem ok_ltext {n : Nat} {f : Addr} {fd : FuncData} (F : Fun K "_law_text_of" "_law_text_of" sLText f fd) (G : FnOk P w K mg base CX0 n f fd ["kind"] (spLText K n)) (bG : Binds K fd ["kind"] []) (mG : mg "_law_text_of" = some (.ref f)) :
    FnOk P w K mg base CX0 (n + 1) f fd ["kind"] (spLText K (n + 1)) := by
  refine F.ok scLText (fun vs H Q E h => ?_) (fun cdv A outer s H vs Q E hr h => ?_)
  · obtain ⟨v, d, rfl, _⟩ := h
    rfl
  obtain ⟨v, d, rfl, hd, hn, hk, q⟩ := h
  refine ⟨_, pss_cons (ps_if (pt_cmpR (op_eqD hr.units) (pe_ix ix_tup (pv 0) pe_int (fun _ _ => rfl)) pe_str (nomark _)) (pss_one (ps_ret (pe_ix ix_tup (pv 0) pe_int (fun _ _ => rfl)))) pss_nil)
    (pss_one (ps_ret (pe_op op_add_str (pe_op op_add_str pe_str (pe_join pe_str
      (pe_lc (own := [("field", 1), ("part", 2)]) (g := gTup K 2 (gCons (gName 1) (gCons (gName 2) gNil))) rfl scLText.nd (pi_tup (pe_ix ix_tup (pv 0) pe_int (fun _ _ => rfl)))
      (blkOk_by (N := ["kind", "field", "part"]) (sc := defScope sLText) (by decide +kernel)) (fun _ _ _ _ _ => pg_tup rfl (pgs_cons (pg_name (i := 1) scLText.nd rfl (Or.inl rfl)) (pgs_cons (pg_name (i := 2) scLText.nd rfl (Or.inl rfl)) pgs_nil)))
      (fun _ _ _ _ _ => pts_nil)
      (fun _ _ _ _ _ => pe_op op_add_str (pe_op op_add_str (pv 1) pe_str) (pe_call G hr rfl mG F.kp bG .nil pass0 (pa_cons (pv 2) pa_nil)))))) pe_str))), ?_⟩
  rcases hk with ⟨wd, hw, e⟩ | ⟨rows, e, hs, hr'⟩
  · subst e
    obtain ⟨a, rfl, hS⟩ := dp_base hd
    refine ⟨_, rfl, a, _, 0, .str "base", rfl, rfl, hS, rfl, .str "base", .str "base", .str _, .str _, by decide +kernel, by decide +kernel, _, rfl, iteT ?_⟩
    exact ⟨_, rfl, a, _, 1, .str wd, rfl, rfl, hS, rfl, q H (Same.refl H)⟩
  · subst e
    obtain ⟨a, b, xs, rfl, hS, hB, hD⟩ := dp_rec hd
    have hlen : xs.length = rows.length := by rw [dpAll_len hD, List.length_map]
    have h3 := len_fld hs
    rw [List.length_map] at h3
    refine ⟨_, rfl, a, _, 0, .str "record", rfl, rfl, hS, rfl, .str "record", .str "base", .str _, .str _, by decide +kernel, by decide +kernel, _, rfl, iteF ?_⟩
    refine ⟨⟨_, rfl⟩, _, rfl, a, _, 1, .ref b, rfl, rfl, hS, rfl, b, rfl, ⟨xs, hB⟩, fun D hN => lcT ((rows.map fun p => (p.1 ++ (": " : Str)) ++ textD n p.2).map V.str) (by rw [List.length_map, List.length_map, hlen]) (by omega) hB hN (fun i y x H' Q' hx hy s k => ?_) fun H' s hL => ?_⟩
    · obtain ⟨p, hp, hd'⟩ := dp_rows hD hx
      have hd' := dp_same s hd'
      obtain ⟨c, u, rfl, hC, hu⟩ := dp_row hd'
      rw [List.getElem?_map, List.getElem?_map, hp] at hy
      cases hy
      have hpm : p ∈ rows := List.mem_of_getElem? hp
      have h1 : ∀ x ∈ FLD, x.length = 1 := by decide +kernel
      have hl1 := h1 p.1 (hs.subset (List.mem_map.mpr ⟨p, hpm, rfl⟩))
      have hl2 : (": " : Str).length = 2 := by decide +kernel
      have hl3 := len_text n p.2 (hr' p hpm)
      have hl4 := pow20 (n := n) (by omega)
      refine ⟨c, _, rfl, hC, rfl, _, _, rfl, _, _, rfl, rfl, rfl, ?_⟩
      refine ⟨_, rfl, _, _, rfl, rfl, small_le (by rw [hl1, hl2]; decide), ?_⟩
      refine ⟨_, rfl, u, p.2, rfl, hu, by omega, hr' p hpm, fun H4 s4 => ⟨_, _, rfl, rfl, ?_, k H4 s4⟩⟩
      rw [len_app, hl1, hl2, sizeLine_eq]
      omega
    · have hL' : H' D = some (.lst ((rows.map fun p => (p.1 ++ (": " : Str)) ++ textD n p.2).map V.str)) := hL
      have hm : ∀ x ∈ (rows.map fun p => (p.1 ++ (": " : Str)) ++ textD n p.2), x.length ≤ 20 ^ n + 3 := fun x hx => by
        obtain ⟨p, hp, e⟩ := List.mem_map.mp hx
        subst e
        have h1 : ∀ x ∈ FLD, x.length = 1 := by decide +kernel
        rw [len_app, len_app, h1 p.1 (hs.subset (List.mem_map.mpr ⟨p, hp, rfl⟩)), show (": " : Str).length = 2 by decide +kernel]
        have hl3 := len_text n p.2 (hr' p hp)
        omega
      have hsum := sum_len hm
      have hj := len_join _ _ hm
      rw [List.length_map] at hsum hj
      have hl4 := pow20 (n := n) (by omega)
      have h5 : rows.length * (20 ^ n + 3) ≤ 3 * (20 ^ n + 3) := Nat.mul_le_mul_right _ h3
      have h6 : rows.length * (20 ^ n + 3 + 2) ≤ 3 * (20 ^ n + 3 + 2) := Nat.mul_le_mul_right _ h3
      refine ⟨_, D, _, rfl, rfl, .inl (SqL.of hL'), ?_, _, _, rfl, rfl, ?_, _, _, rfl, rfl, ?_, ?_⟩
      · rw [List.length_map, show (", " : Str).length = 2 by decide +kernel]
        omega
      · rw [TL.join_eq, show ("{" : Str).length = 1 by decide +kernel, sizeLine_eq]
        omega
      · rw [TL.join_eq, len_app, show ("{" : Str).length = 1 by decide +kernel, show ("}" : Str).length = 1 by decide +kernel, sizeLine_eq]
        omega
      · rw [TL.join_eq, ← text_rec]
        exact q H' s
end
end K1

end
section
set_option Elab.async false
set_option linter.all false
set_option maxRecDepth 100000
set_option maxHeartbeats 4000000
namespace K1
open PySem PySem.Spec PyProof.Rows L2 LamX
/-- a promise for each of many: one for all -/
theorem fnok_ex {α : Type} {P : Program} {w : World} {K : PySem.W.Frag} {mg : Str → Option Value} {base : Heap} {CX : CXT} {k : Nat} {f : Addr} {fd : FuncData} {ps : List Str} {c : α → Prop} {sp : α → Sp} (h : ∀ x, c x → FnOk P w K mg base CX k f fd ps (sp x)) :
    FnOk P w K mg base CX k f fd ps (fun vs H Q E => ∃ x, c x ∧ sp x vs H Q E) :=
  ⟨fun vs H Q E ⟨x, hc, hs⟩ => (h x hc).len vs H Q E hs, fun A outer s H args us vs Q E hr e0 hb r ⟨x, hc, hs⟩ => (h x hc).run A outer s H args us vs Q E hr e0 hb r hs⟩
def spBelowA (K : PySem.W.Frag) : Sp := fun vs H Q E => ∃ x : List Str × PSt, (∀ w ∈ x.1, w ∈ BAS) ∧ spBelow K x.1 x.2 4 vs H Q E
/-- a room's is_below, called by the law -/
structure RmIs (P : Program) (w : World) (K : PySem.W.Frag) (mg : Str → Option Value) (base : Heap) (CT CR fB : Addr) (fdB : FuncData) : Prop where
  c : Cls K CR
  m : Meth K CR "is_below" fB
  F : FnOk P w K mg base (L2.CX P w) 30 fB fdB ["self", "one", "other"] (spIsb K CT CR)
  b : L2.Binds K fdB ["self", "one", "other"] []
structure CalK (P : Program) (w : World) (K : PySem.W.Frag) (mg : Str → Option Value) (base : Heap) : Prop where
  next : Cal P w K mg base "_law_next" ["draw", "bound"] spNext
  pick : Cal P w K mg base "_law_pick" ["draw", "things"] (spPick K)
  above : Cal P w K mg base "_law_above" ["pairs", "base"] (spAbv K)
  kind : Cal P w K mg base "_law_kind" ["draw", "bases", "deep"] (spKind K 3)
  below : Cal P w K mg base "_law_below" ["room", "one", "other"] (spBelowA K)
  text : Cal P w K mg base "type_text" ["told"] (spText K 4)
  ltext : Cal P w K mg base "_law_text_of" ["kind"] (spLText K 4)
  type : Cal P w K mg base "is_type" ["thing"] (spType K)
  range : mg "range" = none
  any : mg "any" = none
  tuple : mg "tuple" = none
section
variable {P : Program} {w : World} {K : PySem.W.Frag} {mg : Str → Option Value} {base : Heap} {fL cL PL CB CT CR fQ fB : Addr} {fdQ fdB : FuncData} {A : Around} {outer : List Env} {s : Shared} {H0 : Hp} {E : XK} {T : List (Addr × Str)}
theorem passL {X : Cx} : Passes (L2.CX X.prog X.w) X E0 := passes_call LamX.takes0 (fun _ _ _ _ z => z)
abbrev forBody (s : Stmt) : List Stmt := match s with
  | .For _ _ b _ _ => b
  | _ => []
abbrev st9 (i : Nat) : Stmt := (forBody (stL 9)).getD i (.Pass ⟨0, 0, 0, 0⟩)
abbrev s9 (a d lb lo r l o : Addr) (ring : Bool) (v7 v9 v10 v11 v17 : Option V) : L2.St :=
  [some (.ref a), some (.ref d), some (.ref lb), some (.ref lo), some (.bl ring), some (.ref r), some (.ref l), v7, some (.ref o), v9, v10, v11, none, none, none, none, none, v17]
theorem s8_s9 {a d lb lo r l o : Addr} {ring : Bool} {v7 : Option V} : s8 a d lb lo r l o ring v7 = s9 a d lb lo r l o ring v7 none none none none := rfl
theorem law9a (hr : Room 33 (XL P w K mg base fL cL A outer s H0 E).A) (C : CalK P w K mg base) :
    ∃ t, PS (XL P w K mg base fL cL A outer s H0 E) (st9 0) t ∧ ∀ (D : Ends) (a d sa lb lo r l o : Addr) (ring : Bool) (v7 v9 v10 v11 v17 : Option V) (B : List Str) (H : Hp), DrwS H d sa → Tabs T H → BOk B → H lb = some (.lst (B.map V.str)) →
    (∀ x x' k k' H', Kn H H' → DrwS H' d sa → Tabs T H' → KdH K H' B 4 x k → KdH K H' B 4 x' k' → D.nx (s9 a d lb lo r l o ring v7 v9 (some x) (some x') v17) H') → t D (s9 a d lb lo r l o ring v7 v9 v10 v11 v17) H := by
  have hr30 : Room 30 (XL P w K mg base fL cL A outer s H0 E).A := hr.mono (by omega)
  refine ⟨_, ps_par (i := 10) (j := 11) rfl scLaw.nd rfl rfl (by decide) rfl rfl (pa_cons (pe_cal C.kind hr30 (pa_cons (pv 1) (pa_cons (pv 2) (pa_cons pe_int pa_nil)))) (pa_cons (pe_cal C.kind hr30 (pa_cons (pv 1) (pa_cons (pv 2) (pa_cons pe_int pa_nil)))) pa_nil)) rfl, ?_⟩
  intro D a d sa lb lo r l o ring v7 v9 v10 v11 v17 B H hd hT hB hlb q
  have nlb : ∀ {H4 : Hp}, DrwS H4 d sa → H4 lb = some (.lst (B.map V.str)) → lb ≠ d := fun hh h e => by
    obtain ⟨ns, m, z, _⟩ := hh
    rw [e, z] at h
    exact (nd_strs (ys := B)).2 sa m (Option.some.inj h).symm
  refine ⟨_, rfl, _, rfl, d, sa, lb, B, rfl, hd, SqL.of hlb, nlb hd hlb, hB.1, fun x k H1 hk a1 d1 => ?_⟩
  have k1 := Kn.aft hd a1
  have t1 := tabs_aft hT hd a1
  have hlb1 := k1 _ _ nd_strs hlb
  refine ⟨_, rfl, _, rfl, d, sa, lb, B, rfl, d1, SqL.of hlb1, nlb d1 hlb1, hB.1, fun x' k' H2 hk' a2 d2 => ?_⟩
  have k2 := Kn.aft d1 a2
  have t2 := tabs_aft t1 d1 a2
  exact ⟨_, _, rfl, q x x' k k' _ (k1.trans k2) d2 t2 (k2.kd hk) hk'⟩
end
end K1

end
section
set_option Elab.async false
set_option linter.all false
set_option maxRecDepth 100000
set_option maxHeartbeats 4000000
namespace K1
open PySem PySem.Spec PyProof.Rows L2 LamX
section
variable {P : Program} {w : World} {K : PySem.W.Frag} {mg : Str → Option Value} {base : Heap} {fL cL PL CB CT CR fQ fB : Addr} {fdQ fdB : FuncData} {A : Around} {outer : List Env} {s : Shared} {H0 : Hp} {E : XK} {T : List (Addr × Str)}
theorem law9b (hr : Room 33 (XL P w K mg base fL cL A outer s H0 E).A) (C : CalK P w K mg base) :
    ∃ t, PS (XL P w K mg base fL cL A outer s H0 E) (st9 1) t ∧ ∀ (D : Ends) (a d sa lb lo r l o : Addr) (ring : Bool) (v7 v9 v17 : Option V) (x x' : V) (k k' : PyData) (B : List Str) (H : Hp), DrwS H d sa → Tabs T H → BOk B → KdH K H B 4 x k → KdH K H B 4 x' k' →
    (∀ x' k' H' v17, Kn H H' → DrwS H' d sa → Tabs T H' → KdH K H' B 4 x k → KdH K H' B 4 x' k' → D.nx (s9 a d lb lo r l o ring v7 v9 (some x) (some x') v17) H') → t D (s9 a d lb lo r l o ring v7 v9 (some x) (some x') v17) H := by
  have hr30 : Room 30 (XL P w K mg base fL cL A outer s H0 E).A := hr.mono (by omega)
  refine ⟨_, ps_if (PW.pt (pw_and (pt_cmpR op_eq (pe_cal C.next hr30 (pa_cons (pv 1) (pa_cons pe_int pa_nil))) pe_int (nomark _)) (pw_and1 (pt_cmpR (op_eqD hr.units) (pe_ix ix_tup (pv 10) pe_int (fun _ _ => rfl)) pe_str (nomark _)))))
    (pss_one (ps_set (i := 11) scLaw.nd rfl (Or.inl rfl) (pe_tup (pa_cons pe_str (pa_cons (pe_callTy call_tuple_ofN rfl C.tuple (by decide +kernel) (pa_cons (pe_lc (own := [("row", 17)]) (g := gName 17) rfl scLaw.nd (pi_tup (pe_ix ix_tup (pv 10) pe_int (fun _ _ => rfl)))
      (blkOk_by (N := NL) (sc := defScope sLaw) (by decide +kernel)) (fun _ _ _ _ _ => pg_name (i := 17) scLaw.nd rfl (Or.inl rfl))
      (fun _ _ _ _ _ => pts_one (pt_cmpR op_eq (pe_cal C.next hr30 (pa_cons (pv 1) (pa_cons pe_int pa_nil))) pe_int (nomark _))) (fun _ _ _ _ _ => pv 17)) pa_nil)) pa_nil))))) pss_nil, ?_⟩
  intro D a d sa lb lo r l o ring v7 v9 v17 x x' k k' B H hd hT hB hk hk' q
  refine ⟨_, rfl, d, sa, 2, rfl, hd, by decide, fun r1 H1 _ _ a1 d1 => ⟨rfl, _, rfl, ?_⟩⟩
  have k1 := Kn.aft hd a1
  have t1 := tabs_aft hT hd a1
  have hk1 := k1.kd hk
  have hk1' := k1.kd hk'
  refine ite2 (fun _ => ?_) (fun _ => iteF (q x' k' H1 _ k1 d1 t1 hk1 hk1'))
  have sb : SeqAt.shaped (.str "base") = true := by decide +kernel
  have sr : SeqAt.shaped (.str "record") = true := by decide +kernel
  rcases hk1 with ⟨wd, a', hw, e, ev, hS⟩ | ⟨a', b, L, e, hs, ev, hS, hT', hL⟩
  · have hk0 : KdH K H1 B 4 x k := .inl ⟨wd, a', hw, e, ev, hS⟩
    subst ev
    refine ⟨_, rfl, a', _, 0, .str "base", rfl, rfl, hS, rfl, .str "base", .str "record", .str _, .str _, sb, sr, _, rfl, iteF ?_⟩
    exact q x' k' H1 _ k1 d1 t1 hk0 hk1'
  · have hk0 : KdH K H1 B 4 x k := .inr ⟨a', b, L, e, hs, ev, hS, hT', hL⟩
    subst ev
    refine ⟨_, rfl, a', _, 0, .str "record", rfl, rfl, hS, rfl, .str "record", .str "record", .str _, .str _, sr, sr, _, rfl, iteT ?_⟩
    have hLl : L.length ≤ 3 := by
      have := len_fld hs
      rw [List.length_map] at this
      exact this
    refine ⟨_, rfl, a', _, 1, .ref b, rfl, rfl, hS, rfl, b, rfl, ⟨_, hT'.sq⟩, fun D2 hD2 => ?_⟩
    have nD := d1.new hD2
    refine lc_inv L.length (by omega) (fun i acc H2 => Kn H1 H2 ∧ DrwS H2 d sa ∧ Tabs T H2 ∧ ∃ L' : List Rw, acc = L'.map (fun r => V.ref r.c) ∧ L'.Sublist (L.take i)) ⟨Kn.of (Same.new hD2 _), d1.upd nD.1 nD.2, t1.ext (fun b o h => Same.new hD2 _ b o h), [], rfl, List.Sublist.slnil⟩
      (fun i acc H2 Ny Nx hi hacc ⟨k2, d2, t2, L', e2, hs2⟩ qy qx => ?_) (fun acc H2 hacc ⟨k2, d2, t2, L', e2, hs2⟩ => ?_)
    · have hy : L[i]? = some L[i] := List.getElem?_eq_getElem hi
      have hT2 : SqT K H2 b (L.map fun r => V.ref r.c) := (k2.tupN hT').sq
      have hV : (L.map fun r => V.ref r.c)[i]? = some (.ref L[i].c) := by rw [List.getElem?_map, hy]; rfl
      refine ⟨⟨_, _, hT2, hV⟩, fun y H3 yl => ?_⟩
      obtain ⟨e3, yl⟩ := yl
      subst H3
      have ey : y = .ref L[i].c := by
        have z := yl _ hT2
        rw [hV] at z
        exact (Option.some.inj z).symm
      subst ey
      refine ⟨rfl, _, rfl, d, sa, 2, rfl, d2, by decide, fun r5 H5 _ _ a5 d5 => ⟨rfl, _, rfl, ?_⟩⟩
      have k5 := k2.trans (Kn.aft d2 a5)
      have t5 := tabs_aft t2 d2 a5
      have hacc5 : H5 D2 = some (.lst acc) := a5 _ _ nD.1 hacc
      refine ite2 (fun _ => ?_) (fun _ => ?_)
      · refine ⟨_, rfl, qy _ H5 hacc5 ⟨Kn.acc hD2 k5, d5.upd nD.1 nD.2, tabs_lst t5 hacc5, L' ++ [L[i]], by rw [e2, List.map_append]; rfl, ?_⟩⟩
        rw [take_more hy]
        exact List.Sublist.append hs2 (List.Sublist.refl _)
      · refine qx H5 hacc5 ⟨k5, d5, t5, L', e2, ?_⟩
        rw [take_more hy]
        exact hs2.trans (List.sublist_append_left _ _)
    · subst e2
      refine ⟨⟨_, (k2.tupN hT').sq, by rw [List.length_map]; exact Nat.le_refl _⟩, ?_⟩
      refine ⟨D2, _, rfl, SqL.of hacc, fun t o' ht hc hdict => ⟨(by show 2 ≤ sizeLine; decide), fun p hp => ?_⟩⟩
      have s3 := Same.new ht (.frz o' (.tup (L'.map fun r => V.ref r.c)))
      have s4 := Same.new hp (.tup [.str "record", .ref t])
      have s34 := s3.trans s4
      have hsL : L'.Sublist L := by
        rw [List.take_length] at hs2
        exact hs2
      have k4 := k2.trans (Kn.of s34)
      have hTt : TupN (upd H2 t (.frz o' (.tup (L'.map fun r => V.ref r.c)))) t (L'.map fun r => V.ref r.c) := ⟨o', upd_same, hc, hdict⟩
      refine q (.ref p) (recD (L'.map Rw.pair)) _ _ (k1.trans k4) (d2.same s34) (t2.ext fun b o h => s34 b o h) (k4.kd hk0) (.inr ⟨p, t, L', rfl, (hsL.map _).trans hs, rfl, SqT.of upd_same, hTt.same s4, fun r hr => ?_⟩)
      obtain ⟨h1, h2⟩ := hL r (hsL.subset hr)
      exact ⟨k4.tup h1, k4.kd h2⟩
end
end K1

end
section
set_option Elab.async false
set_option linter.all false
set_option maxRecDepth 100000
set_option maxHeartbeats 4000000
namespace K1
open PySem PySem.Spec PyProof.Rows L2 LamX
section
variable {P : Program} {w : World} {K : PySem.W.Frag} {mg : Str → Option Value} {base : Heap} {fL cL PL CB CT CR fQ fB : Addr} {fdQ fdB : FuncData} {A : Around} {outer : List Env} {s : Shared} {H0 : Hp} {E : XK} {T : List (Addr × Str)}
theorem fine_any : Fine anyD := ⟨by decide +kernel, by decide +kernel⟩
theorem law9c (hr : Room 33 (XL P w K mg base fL cL A outer s H0 E).A) (C : CalK P w K mg base) (I : RmIs P w K mg base CT CR fB fdB) :
    ∃ t, PS (XL P w K mg base fL cL A outer s H0 E) (st9 2) t ∧ ∀ (D : Ends) (a d lb lo r l o : Addr) (ring : Bool) (v7 v9 v17 : Option V) (x x' : V) (k k' : PyData) (B ys : List Str) (ps qs : PSt) (g : V) (H : Hp), BOk B → ys.Perm B → RoomAt H CR r ps ys g → OwnO K H o qs → (∀ p, p ∈ qs ↔ p.1 ∈ B ∧ Reach ps p.1 p.2) → KdH K H B 4 x k → KdH K H B 4 x' k' →
    (∀ H', Same H H' → D.nx (s9 a d lb lo r l o ring v7 v9 (some x) (some x') v17) H') → t D (s9 a d lb lo r l o ring v7 v9 (some x) (some x') v17) H := by
  have hr30 : Room 30 (XL P w K mg base fL cL A outer s H0 E).A := hr.mono (by omega)
  refine ⟨_, ps_if (PW.pt (pw_or (pt_cmpR op_ne (pe_meth (pv 5) I.c I.m I.F hr30 I.b .nil passL (pa_cons (pv 10) (pa_cons (pv 11) pa_nil))) (pe_cal C.below hr30 (pa_cons (pv 8) (pa_cons (pv 10) (pa_cons (pv 11) pa_nil)))) (nomark _))
    (pw_or (pt_not (pt_val (pe_meth (pv 5) I.c I.m I.F hr30 I.b .nil passL (pa_cons (pv 10) (pa_cons (pe_tup (pa_cons pe_str pa_nil)) pa_nil))))) (pw_or1 (pt_not (pt_val (pe_meth (pv 5) I.c I.m I.F hr30 I.b .nil passL (pa_cons (pv 10) (pa_cons (pv 10) pa_nil))))))))) (pss_one (ps_ret pe_bl)) pss_nil, ?_⟩
  intro D a d lb lo r l o ring v7 v9 v17 x x' k k' B ys ps qs g H hB hp hR hO hqm hk hk' q
  have hB4 := hB.2.2.2
  have ec : underD (abR ps) 4 k k' = underD (ordB qs) 4 k k' := under_congr (B := B) (fun u hu v hv => by
    unfold ordB
    by_cases hr : Reach ps u v
    · rw [abR_true.mpr hr, decide_eq_true ((hqm (u, v)).mpr ⟨hu, hr⟩)]
    · rw [Bool.eq_false_iff.mpr fun z => hr (abR_true.mp z), decide_eq_false fun z => hr ((hqm (u, v)).mp z).2]) 4 k k' hk.ok hk'.ok
  have ask : ∀ {H1 : Hp}, Same H H1 → ∃ dx fs, H1 r = some (.ins CR dx fs) ∧ fs.lookup ("is_below" : Str) = none := fun s1 => by
    obtain ⟨dx, dA, dn, df, h1, _⟩ := hR.same s1
    exact ⟨dx, _, h1, rfl⟩
  obtain ⟨dx, fs, i1, i2⟩ := ask (Same.refl H)
  refine ⟨_, rfl, r, dx, fs, rfl, i1, i2, _, rfl, _, rfl, r, x, x', k, k', ps, ys, B, g, rfl, hR, hp, hB4, hk.dp, kd_fine hB4 (by omega) hk.ok, hk'.dp, kd_fine hB4 (by omega) hk'.ok, .inr (.inr ⟨hk, hk', fun H1 s1 => ?_⟩)⟩
  refine ⟨_, rfl, _, rfl, _, rfl, ⟨(B, qs), hB4, o, x, x', k, k', rfl, by omega, hO.same s1, hk.same s1, hk'.same s1, fun H2 s2 => ⟨rfl, _, rfl, ?_⟩⟩⟩
  rw [ec, decide_eq_true rfl]
  have s12 := s1.trans s2
  obtain ⟨dx, fs, i1, i2⟩ := ask s12
  refine iteF ⟨_, rfl, r, dx, fs, rfl, i1, i2, _, rfl, (by show 1 ≤ sizeLine; decide), fun p' hp' => ?_⟩
  have s3 := s12.trans (Same.new hp' (.tup [.str "any"]))
  refine ⟨r, x, .ref p', k, anyD, ps, ys, B, g, rfl, hR.same s3, hp, hB4, (hk.same s3).dp, kd_fine hB4 (by omega) hk.ok, .tup (SqT.of upd_same) (.cons (.str _) .nil), fine_any, .inr (.inl ⟨rfl, hk.same s3, fun H4 s4 => ⟨_, rfl, iteF ?_⟩⟩)⟩
  have s5 := s3.trans s4
  obtain ⟨dx, fs, i1, i2⟩ := ask s5
  refine ⟨_, rfl, r, dx, fs, rfl, i1, i2, _, rfl, _, rfl, r, x, x, k, k, ps, ys, B, g, rfl, hR.same s5, hp, hB4, (hk.same s5).dp, kd_fine hB4 (by omega) hk.ok, (hk.same s5).dp, kd_fine hB4 (by omega) hk.ok, .inr (.inr ⟨hk.same s5, hk.same s5, fun H6 s6 => ⟨_, rfl, ?_⟩⟩)⟩
  rw [under_refl (B := B) (abR ps) 4 k hk.ok]
  exact iteF (q H6 (s5.trans s6))
theorem law9d (hr : Room 33 (XL P w K mg base fL cL A outer s H0 E).A) (C : CalK P w K mg base) :
    ∃ t, PS (XL P w K mg base fL cL A outer s H0 E) (st9 3) t ∧ ∀ (D : Ends) (a d lb lo r l o : Addr) (ring : Bool) (v7 v9 v17 : Option V) (x x' : V) (k : PyData) (B : List Str) (H : Hp), BOk B → KdH K H B 4 x k →
    (∀ H', Same H H' → D.nx (s9 a d lb lo r l o ring v7 v9 (some x) (some x') v17) H') → t D (s9 a d lb lo r l o ring v7 v9 (some x) (some x') v17) H := by
  have hr30 : Room 30 (XL P w K mg base fL cL A outer s H0 E).A := hr.mono (by omega)
  refine ⟨_, ps_if (PW.pt (pw_or (pt_not (pt_val (pe_cal C.type hr30 (pa_cons (pv 10) pa_nil)))) (pw_or (pt_cmpR op_ne (pe_cal C.text hr30 (pa_cons (pv 10) pa_nil)) (pe_cal C.ltext hr30 (pa_cons (pv 10) pa_nil)) (nomark _))
    (pw_or1 (pt_cmpR op_ne (pe_cal C.text hr30 (pa_cons (pe_tup (pa_cons pe_str pa_nil)) pa_nil)) pe_str (nomark _)))))) (pss_one (ps_ret pe_bl)) pss_nil, ?_⟩
  intro D a d lb lo r l o ring v7 v9 v17 x x' k B H hB hk q
  have hB4 := hB.2.2.2
  refine ⟨_, rfl, x, k, rfl, hk.dp, kd_fine hB4 (by omega) hk.ok, fun H1 s1 => ⟨_, rfl, ?_⟩⟩
  rw [kd_nest hB4 (by omega) hk.ok]
  refine iteF ⟨_, rfl, x, k, rfl, (hk.same s1).dp, .inr ⟨by omega, hk.ok.sub hB4, fun H2 s2 => ?_⟩⟩
  refine ⟨_, rfl, x, k, rfl, ((hk.same s1).same s2).dp, by omega, hk.ok.sub hB4, fun H3 s3 => ⟨rfl, _, rfl, ?_⟩⟩
  rw [decide_eq_true rfl]
  refine iteF ⟨(by show 1 ≤ sizeLine; decide), fun p hp => ⟨.ref p, anyD, rfl, .tup (SqT.of upd_same) (.cons (.str _) .nil), .inl ⟨by omega, rfl, rfl, _, rfl, iteF ?_⟩⟩⟩
  exact q _ (((s1.trans s2).trans s3).trans (Same.new hp _))
end
end K1

end
section
set_option Elab.async false
set_option linter.all false
set_option maxRecDepth 100000
set_option maxHeartbeats 4000000
namespace K1
open PySem PySem.Spec PyProof.Rows L2 LamX
section
variable {P : Program} {w : World} {K : PySem.W.Frag} {mg : Str → Option Value} {base : Heap} {fL cL PL CB CT CR fQ fB : Addr} {fdQ fdB : FuncData} {A : Around} {outer : List Env} {s : Shared} {H0 : Hp} {E : XK} {T : List (Addr × Str)}
theorem law9 (hr : Room 33 (XL P w K mg base fL cL A outer s H0 E).A) (C : CalK P w K mg base) (I : RmIs P w K mg base CT CR fB fdB) :
    ∃ t, PS (XL P w K mg base fL cL A outer s H0 E) (stL 9) t ∧ ∀ (D : Ends) (a d sa lb lo r l o : Addr) (ring : Bool) (v7 : Option V) (B ys : List Str) (ps qs : PSt) (g : V) (H : Hp), DrwS H d sa → Tabs T H → BOk B → H lb = some (.lst (B.map V.str)) → ys.Perm B → RoomAt H CR r ps ys g →
      H o = some (.dK [(Sum.inr "order", .ref l)]) → PrsN H l qs → (∀ p ∈ qs, p.1 ∈ BAS ∧ p.2 ∈ BAS) → (∀ p, p ∈ qs ↔ p.1 ∈ B ∧ Reach ps p.1 p.2) →
    (∀ v9 v10 v11 v17 H', Kn H H' → DrwS H' d sa → Tabs T H' → D.nx (s9 a d lb lo r l o ring v7 v9 v10 v11 v17) H') → t D (s9 a d lb lo r l o ring v7 none none none none) H := by
  obtain ⟨ta, pa, ha⟩ := law9a (T := T) (E := E) (H0 := H0) (s := s) hr C
  obtain ⟨tb, pb, hb⟩ := law9b (T := T) (E := E) (H0 := H0) (s := s) hr C
  obtain ⟨tc, pc, hc⟩ := law9c (E := E) (H0 := H0) (s := s) hr C I
  obtain ⟨td, pd, hd⟩ := law9d (E := E) (H0 := H0) (s := s) hr C
  refine ⟨_, ps_for PassesOwn.never rfl (pi_range1 rfl C.range (pa_cons pe_int pa_nil)) (pg_name (i := 9) scLaw.nd rfl (Or.inl rfl)) (pss_cons pa (pss_cons pb (pss_cons pc (pss_one pd)))), ?_⟩
  intro D a d sa lb lo r l o ring v7 B ys ps qs g H hdr hT hB hlb hp hR ho hq hqb hqm q
  refine ⟨6, rfl, by omega, by omega, for_range (n := (6 : Int).toNat) (fun i σ H2 => ∃ v9 v10 v11 v17, σ = s9 a d lb lo r l o ring v7 v9 v10 v11 v17 ∧ Kn H H2 ∧ DrwS H2 d sa ∧ Tabs T H2) ⟨none, none, none, none, rfl, Kn.refl H, hdr, hT⟩ ?_ ?_⟩
  · rintro i σ H1 hi ⟨v9, v10, v11, v17, rfl, k1, d1, t1⟩
    refine ha _ a d sa lb lo r l o ring v7 _ v10 v11 v17 B H1 d1 t1 hB (k1 _ _ nd_strs hlb) fun x x' k k' H2 k2 d2 t2 hk hk' => ?_
    refine hb _ a d sa lb lo r l o ring v7 _ v17 x x' k k' B H2 d2 t2 hB hk hk' fun x' k' H3 v17 k3 d3 t3 hk hk' => ?_
    have k13 := (k1.trans k2).trans k3
    refine hc _ a d lb lo r l o ring v7 _ v17 x x' k k' B ys ps qs g H3 hB hp (k13.room hR) (own_of (k13 _ _ nd_dK ho) (k13.prs hq) hqb) hqm hk hk' fun H4 s4 => ?_
    refine hd _ a d lb lo r l o ring v7 _ v17 x x' k B H4 hB (hk.same s4) fun H5 s5 => ?_
    have s45 := s4.trans s5
    exact ⟨_, _, _, _, rfl, k13.trans (Kn.of s45), d3.same s45, t3.ext fun b o h => s45 b o h⟩
  · rintro σ H1 ⟨v9, v10, v11, v17, rfl, k1, d1, t1⟩
    exact q v9 v10 v11 v17 H1 k1 d1 t1
end
end K1

end
section
set_option Elab.async false
set_option linter.all false
set_option maxRecDepth 100000
set_option maxHeartbeats 4000000
namespace K1
open PySem PySem.Spec PyProof.Rows L2 LamX
/-! ### written data -/
def tD (K : PySem.W.Frag) (d : PyData) : TE := fun _ H Q => ∀ v H', Same H H' → Dp K H' v d → Q v H'
def tDs (K : PySem.W.Frag) (ds : List PyData) : TA := fun _ H Q => ∀ vs H', Same H H' → DpAll K H' vs ds → Q vs H'
section
variable {X : Cx}
theorem pe_imp {e : Expr} {t t' : TE} (h : PE X e t) (i : ∀ σ H Q, t' σ H Q → t σ H Q) : PE X e t' := ⟨fun pins s σ H Q I q => h.run pins s σ H Q I (i σ H Q q)⟩
theorem pa_imp {es : List Expr} {t t' : TA} (h : PA X es t) (i : ∀ σ H Q, t' σ H Q → t σ H Q) : PA X es t' := ⟨fun pos pins s σ H Q I q => h.run pos pins s σ H Q I (i σ H Q q)⟩
theorem lit_str {x : Str} {j : Nat} {p : Pos} : PE X (.Constant (.str x) j p) (tD X.K (.str x)) := pe_imp pe_str fun σ H Q q => q _ H (Same.refl H) (.str x)
theorem lit_int {i : Int} {j : Nat} {p : Pos} : PE X (.Constant (.int i) j p) (tD X.K (.int i)) := pe_imp pe_int fun σ H Q q => q _ H (Same.refl H) (.int i)
theorem lit_nil : PA X [] (tDs X.K []) := pa_imp pa_nil fun σ H Q q => q [] H (Same.refl H) .nil
theorem lit_cons {e : Expr} {es : List Expr} {d : PyData} {ds : List PyData} (he : PE X e (tD X.K d)) (hs : PA X es (tDs X.K ds)) (hst : starEach (e :: es) X.env = (false, eval e X.env) :: starEach es X.env := by rfl) : PA X (e :: es) (tDs X.K (d :: ds)) :=
  pa_imp (pa_cons he hs hst) fun σ H Q q => fun v H1 s1 hv vs H2 s2 hvs => q (v :: vs) H2 (s1.trans s2) (.cons (dp_same s2 hv) hvs)
theorem lit_tup {es : List Expr} {ds : List PyData} {k : Nat} {p : Pos} (hs : PA X es (tDs X.K ds)) (hl : ds.length ≤ 1000) : PE X (.Tuple es k p) (tD X.K (.tuple ds)) :=
  pe_imp (pe_tup hs) fun σ H Q q => fun vs H1 s1 hd => ⟨by rw [dpAll_len hd]; exact small_le hl, fun p hp => q _ _ (s1.trans (Same.new hp _)) (.tup (SqT.of upd_same) (dpAll_same (Same.new hp _) hd))⟩
theorem lit_lst {es : List Expr} {ds : List PyData} {p : Pos} (hs : PA X es (tDs X.K ds)) (hl : ds.length ≤ 1000) : PE X (.List es p) (tD X.K (.list ds)) :=
  pe_imp (pe_lst hs) fun σ H Q q => fun vs H1 s1 hd => ⟨by rw [dpAll_len hd]; exact small_le hl, fun p hp => q _ _ (s1.trans (Same.new hp _)) (.lst (SqL.of upd_same) (dpAll_same (Same.new hp _) hd))⟩
end
def drawish : List PyData → Bool
  | [_, .int _, .int _] => true
  | _ => false
mutual
def plainD : PyData → Bool
  | .list ds => !drawish ds && plainAll ds
  | .tuple ds => plainAll ds
  | _ => true
def plainAll : List PyData → Bool
  | [] => true
  | d :: ds => plainD d && plainAll ds
end
theorem plain_list {ds : List PyData} (h : plainD (.list ds) = true) : plainAll ds = true ∧ ∀ a i j, ds ≠ [a, .int i, .int j] := by
  unfold plainD at h
  obtain ⟨h1, h2⟩ := Bool.and_eq_true_iff.mp h
  refine ⟨h2, ?_⟩
  rintro a i j rfl
  have e : drawish [a, .int i, .int j] = true := rfl
  rw [e] at h1
  cases h1
theorem nd_data {K : PySem.W.Frag} {H : Hp} {vs : List V} {ds : List PyData} (h : DpAll K H vs ds) (hp : ∀ a i j, ds ≠ [a, .int i, .int j]) : Nd (.lst vs) := by
  refine ⟨fun _ z => (by cases z), fun a n z => ?_⟩
  have e := HO.lst.inj z
  subst e
  cases h with
  | cons h1 t =>
    cases t with
    | cons h2 t2 =>
      cases t2 with
      | cons h3 t3 =>
        cases t3
        cases h2
        cases h3
        exact hp _ _ _ rfl
mutual
theorem kn_dp {K : PySem.W.Frag} {H H' : Hp} (s : Kn H H') : ∀ {v : V} {d : PyData}, plainD d = true → Dp K H v d → Dp K H' v d
  | _, _, _, .non => .non
  | _, _, _, .bl b => .bl b
  | _, _, _, .int i => .int i
  | _, _, _, .str x => .str x
  | _, _, hp, .lst h t => by
    obtain ⟨h1, h2⟩ := plain_list hp
    refine .lst ?_ (kn_dpAll s h1 t)
    rcases h with (q | ⟨o, q⟩) | q
    · exact .inl (.inl (s _ _ (nd_data t h2) q))
    · exact .inl (.inr ⟨o, s _ _ nd_frzT q⟩)
    · exact .inr q
  | _, _, hp, .tup h t => .tup (s.tup h) (kn_dpAll s (by unfold plainD at hp; exact hp) t)
theorem kn_dpAll {K : PySem.W.Frag} {H H' : Hp} (s : Kn H H') : ∀ {vs : List V} {ds : List PyData}, plainAll ds = true → DpAll K H vs ds → DpAll K H' vs ds
  | _, _, _, .nil => .nil
  | _, _, hp, .cons h t => by
    unfold plainAll at hp
    obtain ⟨h1, h2⟩ := Bool.and_eq_true_iff.mp hp
    exact .cons (kn_dp s h1 h) (kn_dpAll s h2 t)
end
end K1

end
section
set_option Elab.async false
set_option linter.all false
set_option maxRecDepth 100000
set_option maxHeartbeats 4000000
namespace K1
open PySem PySem.Spec PyProof.Rows L2 LamX
abbrev bD (w : Str) : PyData := .tuple [.str "base", .str w]
abbrev rD (rows : List PyData) : PyData := .tuple [.str "record", .tuple rows]
abbrev fD (f : Str) (d : PyData) : PyData := .tuple [.str f, d]
/-- values near types that are none -/
def BADD : List PyData := [.none, .str "a", .tuple [.str "base"], bD "any", bD "A", bD "", bD "abcdefghijk", .tuple [.str "base", .int 5], .tuple [.str "record", .list []], rD [fD "p" (bD "a"), fD "p" (bD "a")], rD [fD "q" (bD "a"), fD "p" (bD "a")],
  anyD, .list [.str "base", .str "a"], rD [fD "let" (bD "a")], rD [.tuple [.str "p"]]]
theorem bad_all : ∀ d ∈ BADD, isNest 8 d = false ∧ Fine d ∧ plainD d = true := by
  have h : ∀ d ∈ BADD, isNest 8 d = false ∧ (tinyD d = true ∧ SeqAt.shaped d = true) ∧ plainD d = true := by decide +kernel
  exact h
def deepD : Nat → PyData
  | 0 => recD []
  | n + 1 => recD [("p", deepD n)]
theorem deep_all : ∀ n < 10, Fine (deepD n) ∧ plainD (deepD n) = true ∧ isNest 8 (deepD n) = decide (n < 8) := by
  have h : ∀ n < 10, (tinyD (deepD n) = true ∧ SeqAt.shaped (deepD n) = true) ∧ plainD (deepD n) = true ∧ isNest 8 (deepD n) = decide (n < 8) := by decide +kernel
  exact h
theorem lit_non {X : Cx} {j : Nat} {p : Pos} : PE X (.Constant .none j p) (tD X.K .none) := pe_imp pe_non fun σ H Q q => q _ H (Same.refl H) .non
section
variable {P : Program} {w : World} {K : PySem.W.Frag} {mg : Str → Option Value} {base : Heap} {fL cL PL CB CT CR fQ fB : Addr} {fdQ fdB : FuncData} {A : Around} {outer : List Env} {s : Shared} {H0 : Hp} {E : XK} {T : List (Addr × Str)}
abbrev sA (a d lb lo r l o : Addr) (ring : Bool) (v7 v9 v10 v11 v12 v13 v14 v15 v17 : Option V) : L2.St :=
  [some (.ref a), some (.ref d), some (.ref lb), some (.ref lo), some (.bl ring), some (.ref r), some (.ref l), v7, some (.ref o), v9, v10, v11, v12, v13, v14, v15, none, v17]
set_option maxRecDepth 1000000 in
theorem law10 : ∃ t, PS (XL P w K mg base fL cL A outer s H0 E) (stL 10) t ∧ ∀ (D : Ends) (a d lb lo r l o : Addr) (ring : Bool) (v7 v9 v10 v11 v17 : Option V) (H : Hp),
    (∀ lbad vs H', Same H H' → H lbad = none → H' lbad = some (.lst vs) → DpAll K H' vs BADD → D.nx (sA a d lb lo r l o ring v7 v9 v10 v11 (some (.ref lbad)) none none none v17) H') → t D (sA a d lb lo r l o ring v7 v9 v10 v11 none none none none v17) H := by
  have tp2 : ∀ {X : Cx} {x y : Str} {j1 j2 k : Nat} {p1 p2 p : Pos}, PE X (.Tuple [.Constant (.str x) j1 p1, .Constant (.str y) j2 p2] k p) (tD X.K (.tuple [.str x, .str y])) := lit_tup (lit_cons lit_str (lit_cons lit_str lit_nil)) (by show 2 ≤ 1000; decide)
  refine ⟨_, ps_set (i := 12) scLaw.nd rfl (Or.inl rfl) (pe_lst (t := tDs K BADD) (lit_cons (X := XL P w K mg base fL cL A outer s H0 E) lit_non (lit_cons lit_str (lit_cons (lit_tup (lit_cons lit_str lit_nil) (by decide)) (lit_cons tp2 (lit_cons tp2 (lit_cons tp2 (lit_cons tp2
    (lit_cons (lit_tup (lit_cons lit_str (lit_cons lit_int lit_nil)) (by decide)) (lit_cons (lit_tup (lit_cons lit_str (lit_cons (lit_lst lit_nil (by decide)) lit_nil)) (by decide))
    (lit_cons (lit_tup (lit_cons lit_str (lit_cons (lit_tup (lit_cons (lit_tup (lit_cons lit_str (lit_cons tp2 lit_nil)) (by decide)) (lit_cons (lit_tup (lit_cons lit_str (lit_cons tp2 lit_nil)) (by decide)) lit_nil)) (by decide)) lit_nil)) (by decide))
    (lit_cons (lit_tup (lit_cons lit_str (lit_cons (lit_tup (lit_cons (lit_tup (lit_cons lit_str (lit_cons tp2 lit_nil)) (by decide)) (lit_cons (lit_tup (lit_cons lit_str (lit_cons tp2 lit_nil)) (by decide)) lit_nil)) (by decide)) lit_nil)) (by decide))
    (lit_cons (lit_tup (lit_cons lit_str lit_nil) (by decide)) (lit_cons (lit_lst (lit_cons lit_str (lit_cons lit_str lit_nil)) (by decide))
    (lit_cons (lit_tup (lit_cons lit_str (lit_cons (lit_tup (lit_cons (lit_tup (lit_cons lit_str (lit_cons tp2 lit_nil)) (by decide)) lit_nil) (by decide)) lit_nil)) (by decide))
    (lit_cons (lit_tup (lit_cons lit_str (lit_cons (lit_tup (lit_cons (lit_tup (lit_cons lit_str lit_nil) (by decide)) lit_nil) (by decide)) lit_nil)) (by decide)) lit_nil)))))))))))))))), ?_⟩
  intro D a d lb lo r l o ring v7 v9 v10 v11 v17 H q
  refine fun vs H1 s1 hd => ⟨by rw [dpAll_len hd]; exact small_le (by decide), fun p hp => ?_⟩
  have s2 := s1.trans (Same.new hp (.lst vs))
  exact q p vs _ s2 (s1.free hp) upd_same (dpAll_same (Same.new hp _) hd)
end
end K1

end
section
set_option Elab.async false
set_option linter.all false
set_option maxRecDepth 100000
set_option maxHeartbeats 4000000
namespace K1
open PySem PySem.Spec PyProof.Rows L2 LamX
section
variable {P : Program} {w : World} {K : PySem.W.Frag} {mg : Str → Option Value} {base : Heap} {fL cL PL CB CT CR fQ fB : Addr} {fdQ fdB : FuncData} {A : Around} {outer : List Env} {s : Shared} {H0 : Hp} {E : XK} {T : List (Addr × Str)}
theorem law11 (hr : Room 33 (XL P w K mg base fL cL A outer s H0 E).A) (C : CalK P w K mg base) :
    ∃ t, PS (XL P w K mg base fL cL A outer s H0 E) (stL 11) t ∧ ∀ (D : Ends) (a d sa lb lo r l o lbad : Addr) (ring : Bool) (v7 v9 v10 v11 v17 : Option V) (vs : List V) (H : Hp), DrwS H d sa → Tabs T H → H lbad = some (.lst vs) → lbad ≠ d → DpAll K H vs BADD →
    (∀ x k H', Kn H H' → DrwS H' d sa → Tabs T H' → k ∈ BADD → Dp K H' x k → D.nx (sA a d lb lo r l o ring v7 v9 v10 v11 (some (.ref lbad)) (some x) none none v17) H') → t D (sA a d lb lo r l o ring v7 v9 v10 v11 (some (.ref lbad)) none none none v17) H := by
  have hr30 : Room 30 (XL P w K mg base fL cL A outer s H0 E).A := hr.mono (by omega)
  refine ⟨_, ps_set (i := 13) scLaw.nd rfl (Or.inr rfl) (pe_cal C.pick hr30 (pa_cons (pv 1) (pa_cons (pv 12) pa_nil))), ?_⟩
  intro D a d sa lb lo r l o lbad ring v7 v9 v10 v11 v17 vs H hd hT hl hne hD q
  have hvs : vs ≠ [] := fun z => by
    have := dpAll_len hD
    rw [z] at this
    cases this
  refine ⟨_, rfl, _, rfl, d, sa, lbad, vs, rfl, hd, SqL.of hl, hne, hvs, fun i x H1 hx a1 d1 => ?_⟩
  obtain ⟨k, hk, hkd⟩ := dpAll_get hD hx
  have hm := List.mem_of_getElem? hk
  have k1 := Kn.aft hd a1
  exact q x k H1 k1 d1 (tabs_aft hT hd a1) hm (kn_dp k1 (bad_all k hm).2.2 hkd)
theorem law12 (hr : Room 33 (XL P w K mg base fL cL A outer s H0 E).A) (C : CalK P w K mg base) :
    ∃ t, PS (XL P w K mg base fL cL A outer s H0 E) (stL 12) t ∧ ∀ (D : Ends) (a d sa lb lo r l o : Addr) (ring : Bool) (v7 v9 v10 v11 v12 v13 v17 : Option V) (H : Hp), DrwS H d sa → Tabs T H →
    (∀ x (n : Nat) H', n < 5 → Kn H H' → DrwS H' d sa → Tabs T H' → Dp K H' x (deepD 0) → D.nx (sA a d lb lo r l o ring v7 v9 v10 v11 v12 v13 (some x) (some (.int ((6 + n : Nat) : Int))) v17) H') → t D (sA a d lb lo r l o ring v7 v9 v10 v11 v12 v13 none none v17) H := by
  have hr30 : Room 30 (XL P w K mg base fL cL A outer s H0 E).A := hr.mono (by omega)
  refine ⟨_, ps_par (i := 14) (j := 15) rfl scLaw.nd rfl rfl (by decide) rfl rfl (pa_cons (lit_tup (X := XL P w K mg base fL cL A outer s H0 E) (ds := [.str "record", .tuple []]) (lit_cons lit_str (lit_cons (lit_tup lit_nil (by decide)) lit_nil)) (by decide)) (pa_cons (pe_op op_add pe_int (pe_cal C.next hr30 (pa_cons (pv 1) (pa_cons pe_int pa_nil)))) pa_nil)) rfl, ?_⟩
  intro D a d sa lb lo r l o ring v7 v9 v10 v11 v12 v13 v17 H hd hT q
  refine fun v H1 s1 hv => ⟨_, rfl, d, sa, 5, rfl, hd.same s1, by decide, fun r2 H2 r0 r1 a2 d2 => ⟨_, _, rfl, rfl, _, _, rfl, ?_⟩⟩
  obtain ⟨n, rfl⟩ : ∃ n : Nat, r2 = n := ⟨r2.toNat, by omega⟩
  have t1 : Tabs T H1 := hT.ext fun b o h => s1 b o h
  have k2 := Kn.aft (hd.same s1) a2
  have z := q v n H2 (by omega) ((Kn.of s1).trans k2) d2 (tabs_aft t1 (hd.same s1) a2) (kn_dp k2 (by decide) hv)
  rw [show (((6 + n : Nat)) : Int) = 6 + (n : Int) from by omega] at z
  exact z
theorem law13 (C : CalK P w K mg base) :
    ∃ t, PS (XL P w K mg base fL cL A outer s H0 E) (stL 13) t ∧ ∀ (D : Ends) (a d lb lo r l o : Addr) (ring : Bool) (v7 v9 v10 v11 v12 v13 v17 : Option V) (x : V) (n : Nat) (H : Hp), n < 5 → Dp K H x (deepD 0) →
    (∀ x v9 H', Same H H' → Dp K H' x (deepD (5 + n)) → D.nx (sA a d lb lo r l o ring v7 v9 v10 v11 v12 v13 (some x) (some (.int ((6 + n : Nat) : Int))) v17) H') → t D (sA a d lb lo r l o ring v7 v9 v10 v11 v12 v13 (some x) (some (.int ((6 + n : Nat) : Int))) v17) H := by
  refine ⟨_, ps_for PassesOwn.never rfl (pi_range1 rfl C.range (pa_cons (pe_op op_sub (pv 15) pe_int) pa_nil)) (pg_name (i := 9) scLaw.nd rfl (Or.inl rfl)) (pss_one (ps_set (i := 14) scLaw.nd rfl (Or.inl rfl)
    (pe_tup (pa_cons pe_str (pa_cons (pe_tup (pa_cons (pe_tup (pa_cons pe_str (pa_cons (pv 14) pa_nil))) pa_nil)) pa_nil))))), ?_⟩
  intro D a d lb lo r l o ring v7 v9 v10 v11 v12 v13 v17 x n H hn hx q
  have e : (((6 + n : Nat) : Int) - 1).toNat = 5 + n := by omega
  refine ⟨_, rfl, _, _, rfl, rfl, _, rfl, by omega, by omega, ?_⟩
  rw [e]
  refine for_range (n := 5 + n) (fun i σ H2 => ∃ v9 x, σ = sA a d lb lo r l o ring v7 v9 v10 v11 v12 v13 (some x) (some (.int ((6 + n : Nat) : Int))) v17 ∧ Same H H2 ∧ Dp K H2 x (deepD i)) ⟨v9, x, rfl, Same.refl H, hx⟩ ?_ ?_
  · rintro i σ H1 hi ⟨v9, x, rfl, s1, h1⟩
    refine ⟨_, rfl, (by show 2 ≤ sizeLine; decide), fun p hp => ⟨(by show 1 ≤ sizeLine; decide), fun p2 hp2 => ⟨(by show 2 ≤ sizeLine; decide), fun p3 hp3 => ?_⟩⟩⟩
    have n1 := Same.new hp (.tup [.str "p", x])
    have n2 := Same.new hp2 (.tup [.ref p])
    have n3 := Same.new hp3 (.tup [.str "record", .ref p2])
    exact ⟨_, _, rfl, ((s1.trans n1).trans n2).trans n3, dp_ref (SqT.of upd_same) (.str _) (.tup (SqT.of (n3 _ _ upd_same)) (.cons (dp_ref (SqT.of (n3 _ _ (n2 _ _ upd_same))) (.str _) (dp_same n3 (dp_same n2 (dp_same n1 h1)))) .nil))⟩
  · rintro σ H1 ⟨v9, x, rfl, s1, h1⟩
    exact q x v9 H1 s1 h1
theorem law14 (hr : Room 33 (XL P w K mg base fL cL A outer s H0 E).A) (C : CalK P w K mg base) :
    ∃ t, PS (XL P w K mg base fL cL A outer s H0 E) (stL 14) t ∧ ∀ (D : Ends) (a d lb lo r l o : Addr) (ring : Bool) (v7 v9 v10 v11 v12 v17 : Option V) (x y : V) (k : PyData) (n : Nat) (H : Hp), n < 5 → k ∈ BADD → Dp K H y k → Dp K H x (deepD (5 + n)) →
    (∀ H', Same H H' → D.nx (sA a d lb lo r l o ring v7 v9 v10 v11 v12 (some y) (some x) (some (.int ((6 + n : Nat) : Int))) v17) H') → t D (sA a d lb lo r l o ring v7 v9 v10 v11 v12 (some y) (some x) (some (.int ((6 + n : Nat) : Int))) v17) H := by
  have hr30 : Room 30 (XL P w K mg base fL cL A outer s H0 E).A := hr.mono (by omega)
  refine ⟨_, ps_if (PW.pt (pw_or (pt_val (pe_cal C.type hr30 (pa_cons (pv 13) pa_nil))) (pw_or1 (pt_cmpR op_ne (pe_cal C.type hr30 (pa_cons (pv 14) pa_nil)) (pe_cmpR op_le (pv 15) pe_int (nomark _)) (nomark _))))) (pss_one (ps_ret pe_bl)) pss_nil, ?_⟩
  intro D a d lb lo r l o ring v7 v9 v10 v11 v12 v17 x y k n H hn hk hy hx q
  obtain ⟨b1, b2, _⟩ := bad_all k hk
  obtain ⟨c1, _, c3⟩ := deep_all (5 + n) (by omega)
  refine ⟨_, rfl, y, k, rfl, hy, b2, fun H1 s1 => ⟨_, rfl, ?_⟩⟩
  rw [b1]
  refine iteF ⟨_, rfl, x, deepD (5 + n), rfl, dp_same s1 hx, c1, fun H2 s2 => ⟨_, rfl, _, _, rfl, rfl, rfl, _, rfl, ?_⟩⟩
  have e : decide (V.bl (isNest 8 (deepD (5 + n))) = V.bl (decide (((6 + n : Nat) : Int) ≤ 8))) = true := by
    rw [c3]
    refine decide_eq_true (congrArg V.bl ?_)
    by_cases h : 5 + n < 8
    · rw [decide_eq_true h, decide_eq_true (show ((6 + n : Nat) : Int) ≤ 8 by omega)]
    · rw [decide_eq_false h, decide_eq_false (show ¬ ((6 + n : Nat) : Int) ≤ 8 by omega)]
  rw [e]
  exact iteF (q H2 (s1.trans s2))
end
end K1

end
section
set_option Elab.async false
set_option linter.all false
set_option maxRecDepth 100000
set_option maxHeartbeats 4000000
namespace K1
open PySem PySem.Spec PyProof.Rows L2 LamX
section
variable {P : Program} {w : World} {K : PySem.W.Frag} {mg : Str → Option Value} {base : Heap} {fL cL PL CB CT CR fQ fB : Addr} {fdQ fdB : FuncData} {A : Around} {outer : List Env} {s : Shared} {H0 : Hp} {E : XK} {T : List (Addr × Str)}
/-- the errors' classes, asked of each other -/
structure XM (K : PySem.W.Frag) (CB CT : Addr) : Prop where
  bb : PySem.W.exmOne K (.ref CB) (.ref CB) = some true
  tb : PySem.W.exmOne K (.ref CT) (.ref CB) = some false
  tt : PySem.W.exmOne K (.ref CT) (.ref CT) = some true
theorem law15 (hr : Room 33 (XL P w K mg base fL cL A outer s H0 E).A) (h : LamH K mg base cL PL CB CT) (I : RmIs P w K mg base CT CR fB fdB) (M : XM K CB CT) :
    ∃ t, PS (XL P w K mg base fL cL A outer s H0 E) (stL 15) t ∧ ∀ (D : Ends) (a d sa lb lo r l o : Addr) (ring : Bool) (v7 v9 v10 v11 v12 v14 v15 v17 : Option V) (y : V) (k : PyData) (B ys : List Str) (ps : PSt) (g : V) (H : Hp), DrwS H d sa → Tabs (TL fL cL PL) H → BOk B → ys.Perm B → RoomAt H CR r ps ys g → k ∈ BADD → Dp K H y k →
    (∀ H', Kn H H' → DrwS H' d sa → Tabs (TL fL cL PL) H' → D.nx (sA a d lb lo r l o ring v7 v9 v10 v11 v12 (some y) v14 v15 v17) H') → t D (sA a d lb lo r l o ring v7 v9 v10 v11 v12 (some y) v14 v15 v17) H := by
  refine ⟨_, ps_if (pt_cmpR (op_neD hr.units) (pe_err h hr (lamS_by (by decide +kernel)) rfl (fun _ _ _ _ _ => rfl) (fun A' outer' s' H' E' f c' hr' =>
    pe_meth (pv 5) I.c I.m I.F (hr'.mono (by omega)) I.b .nil (passes_call (takes_of rfl rfl rfl rfl) (fun _ _ _ _ z => z)) (pa_cons (pv 13) (pa_cons (pe_tup (pa_cons pe_str pa_nil)) pa_nil))))
    (pe_tup (pa_cons pe_str pa_nil)) (nomark _)) (pss_one (ps_ret pe_bl)) pss_nil, ?_⟩
  intro D a d sa lb lo r l o ring v7 v9 v10 v11 v12 v14 v15 v17 y k B ys ps g H hd hT hB hp hR hk hy q
  obtain ⟨b1, b2, b3⟩ := bad_all k hk
  refine ⟨hT, fun H1 e1 t1 => ?_⟩
  have k1 := Kn.ext e1
  have d1 := hd.ext e1
  have hR1 := k1.room hR
  have hy1 := kn_dp k1 b3 hy
  obtain ⟨dx, dA, dn, df, i1, _⟩ := id hR1
  refine ⟨_, rfl, r, dx, _, rfl, i1, rfl, _, rfl, (by show 1 ≤ sizeLine; decide), fun p hp1 => ?_⟩
  have s1 := Same.new hp1 (.tup [.str "any"])
  refine ⟨r, y, .ref p, k, anyD, ps, ys, B, g, rfl, hR1.same s1, hp, hB.2.2.2, dp_same s1 hy1, b2, .tup (SqT.of upd_same) (.cons (.str _) .nil), fine_any, .inl ⟨.inl b1, fun H3 s3 => ?_⟩⟩
  refine ⟨false, M.tb, fun z => (nomatch z), fun _ => ⟨true, M.tt, fun _ p2 hp2 => ⟨(by show 1 ≤ sizeLine; decide), fun p3 hp3 => ?_⟩, fun z => (nomatch z)⟩⟩
  have s2 := Same.new hp2 (.tup [.str "BadType"])
  have s4 := Same.new hp3 (.tup [.str "BadType"])
  have e : PyData.eqv (.tuple [.str "BadType"]) (.tuple [.str "BadType"]) = true := by decide +kernel
  refine ⟨.tuple [.str "BadType"], .tuple [.str "BadType"], .tup (SqT.of (s4 _ _ upd_same)) (.cons (.str _) .nil), .tup (SqT.of upd_same) (.cons (.str _) .nil), by decide +kernel, by decide +kernel, _, rfl, ?_⟩
  rw [e]
  have st := ((s1.trans s3).trans s2).trans s4
  exact iteF (q _ (k1.trans (Kn.of st)) (d1.same st) (t1.ext fun b o h => st b o h))
theorem law16 (hr : Room 33 (XL P w K mg base fL cL A outer s H0 E).A) (h : LamH K mg base cL PL CB CT) (I : RmIs P w K mg base CT CR fB fdB) (M : XM K CB CT) :
    ∃ t, PS (XL P w K mg base fL cL A outer s H0 E) (stL 16) t ∧ ∀ (D : Ends) (a d sa lb lo r l o : Addr) (ring : Bool) (v7 v9 v10 v11 v12 v14 v15 v17 : Option V) (y : V) (k : PyData) (B ys : List Str) (ps : PSt) (g : V) (H : Hp), DrwS H d sa → Tabs (TL fL cL PL) H → BOk B → ys.Perm B → RoomAt H CR r ps ys g → k ∈ BADD → Dp K H y k →
    (∀ H', Kn H H' → DrwS H' d sa → Tabs (TL fL cL PL) H' → D.nx (sA a d lb lo r l o ring v7 v9 v10 v11 v12 (some y) v14 v15 v17) H') → t D (sA a d lb lo r l o ring v7 v9 v10 v11 v12 (some y) v14 v15 v17) H := by
  refine ⟨_, ps_if (PW.pt (pw_and (pt_cmpR (op_neD hr.units) (pv 13) (pe_tup (pa_cons pe_str pa_nil)) (nomark _)) (pw_and1 (pt_cmpR (op_neD hr.units) (pe_err h hr (lamS_by (by decide +kernel)) rfl (fun _ _ _ _ _ => rfl) (fun A' outer' s' H' E' f c' hr' =>
    pe_meth (pv 5) I.c I.m I.F (hr'.mono (by omega)) I.b .nil (passes_call (takes_of rfl rfl rfl rfl) (fun _ _ _ _ z => z)) (pa_cons (pe_tup (pa_cons pe_str (pa_cons (pe_tup pa_nil) pa_nil))) (pa_cons (pv 13) pa_nil))))
    (pe_tup (pa_cons pe_str pa_nil)) (nomark _))))) (pss_one (ps_ret pe_bl)) pss_nil, ?_⟩
  intro D a d sa lb lo r l o ring v7 v9 v10 v11 v12 v14 v15 v17 y k B ys ps g H hd hT hB hp hR hk hy q
  obtain ⟨b1, b2, b3⟩ := bad_all k hk
  refine ⟨_, rfl, (by show 1 ≤ sizeLine; decide), fun p0 hp0 => ?_⟩
  have s0 := Same.new hp0 (.tup [.str "any"])
  have hT0 : Tabs (TL fL cL PL) (upd H p0 (.tup [.str "any"])) := hT.ext fun b o h => s0 b o h
  refine ⟨k, anyD, dp_same s0 hy, .tup (SqT.of upd_same) (.cons (.str _) .nil), b2.2, fine_any.2, _, rfl, ?_⟩
  cases ek : PyData.eqv k anyD with
  | true => exact iteF (iteF (q _ (Kn.of s0) (hd.same s0) hT0))
  | false =>
    refine iteT ⟨hT0, fun H1 e1 t1 => ?_⟩
    have k1 := (Kn.of s0).trans (Kn.ext e1)
    have d1 := (hd.same s0).ext e1
    have hR1 := k1.room hR
    have hy1 := kn_dp k1 b3 hy
    obtain ⟨dx, dA, dn, df, i1, _⟩ := id hR1
    refine ⟨_, rfl, r, dx, _, rfl, i1, rfl, (by show 0 ≤ sizeLine; decide), fun p hp1 => ⟨(by show 2 ≤ sizeLine; decide), fun p' hp' => ⟨_, rfl, ?_⟩⟩⟩
    have n1 := Same.new hp1 (.tup [])
    have n2 := Same.new hp' (.tup [.str "record", .ref p])
    have s1 := n1.trans n2
    refine ⟨r, .ref p', y, recD [], k, ps, ys, B, g, rfl, hR1.same s1, hp, hB.2.2.2, dp_ref (SqT.of upd_same) (.str _) (.tup (SqT.of (n2 _ _ upd_same)) .nil), fine_rec, dp_same s1 hy1, b2, .inl ⟨.inr (by rw [ek, b1]; rfl), fun H3 s3 => ?_⟩⟩
    refine ⟨false, M.tb, fun z => (nomatch z), fun _ => ⟨true, M.tt, fun _ p2 hp2 => ⟨(by show 1 ≤ sizeLine; decide), fun p3 hp3 => ?_⟩, fun z => (nomatch z)⟩⟩
    have s2 := Same.new hp2 (.tup [.str "BadType"])
    have s4 := Same.new hp3 (.tup [.str "BadType"])
    have e : PyData.eqv (.tuple [.str "BadType"]) (.tuple [.str "BadType"]) = true := by decide +kernel
    refine ⟨.tuple [.str "BadType"], .tuple [.str "BadType"], .tup (SqT.of (s4 _ _ upd_same)) (.cons (.str _) .nil), .tup (SqT.of upd_same) (.cons (.str _) .nil), by decide +kernel, by decide +kernel, _, rfl, ?_⟩
    rw [e]
    have st := ((s1.trans s3).trans s2).trans s4
    exact iteF (q _ (k1.trans (Kn.of st)) (d1.same st) (t1.ext fun b o h => st b o h))
end
end K1

end
section
set_option Elab.async false
set_option linter.all false
set_option maxRecDepth 100000
set_option maxHeartbeats 4000000
namespace K1
open PySem PySem.Spec PyProof.Rows L2 LamX
theorem reach_nil {x y : Str} (h : Reach [] x y) : False := by
  induction h with
  | one h1 => cases h1
  | more _ h1 _ => cases h1
theorem reach_rev {ps : PSt} {x y : Str} : Reach (ps.reverse ++ ps) x y ↔ Reach ps x y :=
  ⟨fun h => h.sub fun p hp => by
    rcases List.mem_append.mp hp with z | z
    · exact List.mem_reverse.mp z
    · exact z, fun h => h.sub fun p hp => List.mem_append_right _ hp⟩
section
variable {P : Program} {w : World} {K : PySem.W.Frag} {mg : Str → Option Value} {base : Heap} {fL cL PL CB CT CR fQ fB fI : Addr} {fdQ fdB fdI : FuncData} {A : Around} {outer : List Env} {s : Shared} {H0 : Hp} {E : XK} {T : List (Addr × Str)}
theorem law17 (hr : Room 33 (XL P w K mg base fL cL A outer s H0 E).A) (h : RmEq K mg CR fQ fdQ) (M : Mk K CR fI) (FI : FnOk P w K mg base (L2.CX P w) 30 fI fdI NI (spInit K CB CR)) (bI : L2.Binds K fdI NI []) (mR : mg "Room" = some (.ref CR)) :
    ∃ t, PS (XL P w K mg base fL cL A outer s H0 E) (stL 17) t ∧ ∀ (D : Ends) (a d lb lo r l o : Addr) (ring : Bool) (v7 v9 v10 v11 v12 v13 v14 v15 v17 : Option V) (B ys : List Str) (ps : PSt) (g : V) (H : Hp), BOk B → H lb = some (.lst (B.map V.str)) → PrsN H lo ps → ps.length ≤ 3 → (∀ p ∈ ps, p.1 ∈ B ∧ p.2 ∈ B) → (∀ x ∈ B, ¬ Reach ps x x) →
      ys.Perm B → sortedS ys = true → RoomAt H CR r ps ys g → Dp K H g (recD []) → (∀ H', D.rt (.bl true) H') → t D (sA a d lb lo r l o ring v7 v9 v10 v11 v12 v13 v14 v15 v17) H := by
  have FQ : FnOk P w K mg base CX0 1 fQ fdQ ["self", "other"] (spEqM K CR) := ok_eqm h.F h.mI h.T h.R
  refine ⟨_, ps_ret (pe_and (pe_cmpR (r := rNeM CR) (op_neM (X := XL P w K mg base fL cL A outer s H0 E) (hr.mono (by omega)) FQ h.b h.hs h.hf h.hn h.hob) (pv 5)
      (pe_make (E := E0) M FI (hr.mono (by omega)) rfl mR bI .nil passL (pa_cons (pe_lst (pa_cons pe_str pa_nil)) (pa_cons (pe_lst pa_nil) (pa_cons pe_dnewK (pa_cons pe_dnewK (pa_cons (pe_tup (pa_cons pe_str (pa_cons pe_str pa_nil))) pa_nil)))))) (nomark _))
    (pe_one (pe_cmpR (r := rEqM K CR) (op_eqM (X := XL P w K mg base fL cL A outer s H0 E) (hr.mono (by omega)) FQ h.b h.hs h.hf) (pv 5)
      (pe_make (E := E0) M FI (hr.mono (by omega)) rfl mR bI .nil passL (pa_cons (pe_revL (pv 2)) (pa_cons (pe_op op_cat (pe_revL (pv 3)) (pv 3)) (pa_cons pe_dnewK (pa_cons pe_dnewK (pa_cons (pe_tup (pa_cons pe_str (pa_cons (pe_tup pa_nil) pa_nil))) pa_nil)))))) (nomark _)))), ?_⟩
  intro D a d lb lo r l o ring v7 v9 v10 v11 v12 v13 v14 v15 v17 B ys ps g H hB hlb hP hpl hin hno hperm hsort hR hg q
  refine ⟨_, rfl, (by show 1 ≤ sizeLine; decide), fun lz hlz => ⟨(by show 0 ≤ sizeLine; decide), fun l0 hl0 => fun dn hdn => fun df hdf => ⟨(by show 2 ≤ sizeLine; decide), fun g2 hg2 => ?_⟩⟩⟩
  have n1 := Same.new hlz (.lst [.str "zz"])
  have n2 := Same.new hl0 (.lst [])
  have n3 := Same.new hdn (.dK [])
  have n4 := Same.new hdf (.dK [])
  have n5 := Same.new hg2 (.tup [.str "base", .str "zz"])
  have sn := (((n1.trans n2).trans n3).trans n4).trans n5
  intro x dx hx hdx hne
  refine make_room (B := ["zz"]) (ps := []) (gd := baseD "zz") (Q := fun v H2 => rNeM CR (.ref r) v H2 _)
    ⟨.inl (SqL.of ((((n2.trans n3).trans n4).trans n5) _ _ upd_same)), by decide, by decide, by simp, fun x hx => by rw [List.mem_singleton.mp hx]; exact ⟨by decide +kernel, by decide +kernel⟩, ⟨[], SqL.of (((n3.trans n4).trans n5) _ _ upd_same), rfl, fun i c p e => by simp at e⟩, by decide, fun p hp => (nomatch hp)⟩
    ((n4.trans n5) _ _ upd_same) (n5 _ _ upd_same) (dp_ref (SqT.of upd_same) (.str _) (.str _)) ⟨by decide +kernel, by decide +kernel⟩ (by decide +kernel) (.inl ⟨g2, "zz", rfl, rfl, SqT.of upd_same, List.mem_singleton.mpr rfl⟩)
    (fun hring H' s' => ?_) (fun _ p zs H1 s1 hzp _ hR2 => ?_) x dx hx hdx hne
  · obtain ⟨x, _, h⟩ := hring
    exact (reach_nil h).elim
  · have s01 := sn.trans s1
    refine ⟨r, p, rfl, rfl, ⟨ps, [], ys, zs, g, .ref g2, hR.same s01, hR2, fun z => ?_, fun x hx hz => ?_⟩, fun H2 s2 => ⟨true, rfl, iteT ?_⟩⟩
    · rw [z] at hperm
      exact hB.1 hperm.symm.eq_nil
    · have h1 := hB.2.2.2 x (hperm.mem_iff.mp hx)
      rw [List.mem_singleton.mp (hzp.mem_iff.mp hz)] at h1
      exact absurd h1 (by decide +kernel)
    · have s02 := s01.trans s2
      have hlb2 := s02 _ _ hlb
      obtain ⟨cs, c1, c2, c3⟩ := hP
      have hlo2 := s02 _ _ c1
      refine ⟨_, rfl, _, rfl, lb, _, rfl, SqL.of hlb2, fun lr hlr => ⟨_, rfl, lo, _, rfl, SqL.of (Same.new hlr _ _ _ hlo2), fun l1 hl1 => ⟨_, rfl, l1, lo, _, _, rfl, rfl, upd_same, Same.new hl1 _ _ _ (Same.new hlr _ _ _ hlo2), ?_, fun l2 hl2 => ?_⟩⟩⟩
      · rw [List.length_reverse, List.length_map]
        exact Nat.le_of_lt (small1000 (by omega))
      intro dn2 hdn2 df2 hdf2
      refine ⟨(by show 0 ≤ sizeLine; decide), fun q2 hq2 => ⟨(by show 2 ≤ sizeLine; decide), fun g3 hg3 => ?_⟩⟩
      have m1 := Same.new hlr (.lst (B.map V.str).reverse)
      have m2 := Same.new hl1 (.lst (cs.map V.ref).reverse)
      have m3 := Same.new hl2 (.lst ((cs.map V.ref).reverse ++ cs.map V.ref))
      have m4 := Same.new hdn2 (.dK [])
      have m5 := Same.new hdf2 (.dK [])
      have m6 := Same.new hq2 (.tup [])
      have m7 := Same.new hg3 (.tup [.str "record", .ref q2])
      have m47 := ((m4.trans m5).trans m6).trans m7
      have mn := ((m1.trans m2).trans m3).trans m47
      have eB : (B.map V.str).reverse = B.reverse.map V.str := by rw [List.map_reverse]
      have eC : (cs.map V.ref).reverse ++ cs.map V.ref = (cs.reverse ++ cs).map V.ref := by rw [List.map_append, List.map_reverse]
      have hlr2 := ((m2.trans m3).trans m47) _ _ (upd_same (H := H2) (a := lr) (o := .lst (B.map V.str).reverse)) |>.trans (congrArg (fun z => some (HO.lst z)) eB)
      have hl22 := m47 _ _ (upd_same (a := l2) (o := .lst ((cs.map V.ref).reverse ++ cs.map V.ref))) |>.trans (congrArg (fun z => some (HO.lst z)) eC)
      have hq3 := m7 _ _ (upd_same (a := q2) (o := .tup []))
      have c3' : ∀ (i : Nat) (c : Addr) (p : Str × Str), (cs.reverse ++ cs)[i]? = some c → (ps.reverse ++ ps)[i]? = some p → H c = some (.tup [.str p.1, .str p.2]) := fun i c p e1 e2 => by
        by_cases hi : i < cs.length
        · rw [List.getElem?_append_left (by rw [List.length_reverse]; exact hi), List.getElem?_reverse hi] at e1
          rw [List.getElem?_append_left (by rw [List.length_reverse, ← c2]; exact hi), List.getElem?_reverse (by rw [← c2]; exact hi), ← c2] at e2
          exact c3 _ c p e1 e2
        · rw [List.getElem?_append_right (by rw [List.length_reverse]; omega), List.length_reverse] at e1
          rw [List.getElem?_append_right (by rw [List.length_reverse, ← c2]; omega), List.length_reverse, ← c2] at e2
          exact c3 _ c p e1 e2
      have smn := s02.trans mn
      have inR : ∀ p ∈ ps.reverse ++ ps, p.1 ∈ B.reverse ∧ p.2 ∈ B.reverse := fun p hp => by
        have hp' : p ∈ ps := by
          rcases List.mem_append.mp hp with z | z
          · exact List.mem_reverse.mp z
          · exact z
        exact ⟨List.mem_reverse.mpr (hin p hp').1, List.mem_reverse.mpr (hin p hp').2⟩
      have hBr : BOk B.reverse := ⟨fun z => hB.1 (List.reverse_eq_nil_iff.mp z), by rw [List.length_reverse]; exact hB.2.1, (List.reverse_perm B).nodup_iff.mpr hB.2.2.1, fun x hx => hB.2.2.2 x (List.mem_reverse.mp hx)⟩
      intro x dx hx hdx hne
      refine make_room (B := B.reverse) (ps := ps.reverse ++ ps) (gd := recD []) (Q := fun v H2 => rEqM K CR (.ref r) v H2 _)
        (mkb_of hBr (.inl (SqL.of hlr2)) ⟨cs.reverse ++ cs, SqL.of hl22, by rw [List.length_append, List.length_append, List.length_reverse, List.length_reverse, c2], fun i c p e1 e2 => SqT.of (smn _ _ (c3' i c p e1 e2))⟩ (by rw [List.length_append, List.length_reverse]; omega) inR)
        (((m5.trans m6).trans m7) _ _ upd_same) ((m6.trans m7) _ _ upd_same) (dp_ref (SqT.of upd_same) (.str _) (.tup (SqT.of hq3) .nil)) fine_rec (by decide +kernel) (.inr ⟨g3, q2, rfl, rfl, SqT.of upd_same, SqT.of hq3⟩)
        (fun hring H' s' => ?_) (fun _ p zs H3 s3 hzp hzs hR3 => ?_) x dx hx hdx hne
      · obtain ⟨x, hx, h⟩ := hring
        exact (hno x (List.mem_reverse.mp hx) (reach_rev.mp h)).elim
      · have smn3 := smn.trans s3
        have ez : zs = ys := sort_same hzs hsort (hzp.nodup_iff.mpr hBr.2.2.1) (hperm.nodup_iff.mpr hB.2.2.1) fun x => by rw [hzp.mem_iff, hperm.mem_iff, List.mem_reverse]
        rw [ez] at hR3
        have bok : ∀ x ∈ BAS, PyData.strOk x = true := by decide +kernel
        refine ⟨r, p, rfl, rfl, ⟨ps, ps.reverse ++ ps, ys, g, .ref g3, recD [], recD [], hR.same smn3, hR3, fun x y => reach_rev.symm, fun x y hxy => bok y (hB.2.2.2 y (hxy.mem fun p hp => (hin p hp).2)), dp_same smn3 hg, dp_same s3 (dp_ref (SqT.of upd_same) (.str _) (.tup (SqT.of hq3) .nil)), by decide +kernel, by decide +kernel, by decide +kernel⟩, fun H4 _ => q H4⟩
end
end K1

end
section
set_option Elab.async false
set_option linter.all false
set_option maxRecDepth 100000
set_option maxHeartbeats 4000000
namespace K1
open PySem PySem.Spec PyProof.Rows L2 LamX
def spLaw (K : PySem.W.Frag) (fL cL PL : Addr) : Sp := fun vs H Q _ => ∃ (a : Addr) (ns : List Int), vs = [.ref a] ∧ SqL K H a (ns.map V.int) ∧ ns.length ≤ 63 ∧ Tabs (TL fL cL PL) H ∧ ∀ H', Q (.bl true) H'
section
variable {P : Program} {w : World} {K : PySem.W.Frag} {mg : Str → Option Value} {base : Heap} {fL cL PL CB CT CR fQ fB fI : Addr} {fdQ fdB fdI : FuncData}
theorem ok_law {kV doc pm ct oc : Value} {an od : Option Addr} {osl : Array (Option Value)} (lk : K.lookup fL = some ⟨oc, od, .func (PySem.W.fnOf "law" "law" (defArgs sLaw) (defBody sLaw) (defScope sLaw) .none kV doc pm an (.ref cL) ct), osl⟩) (hcd : PySem.W.codeIn K (.ref cL) "law" = true)
    (C : CalK P w K mg base) (h : LamH K mg base cL PL CB CT) (X : XM K CB CT) (M : Mk K CR fI) (FI : FnOk P w K mg base (L2.CX P w) 30 fI fdI NI (spInit K CB CR)) (bI : L2.Binds K fdI NI []) (mR : mg "Room" = some (.ref CR)) (I : RmIs P w K mg base CT CR fB fdB) (RQ : RmEq K mg CR fQ fdQ) :
    FnOk P w K mg base CX0 34 fL (PySem.W.fnOf "law" "law" (defArgs sLaw) (defBody sLaw) (defScope sLaw) .none kV doc pm an (.ref cL) ct) ["script"] (spLaw K fL cL PL) := by
  refine fn_of lk hcd scLaw (fun vs H Q E h => ?_) fun A outer s H vs Q E hr hsp => ?_
  · obtain ⟨_, _, rfl, _⟩ := h
    rfl
  obtain ⟨a, ns, rfl, hS, hl, hT, q⟩ := hsp
  have hr33 : Room 33 (XL P w K mg base fL cL A outer s H E).A := hr
  have hr30 : Room 30 (XL P w K mg base fL cL A outer s H E).A := hr33.mono (by omega)
  obtain ⟨t0, p0, h0⟩ := law0 (P := P) (w := w) (K := K) (mg := mg) (base := base) (fL := fL) (cL := cL) (A := A) (outer := outer) (s := s) (H0 := H) (E := E) (T := TL fL cL PL)
  obtain ⟨t1, p1, h1⟩ := law1 (T := TL fL cL PL) hr30 C.next
  obtain ⟨t2, p2, h2⟩ := law2 (T := TL fL cL PL) hr30 C.next C.pick C.range
  obtain ⟨t3, p3, h3⟩ := law3 hr30 C.above C.any
  obtain ⟨t4, p4, h4⟩ := law4 hr33 h M FI bI mR C.tuple X.bb
  obtain ⟨t5, p5, h5⟩ := law5 hr33 RQ
  obtain ⟨t6, p6, h6⟩ := law6 (P := P) (w := w) (K := K) (mg := mg) (base := base) (fL := fL) (cL := cL) (A := A) (outer := outer) (s := s) (H0 := H) (E := E)
  obtain ⟨t7, p7, h7⟩ := law7 (T := TL fL cL PL) hr33 C.above
  obtain ⟨t8, p8, h8⟩ := law8 (P := P) (w := w) (K := K) (mg := mg) (base := base) (fL := fL) (cL := cL) (A := A) (outer := outer) (s := s) (H0 := H) (E := E)
  obtain ⟨t9, p9, h9⟩ := law9 (T := TL fL cL PL) hr33 C I
  obtain ⟨t10, p10, h10⟩ := law10 (P := P) (w := w) (K := K) (mg := mg) (base := base) (fL := fL) (cL := cL) (A := A) (outer := outer) (s := s) (H0 := H) (E := E)
  obtain ⟨t11, p11, h11⟩ := law11 (T := TL fL cL PL) hr33 C
  obtain ⟨t12, p12, h12⟩ := law12 (T := TL fL cL PL) hr33 C
  obtain ⟨t13, p13, h13⟩ := law13 (P := P) (w := w) (K := K) (mg := mg) (base := base) (fL := fL) (cL := cL) (A := A) (outer := outer) (s := s) (H0 := H) (E := E) C
  obtain ⟨t14, p14, h14⟩ := law14 hr33 C
  obtain ⟨t15, p15, h15⟩ := law15 hr33 h I X
  obtain ⟨t16, p16, h16⟩ := law16 hr33 h I X
  obtain ⟨t17, p17, h17⟩ := law17 hr33 RQ M FI bI mR
  have all : PSs (XL P w K mg base fL cL A outer s H E) (defBody sLaw) _ := pss_cons p0 (pss_cons p1 (pss_cons p2 (pss_cons p3 (pss_cons p4 (pss_cons p5 (pss_cons p6 (pss_cons p7 (pss_cons p8 (pss_cons p9 (pss_cons p10 (pss_cons p11 (pss_cons p12 (pss_cons p13 (pss_cons p14 (pss_cons p15 (pss_cons p16 (pss_one p17)))))))))))))))))
  refine ⟨_, all.nox, ?_⟩
  refine h0 _ a ns H hS hl hT fun d sa H1 d1 t1 => ?_
  refine h1 _ a d sa H1 d1 t1 fun lb n H2 hlb d2 t2 hn => ?_
  have hB := bok_take hn
  generalize BAS.take (n + 1) = B at *
  refine h2 _ a d sa lb B H2 d2 t2 hB.1 hlb fun lo ps H3 k3 d3 t3 hP hpl hin => ?_
  have hlb3 := k3 _ _ nd_strs hlb
  have hps : ∀ p ∈ ps, p.2 ∈ BAS := fun p hp => hB.2.2.2 _ (hin p hp).2
  refine h3 _ a d lb lo B ps H3 hB.2.2.2 (by have := hB.2.1; omega) hlb3 hP (by omega) hps fun ring H4 s4 hring => ?_
  refine h4 _ a d sa lb lo (.bl ring) B ps H4 (d3.same s4) (t3.ext fun b o h => s4 b o h) hB (s4 _ _ hlb3) ((Kn.of s4).prs hP) (by omega) hin (fun hrg r H5 k5 d5 t5 hr5 => ?_) (fun hno r ys g H5 k5 d5 t5 hperm hso hR hg => ?_)
  · exact h5 _ a d lb lo r ring H5 (.inl ⟨hring.mpr hrg, hr5, fun H' => q H'⟩)
  have hrf : ring = false := by
    cases er : ring with
    | false => rfl
    | true =>
      obtain ⟨x, hx, hx2⟩ := hring.mp er
      exact (hno x hx hx2).elim
  obtain ⟨dx, dA, dn, df, i1, _⟩ := id hR
  refine h5 _ a d lb lo r ring H5 (.inr ⟨hrf, ⟨dx, _, i1⟩, fun H6 s6 => ?_⟩)
  have d6 := d5.same s6
  have t6 : Tabs (TL fL cL PL) H6 := t5.ext fun b o h => s6 b o h
  have k46 := k5.trans (Kn.of s6)
  have hlb6 := k46 _ _ nd_strs (s4 _ _ hlb3)
  have hP6 := k46.prs ((Kn.of s4).prs hP)
  have hR6 := hR.same s6
  have hg6 := dp_same s6 hg
  refine h6 _ a d lb lo r ring H6 fun l H7 s7 hn7 hl7 => ?_
  have nl := d6.new hn7
  refine h7 _ a d sa lb lo r l ring B ps H6 H7 hn7 (Kn.of s7) (d6.same s7) (t6.ext fun b o h => s7 b o h) nl.1 nl.2 hl7 hB hlb6 hP6 (by omega) hps fun qs v7 H8 k8 d8 t8 hq8 hqm => ?_
  refine h8 _ a d lb lo r l ring v7 H8 fun o H9 s9 ho => ?_
  have k9 := k8.trans (Kn.of s9)
  have hqb : ∀ p ∈ qs, p.1 ∈ BAS ∧ p.2 ∈ BAS := fun p hp => by
    obtain ⟨z1, z2⟩ := (hqm p).mp hp
    exact ⟨hB.2.2.2 _ z1, z2.mem hps⟩
  refine h9 _ a d sa lb lo r l o ring v7 B ys ps qs g H9 (d8.same s9) (t8.ext fun b o h => s9 b o h) hB (k9 _ _ nd_strs hlb6) hperm (k9.room hR6) ho ((Kn.of s9).prs hq8) hqb hqm fun v9 v10 v11 v17 H10 k10 d10 t10 => ?_
  have k610 := k9.trans k10
  refine h10 _ a d lb lo r l o ring v7 v9 v10 v11 v17 H10 fun lbad vs H11 s11 hnb hlb11 hD => ?_
  have nb := d10.new hnb
  refine h11 _ a d sa lb lo r l o lbad ring v7 v9 v10 v11 v17 vs H11 (d10.same s11) (t10.ext fun b o h => s11 b o h) hlb11 nb.1 hD fun y k H12 k12 d12 t12 hk hy => ?_
  refine h12 _ a d sa lb lo r l o ring v7 v9 v10 v11 _ _ v17 H12 d12 t12 fun x n5 H13 hn5 k13 d13 t13 hx => ?_
  refine h13 _ a d lb lo r l o ring v7 v9 v10 v11 _ _ v17 x n5 H13 hn5 hx fun x v9 H14 s14 hx => ?_
  have hy14 := dp_same s14 (kn_dp k13 (bad_all k hk).2.2 hy)
  refine h14 _ a d lb lo r l o ring v7 v9 v10 v11 _ v17 x y k n5 H14 hn5 hk hy14 hx fun H15 s15 => ?_
  have k615 := (((k610.trans (Kn.of s11)).trans k12).trans k13).trans ((Kn.of s14).trans (Kn.of s15))
  have d15 := (d13.same s14).same s15
  have t15 : Tabs (TL fL cL PL) H15 := (t13.ext fun b o h => s14 b o h).ext fun b o h => s15 b o h
  have hy15 := dp_same s15 hy14
  refine h15 _ a d sa lb lo r l o ring v7 v9 v10 v11 _ _ _ v17 y k B ys ps g H15 d15 t15 hB hperm (k615.room hR6) hk hy15 fun H16 k16 d16 t16 => ?_
  refine h16 _ a d sa lb lo r l o ring v7 v9 v10 v11 _ _ _ v17 y k B ys ps g H16 d16 t16 hB hperm ((k615.trans k16).room hR6) hk (kn_dp k16 (bad_all k hk).2.2 hy15) fun H17 k17 d17 t17 => ?_
  have k617 := (k615.trans k16).trans k17
  exact h17 _ a d lb lo r l o ring v7 v9 v10 v11 _ _ _ _ v17 B ys ps g H17 hB (k617 _ _ nd_strs hlb6) (k617.prs hP6) hpl hin hno hperm hso (k617.room hR6) (kn_dp k617 (by decide) hg6) fun H' => q H'
end
end K1

end
section
set_option Elab.async false
set_option linter.all false
set_option maxRecDepth 100000
set_option maxHeartbeats 4000000
namespace K1
open PySem PySem.Spec PyProof.Rows L2 LamX
theorem all_mk {l : PySem.W.OpenLaw} {w : World} {K : PySem.W.Frag} {h : Heap} {mg : Str → Option Value} {fa CR CB CT aA aN cL : Addr} (PL : Addr) {f1 f2 f3 f4 f5 f6 f7 f8 f9 f10 f11 f12 f13 f14 f15 f16 f17 f18 f19 f20 f21 f22 f23 f24 f25 f26 f27 f28 f29 f30 : Addr} {od1 an1 od2 an2 od3 an3 od4 an4 od5 an5 od6 an6 od7 an7 od8 an8 od9 an9 od10 an10 od11 an11 od12 an12 od13 an13 od14 an14 od15 an15 od16 an16 od17 an17 od18 an18 od19 an19 od20 an20 od21 an21 od22 an22 od23 an23 od24 an24 od25 an25 od26 an26 od27 an27 od28 an28 od29 an29 od30 an30 dA1 dA2 : Option Addr} {sl1 sl2 sl3 sl4 sl5 sl6 sl7 sl8 sl9 sl10 sl11 sl12 sl13 sl14 sl15 sl16 sl17 sl18 sl19 sl20 sl21 sl22 sl23 sl24 sl25 sl26 sl27 sl28 sl29 sl30 sA1 sA2 : Array (Option Value)} {nA1 nA2 : Nat} {tA1 tA2 tA3 tA4 tgL tgD tgM tgMn tgMf : Tok}
    {oc1 kV1 dc1 pm1 ct1 cd1 oc2 kV2 dc2 pm2 ct2 cd2 oc3 kV3 dc3 pm3 ct3 cd3 oc4 kV4 dc4 pm4 ct4 cd4 oc5 kV5 dc5 pm5 ct5 cd5 oc6 kV6 dc6 pm6 ct6 cd6 oc7 kV7 dc7 pm7 ct7 cd7 oc8 kV8 dc8 pm8 ct8 cd8 oc9 kV9 dc9 pm9 ct9 cd9 oc10 kV10 dc10 pm10 ct10 cd10 oc11 kV11 dc11 pm11 ct11 cd11 oc12 kV12 dc12 pm12 ct12 cd12 oc13 kV13 dc13 pm13 ct13 cd13 oc14 kV14 dc14 pm14 ct14 cd14 oc15 kV15 dc15 pm15 ct15 cd15 oc16 kV16 dc16 pm16 ct16 cd16 oc17 kV17 dc17 pm17 ct17 cd17 oc18 kV18 dc18 pm18 ct18 cd18 oc19 kV19 dc19 pm19 ct19 cd19 oc20 kV20 dc20 pm20 ct20 cd20 oc21 kV21 dc21 pm21 ct21 cd21 oc22 kV22 dc22 pm22 ct22 cd22 oc23 kV23 dc23 pm23 ct23 cd23 oc24 kV24 dc24 pm24 ct24 cd24 oc25 kV25 dc25 pm25 ct25 cd25 oc26 kV26 dc26 pm26 ct26 cd26 oc27 kV27 dc27 pm27 ct27 oc28 kV28 dc28 pm28 ct28 cd28 oc29 kV29 dc29 pm29 ct29 cd29 oc30 kV30 dc30 pm30 ct30 cd30 : Value}
    (X : K.In h) (G : h.Ns mainGlobals mg) (hfa : mg "law" = some (.ref fa)) (hPT : h.get? PL = some { cls := .none, data := .fields #[] })
    (a1 : PySem.W.nsIn K mainGlobals "is_small" = some (some (.ref f1)))
    (l1 : K.lookup f1 = some ⟨oc1, od1, .func (PySem.W.fnOf "is_small" "is_small" (defArgs sSmall) (defBody sSmall) (defScope sSmall) .none kV1 dc1 pm1 an1 cd1 ct1), sl1⟩)
    (c1 : PySem.W.codeIn K cd1 "is_small" = true)
    (k1 : PySem.W.keepIn K (.ref f1) = true)
    (a2 : PySem.W.nsIn K mainGlobals "is_word" = some (some (.ref f2)))
    (l2 : K.lookup f2 = some ⟨oc2, od2, .func (PySem.W.fnOf "is_word" "is_word" (defArgs sWord) (defBody sWord) (defScope sWord) .none kV2 dc2 pm2 an2 cd2 ct2), sl2⟩)
    (c2 : PySem.W.codeIn K cd2 "is_word" = true)
    (k2 : PySem.W.keepIn K (.ref f2) = true)
    (a3 : PySem.W.nsIn K mainGlobals "is_row" = some (some (.ref f3)))
    (l3 : K.lookup f3 = some ⟨oc3, od3, .func (PySem.W.fnOf "is_row" "is_row" (defArgs sRow) (defBody sRow) (defScope sRow) .none kV3 dc3 pm3 an3 cd3 ct3), sl3⟩)
    (c3 : PySem.W.codeIn K cd3 "is_row" = true)
    (k3 : PySem.W.keepIn K (.ref f3) = true)
    (a4 : PySem.W.nsIn K mainGlobals "is_nested_type" = some (some (.ref f4)))
    (l4 : K.lookup f4 = some ⟨oc4, od4, .func (PySem.W.fnOf "is_nested_type" "is_nested_type" (defArgs sNest) (defBody sNest) (defScope sNest) .none kV4 dc4 pm4 an4 cd4 ct4), sl4⟩)
    (c4 : PySem.W.codeIn K cd4 "is_nested_type" = true)
    (k4 : PySem.W.keepIn K (.ref f4) = true)
    (a5 : PySem.W.nsIn K mainGlobals "is_type" = some (some (.ref f5)))
    (l5 : K.lookup f5 = some ⟨oc5, od5, .func (PySem.W.fnOf "is_type" "is_type" (defArgs sType) (defBody sType) (defScope sType) .none kV5 dc5 pm5 an5 cd5 ct5), sl5⟩)
    (c5 : PySem.W.codeIn K cd5 "is_type" = true)
    (k5 : PySem.W.keepIn K (.ref f5) = true)
    (a6 : PySem.W.nsIn K mainGlobals "is_need" = some (some (.ref f6)))
    (l6 : K.lookup f6 = some ⟨oc6, od6, .func (PySem.W.fnOf "is_need" "is_need" (defArgs sNeed) (defBody sNeed) (defScope sNeed) .none kV6 dc6 pm6 an6 cd6 ct6), sl6⟩)
    (c6 : PySem.W.codeIn K cd6 "is_need" = true)
    (k6 : PySem.W.keepIn K (.ref f6) = true)
    (a7 : PySem.W.nsIn K mainGlobals "type_text" = some (some (.ref f7)))
    (l7 : K.lookup f7 = some ⟨oc7, od7, .func (PySem.W.fnOf "type_text" "type_text" (defArgs sText) (defBody sText) (defScope sText) .none kV7 dc7 pm7 an7 cd7 ct7), sl7⟩)
    (c7 : PySem.W.codeIn K cd7 "type_text" = true)
    (k7 : PySem.W.keepIn K (.ref f7) = true)
    (a8 : PySem.W.nsIn K mainGlobals "is_under" = some (some (.ref f8)))
    (l8 : K.lookup f8 = some ⟨oc8, od8, .func (PySem.W.fnOf "is_under" "is_under" (defArgs sUnder) (defBody sUnder) (defScope sUnder) .none kV8 dc8 pm8 an8 cd8 ct8), sl8⟩)
    (c8 : PySem.W.codeIn K cd8 "is_under" = true)
    (k8 : PySem.W.keepIn K (.ref f8) = true)
    (a9 : PySem.W.nsIn K mainGlobals "is_list" = some (some (.ref f9)))
    (l9 : K.lookup f9 = some ⟨oc9, od9, .func (PySem.W.fnOf "is_list" "is_list" (defArgs sIsL) (defBody sIsL) (defScope sIsL) .none kV9 dc9 pm9 an9 cd9 ct9), sl9⟩)
    (c9 : PySem.W.codeIn K cd9 "is_list" = true)
    (k9 : PySem.W.keepIn K (.ref f9) = true)
    (a10 : PySem.W.nsIn K mainGlobals "checked_bases" = some (some (.ref f10)))
    (l10 : K.lookup f10 = some ⟨oc10, od10, .func (PySem.W.fnOf "checked_bases" "checked_bases" (defArgs sBas) (defBody sBas) (defScope sBas) .none kV10 dc10 pm10 an10 cd10 ct10), sl10⟩)
    (c10 : PySem.W.codeIn K cd10 "checked_bases" = true)
    (k10 : PySem.W.keepIn K (.ref f10) = true)
    (a11 : PySem.W.nsIn K mainGlobals "is_pair" = some (some (.ref f11)))
    (l11 : K.lookup f11 = some ⟨oc11, od11, .func (PySem.W.fnOf "is_pair" "is_pair" (defArgs sIsP) (defBody sIsP) (defScope sIsP) .none kV11 dc11 pm11 an11 cd11 ct11), sl11⟩)
    (c11 : PySem.W.codeIn K cd11 "is_pair" = true)
    (k11 : PySem.W.keepIn K (.ref f11) = true)
    (a12 : PySem.W.nsIn K mainGlobals "all_above" = some (some (.ref f12)))
    (l12 : K.lookup f12 = some ⟨oc12, od12, .func (PySem.W.fnOf "all_above" "all_above" (defArgs sAllAb) (defBody sAllAb) (defScope sAllAb) .none kV12 dc12 pm12 an12 cd12 ct12), sl12⟩)
    (c12 : PySem.W.codeIn K cd12 "all_above" = true)
    (k12 : PySem.W.keepIn K (.ref f12) = true)
    (a13 : PySem.W.nsIn K mainGlobals "checked_type" = some (some (.ref f13)))
    (l13 : K.lookup f13 = some ⟨oc13, od13, .func (PySem.W.fnOf "checked_type" "checked_type" (defArgs sChT) (defBody sChT) (defScope sChT) .none kV13 dc13 pm13 an13 cd13 ct13), sl13⟩)
    (c13 : PySem.W.codeIn K cd13 "checked_type" = true)
    (k13 : PySem.W.keepIn K (.ref f13) = true)
    (a14 : PySem.W.nsIn K mainGlobals "has_bases" = some (some (.ref f14)))
    (l14 : K.lookup f14 = some ⟨oc14, od14, .func (PySem.W.fnOf "has_bases" "has_bases" (defArgs sHas) (defBody sHas) (defScope sHas) .none kV14 dc14 pm14 an14 cd14 ct14), sl14⟩)
    (c14 : PySem.W.codeIn K cd14 "has_bases" = true)
    (k14 : PySem.W.keepIn K (.ref f14) = true)
    (a15 : PySem.W.nsIn K mainGlobals "checked_names" = some (some (.ref f15)))
    (l15 : K.lookup f15 = some ⟨oc15, od15, .func (PySem.W.fnOf "checked_names" "checked_names" (defArgs sNam) (defBody sNam) (defScope sNam) .none kV15 dc15 pm15 an15 cd15 ct15), sl15⟩)
    (c15 : PySem.W.codeIn K cd15 "checked_names" = true)
    (k15 : PySem.W.keepIn K (.ref f15) = true)
    (a16 : PySem.W.nsIn K mainGlobals "checked_functions" = some (some (.ref f16)))
    (l16 : K.lookup f16 = some ⟨oc16, od16, .func (PySem.W.fnOf "checked_functions" "checked_functions" (defArgs sFus) (defBody sFus) (defScope sFus) .none kV16 dc16 pm16 an16 cd16 ct16), sl16⟩)
    (c16 : PySem.W.codeIn K cd16 "checked_functions" = true)
    (k16 : PySem.W.keepIn K (.ref f16) = true)
    (a17 : PySem.W.nsIn K mainGlobals "_law_cell_at" = some (some (.ref f17)))
    (l17 : K.lookup f17 = some ⟨oc17, od17, .func (PySem.W.fnOf "_law_cell_at" "_law_cell_at" (defArgs sCell) (defBody sCell) (defScope sCell) .none kV17 dc17 pm17 an17 cd17 ct17), sl17⟩)
    (c17 : PySem.W.codeIn K cd17 "_law_cell_at" = true)
    (k17 : PySem.W.keepIn K (.ref f17) = true)
    (a18 : PySem.W.nsIn K mainGlobals "_law_draw" = some (some (.ref f18)))
    (l18 : K.lookup f18 = some ⟨oc18, od18, .func (PySem.W.fnOf "_law_draw" "_law_draw" (defArgs sDraw) (defBody sDraw) (defScope sDraw) .none kV18 dc18 pm18 an18 cd18 ct18), sl18⟩)
    (c18 : PySem.W.codeIn K cd18 "_law_draw" = true)
    (k18 : PySem.W.keepIn K (.ref f18) = true)
    (a19 : PySem.W.nsIn K mainGlobals "_law_number" = some (some (.ref f19)))
    (l19 : K.lookup f19 = some ⟨oc19, od19, .func (PySem.W.fnOf "_law_number" "_law_number" (defArgs sNum) (defBody sNum) (defScope sNum) .none kV19 dc19 pm19 an19 cd19 ct19), sl19⟩)
    (c19 : PySem.W.codeIn K cd19 "_law_number" = true)
    (k19 : PySem.W.keepIn K (.ref f19) = true)
    (a20 : PySem.W.nsIn K mainGlobals "_law_next" = some (some (.ref f20)))
    (l20 : K.lookup f20 = some ⟨oc20, od20, .func (PySem.W.fnOf "_law_next" "_law_next" (defArgs sNext) (defBody sNext) (defScope sNext) .none kV20 dc20 pm20 an20 cd20 ct20), sl20⟩)
    (c20 : PySem.W.codeIn K cd20 "_law_next" = true)
    (k20 : PySem.W.keepIn K (.ref f20) = true)
    (a21 : PySem.W.nsIn K mainGlobals "_law_pick" = some (some (.ref f21)))
    (l21 : K.lookup f21 = some ⟨oc21, od21, .func (PySem.W.fnOf "_law_pick" "_law_pick" (defArgs sPick) (defBody sPick) (defScope sPick) .none kV21 dc21 pm21 an21 cd21 ct21), sl21⟩)
    (c21 : PySem.W.codeIn K cd21 "_law_pick" = true)
    (k21 : PySem.W.keepIn K (.ref f21) = true)
    (a22 : PySem.W.nsIn K mainGlobals "_law_below" = some (some (.ref f22)))
    (l22 : K.lookup f22 = some ⟨oc22, od22, .func (PySem.W.fnOf "_law_below" "_law_below" (defArgs sBelow) (defBody sBelow) (defScope sBelow) .none kV22 dc22 pm22 an22 cd22 ct22), sl22⟩)
    (c22 : PySem.W.codeIn K cd22 "_law_below" = true)
    (k22 : PySem.W.keepIn K (.ref f22) = true)
    (a23 : PySem.W.nsIn K mainGlobals "_law_kind" = some (some (.ref f23)))
    (l23 : K.lookup f23 = some ⟨oc23, od23, .func (PySem.W.fnOf "_law_kind" "_law_kind" (defArgs sKind) (defBody sKind) (defScope sKind) .none kV23 dc23 pm23 an23 cd23 ct23), sl23⟩)
    (c23 : PySem.W.codeIn K cd23 "_law_kind" = true)
    (k23 : PySem.W.keepIn K (.ref f23) = true)
    (a24 : PySem.W.nsIn K mainGlobals "_law_text_of" = some (some (.ref f24)))
    (l24 : K.lookup f24 = some ⟨oc24, od24, .func (PySem.W.fnOf "_law_text_of" "_law_text_of" (defArgs sLText) (defBody sLText) (defScope sLText) .none kV24 dc24 pm24 an24 cd24 ct24), sl24⟩)
    (c24 : PySem.W.codeIn K cd24 "_law_text_of" = true)
    (k24 : PySem.W.keepIn K (.ref f24) = true)
    (a25 : PySem.W.nsIn K mainGlobals "_law_above" = some (some (.ref f25)))
    (l25 : K.lookup f25 = some ⟨oc25, od25, .func (PySem.W.fnOf "_law_above" "_law_above" (defArgs sAbv) (defBody sAbv) (defScope sAbv) .none kV25 dc25 pm25 an25 cd25 ct25), sl25⟩)
    (c25 : PySem.W.codeIn K cd25 "_law_above" = true)
    (k25 : PySem.W.keepIn K (.ref f25) = true)
    (a26 : PySem.W.nsIn K mainGlobals "_law_error" = some (some (.ref f26)))
    (l26 : K.lookup f26 = some ⟨oc26, od26, .func (PySem.W.fnOf "_law_error" "_law_error" (defArgs sErr) (defBody sErr) (defScope sErr) .none kV26 dc26 pm26 an26 cd26 ct26), sl26⟩)
    (c26 : PySem.W.codeIn K cd26 "_law_error" = true)
    (k26 : PySem.W.keepIn K (.ref f26) = true)
    (a27 : PySem.W.nsIn K mainGlobals "law" = some (some (.ref f27)))
    (l27 : K.lookup f27 = some ⟨oc27, od27, .func (PySem.W.fnOf "law" "law" (defArgs sLaw) (defBody sLaw) (defScope sLaw) .none kV27 dc27 pm27 an27 (.ref cL) ct27), sl27⟩)
    (c27 : PySem.W.codeIn K (.ref cL) "law" = true)
    (k27 : PySem.W.keepIn K (.ref f27) = true)
    (a28 : PySem.W.findIn K (.ref CR) "__init__" = some (some (.ref f28)))
    (i28 : PySem.W.isFn K (.ref f28) = true)
    (l28 : K.lookup f28 = some ⟨oc28, od28, .func (PySem.W.fnOf "__init__" "Room.__init__" (defArgs sInit) (defBody sInit) (defScope sInit) .none kV28 dc28 pm28 an28 cd28 ct28), sl28⟩)
    (c28 : PySem.W.codeIn K cd28 "Room.__init__" = true)
    (k28 : PySem.W.keepIn K (.ref f28) = true)
    (a29 : PySem.W.findIn K (.ref CR) "__eq__" = some (some (.ref f29)))
    (i29 : PySem.W.isFn K (.ref f29) = true)
    (l29 : K.lookup f29 = some ⟨oc29, od29, .func (PySem.W.fnOf "__eq__" "Room.__eq__" (defArgs sEqM) (defBody sEqM) (defScope sEqM) .none kV29 dc29 pm29 an29 cd29 ct29), sl29⟩)
    (c29 : PySem.W.codeIn K cd29 "Room.__eq__" = true)
    (k29 : PySem.W.keepIn K (.ref f29) = true)
    (a30 : PySem.W.findIn K (.ref CR) "is_below" = some (some (.ref f30)))
    (i30 : PySem.W.isFn K (.ref f30) = true)
    (l30 : K.lookup f30 = some ⟨oc30, od30, .func (PySem.W.fnOf "is_below" "Room.is_below" (defArgs sIsb) (defBody sIsb) (defScope sIsb) .none kV30 dc30 pm30 an30 cd30 ct30), sl30⟩)
    (c30 : PySem.W.codeIn K cd30 "Room.is_below" = true)
    (k30 : PySem.W.keepIn K (.ref f30) = true)
    (aC : PySem.W.nsIn K mainGlobals "Room" = some (some (.ref CR)))
    (pg : PySem.W.plainGet K CR Str.empty = true)
    (hd : PySem.W.hasDictIn K CR = true)
    (po : PySem.W.plainOver K CR = true)
    (sa : PySem.W.findIn K (.ref CR) "__setattr__" = some (some (.builtin "object.__setattr__")))
    (mk : PySem.W.makesIn K CR = true)
    (kc : PySem.W.keepIn K (.ref CR) = true)
    (nA : PySem.W.findIn K (.ref CR) "above" = some none)
    (nN : PySem.W.findIn K (.ref CR) "names" = some none)
    (nF : PySem.W.findIn K (.ref CR) "functions" = some none)
    (nG : PySem.W.findIn K (.ref CR) "goal" = some none)
    (rha : PySem.W.findIn K (.ref CR) "__class__" = some (some (.builtin "object.__class__")))
    (rhn : PySem.W.specialIn K (.builtin "object.__class__") "__get__" = some (some (.builtin "getset_descriptor.__get__")))
    (rht : PySem.W.takesIn K (.builtin "object.__class__") = some true)
    (rhm : PySem.W.mroIn K CR (.type "object") = some true)
    (rkit : PySem.W.kitOne K (.ref CR) (.ref CR) = some true)
    (qhk : PySem.W.kitOne K (.type "tuple") (.ref CR) = some false)
    (qh1 : PySem.W.subIn K (.type "tuple") (.ref CR) = some false)
    (qh2 : PySem.W.subIn K (.ref CR) (.type "tuple") = some false)
    (qhn : PySem.W.findIn K (.ref CR) "__ne__" = some (some (.builtin "object.__ne__")))
    (qhob : PySem.W.subIn K (.ref CR) (.type "object") = some true)
    (gCB : PySem.W.nsIn K mainGlobals "BadRoom" = some (some (.ref CB)))
    (xCB : PySem.W.excIn K CB [.type "ValueError", .type "Exception", .type "BaseException", .type "object"] "ValueError.__new__" = true)
    (kCB : PySem.W.keepIn K (.ref CB) = true)
    (bCB : PySem.W.subIn K (.ref CB) (.type "BaseException") = some true)
    (tCB : PySem.W.typeIn K (.ref CB) = some (.type "type"))
    (gCT : PySem.W.nsIn K mainGlobals "BadType" = some (some (.ref CT)))
    (xCT : PySem.W.excIn K CT [.type "ValueError", .type "Exception", .type "BaseException", .type "object"] "ValueError.__new__" = true)
    (kCT : PySem.W.keepIn K (.ref CT) = true)
    (bCT : PySem.W.subIn K (.ref CT) (.type "BaseException") = some true)
    (tCT : PySem.W.typeIn K (.ref CT) = some (.type "type"))
    (mbb : PySem.W.exmOne K (.ref CB) (.ref CB) = some true)
    (mtb : PySem.W.exmOne K (.ref CT) (.ref CB) = some false)
    (mtt : PySem.W.exmOne K (.ref CT) (.ref CT) = some true)
    (gA : PySem.W.nsIn K mainGlobals "ANY" = some (some (.ref aA)))
    (oA : K.lookup aA = some ⟨.type "tuple", dA1, .seq #[.str "any" tA1] nA1, sA1⟩)
    (gN : PySem.W.nsIn K mainGlobals "NO_WORDS" = some (some (.ref aN)))
    (oN : K.lookup aN = some ⟨.type "tuple", dA2, .seq #[.str "any" tA2, .str "give" tA3, .str "let" tA4] nA2, sA2⟩)
    (gL : PySem.W.nsIn K mainGlobals "LONGEST" = some (some (.int 10 tgL)))
    (gD : PySem.W.nsIn K mainGlobals "DEEPEST" = some (some (.int 8 tgD)))
    (gM : PySem.W.nsIn K mainGlobals "MOST_BASES" = some (some (.int 12 tgM)))
    (gMn : PySem.W.nsIn K mainGlobals "MOST_NAMES" = some (some (.int 20 tgMn)))
    (gMf : PySem.W.nsIn K mainGlobals "MOST_FUNCTIONS" = some (some (.int 20 tgMf)))
    (z_len : PySem.W.nsIn K mainGlobals "len" = some none)
    (z_all : PySem.W.nsIn K mainGlobals "all" = some none)
    (z_zip : PySem.W.nsIn K mainGlobals "zip" = some none)
    (z_isinstance : PySem.W.nsIn K mainGlobals "isinstance" = some none)
    (z_str : PySem.W.nsIn K mainGlobals "str" = some none)
    (z_tuple : PySem.W.nsIn K mainGlobals "tuple" = some none)
    (z_set : PySem.W.nsIn K mainGlobals "set" = some none)
    (z_sorted : PySem.W.nsIn K mainGlobals "sorted" = some none)
    (z_any : PySem.W.nsIn K mainGlobals "any" = some none)
    (z_dict : PySem.W.nsIn K mainGlobals "dict" = some none)
    (z_list : PySem.W.nsIn K mainGlobals "list" = some none)
    (z_int : PySem.W.nsIn K mainGlobals "int" = some none)
    (z_range : PySem.W.nsIn K mainGlobals "range" = some none)
    (z_enumerate : PySem.W.nsIn K mainGlobals "enumerate" = some none)
    (z_NotImplemented : PySem.W.nsIn K mainGlobals "NotImplemented" = some none)
    (hcd : PySem.W.codeHdIn K cL PL = true)
    (hPL : K.lookup PL = none)
    : LawAtS l w K CX0 34 63 "script" mg fa h := by
  have e := hfa.symm.trans (PySem.W.mg_of X G a27)
  cases e
  have F1 := fun_mk (st := sSmall) l1 c1 k1
  have F2 := fun_mk (st := sWord) l2 c2 k2
  have F3 := fun_mk (st := sRow) l3 c3 k3
  have F4 := fun_mk (st := sNest) l4 c4 k4
  have F5 := fun_mk (st := sType) l5 c5 k5
  have F6 := fun_mk (st := sNeed) l6 c6 k6
  have F7 := fun_mk (st := sText) l7 c7 k7
  have F8 := fun_mk (st := sUnder) l8 c8 k8
  have F9 := fun_mk (st := sIsL) l9 c9 k9
  have F10 := fun_mk (st := sBas) l10 c10 k10
  have F11 := fun_mk (st := sIsP) l11 c11 k11
  have F12 := fun_mk (st := sAllAb) l12 c12 k12
  have F13 := fun_mk (st := sChT) l13 c13 k13
  have F14 := fun_mk (st := sHas) l14 c14 k14
  have F15 := fun_mk (st := sNam) l15 c15 k15
  have F16 := fun_mk (st := sFus) l16 c16 k16
  have F17 := fun_mk (st := sCell) l17 c17 k17
  have F18 := fun_mk (st := sDraw) l18 c18 k18
  have F19 := fun_mk (st := sNum) l19 c19 k19
  have F20 := fun_mk (st := sNext) l20 c20 k20
  have F21 := fun_mk (st := sPick) l21 c21 k21
  have F22 := fun_mk (st := sBelow) l22 c22 k22
  have F23 := fun_mk (st := sKind) l23 c23 k23
  have F24 := fun_mk (st := sLText) l24 c24 k24
  have F25 := fun_mk (st := sAbv) l25 c25 k25
  have F26 := fun_mk (st := sErr) l26 c26 k26
  have F28 := fun_mk (st := sInit) l28 c28 k28
  have F29 := fun_mk (st := sEqM) l29 c29 k29
  have F30 := fun_mk (st := sIsb) l30 c30 k30
  have b1 := F1.binds (ps := ["letter"]) fun _ _ _ _ _ _ us hl => match us, hl with | [_], _ => rfl
  have b2 := F2.binds (ps := ["thing"]) fun _ _ _ _ _ _ us hl => match us, hl with | [_], _ => rfl
  have b3 := F3.binds (ps := ["thing", "deepest"]) fun _ _ _ _ _ _ us hl => match us, hl with | [_, _], _ => rfl
  have b4 := F4.binds (ps := ["thing", "deepest"]) fun _ _ _ _ _ _ us hl => match us, hl with | [_, _], _ => rfl
  have b5 := F5.binds (ps := ["thing"]) fun _ _ _ _ _ _ us hl => match us, hl with | [_], _ => rfl
  have b6 := F6.binds (ps := ["thing"]) fun _ _ _ _ _ _ us hl => match us, hl with | [_], _ => rfl
  have b7 := F7.binds (ps := ["told"]) fun _ _ _ _ _ _ us hl => match us, hl with | [_], _ => rfl
  have b8 := F8.binds (ps := ["above", "one", "other"]) fun _ _ _ _ _ _ us hl => match us, hl with | [_, _, _], _ => rfl
  have b9 := F9.binds (ps := ["thing"]) fun _ _ _ _ _ _ us hl => match us, hl with | [_], _ => rfl
  have b10 := F10.binds (ps := ["bases", "order"]) fun _ _ _ _ _ _ us hl => match us, hl with | [_, _], _ => rfl
  have b11 := F11.binds (ps := ["thing", "bases"]) fun _ _ _ _ _ _ us hl => match us, hl with | [_, _], _ => rfl
  have b12 := F12.binds (ps := ["base", "order"]) fun _ _ _ _ _ _ us hl => match us, hl with | [_, _], _ => rfl
  have b13 := F13.binds (ps := ["kind", "above"]) fun _ _ _ _ _ _ us hl => match us, hl with | [_, _], _ => rfl
  have b14 := F14.binds (ps := ["kind", "above"]) fun _ _ _ _ _ _ us hl => match us, hl with | [_, _], _ => rfl
  have b15 := F15.binds (ps := ["names", "above"]) fun _ _ _ _ _ _ us hl => match us, hl with | [_, _], _ => rfl
  have b16 := F16.binds (ps := ["functions", "names", "above"]) fun _ _ _ _ _ _ us hl => match us, hl with | [_, _, _], _ => rfl
  have b17 := F17.binds (ps := ["script", "k"]) fun _ _ _ _ _ _ us hl => match us, hl with | [_, _], _ => rfl
  have b18 := F18.binds (ps := ["cell", "k", "bound"]) fun _ _ _ _ _ _ us hl => match us, hl with | [_, _, _], _ => rfl
  have b19 := F19.binds (ps := ["cell", "k", "bound"]) fun _ _ _ _ _ _ us hl => match us, hl with | [_, _, _], _ => rfl
  have b20 := F20.binds (ps := ["draw", "bound"]) fun _ _ _ _ _ _ us hl => match us, hl with | [_, _], _ => rfl
  have b21 := F21.binds (ps := ["draw", "things"]) fun _ _ _ _ _ _ us hl => match us, hl with | [_, _], _ => rfl
  have b22 := F22.binds (ps := ["room", "one", "other"]) fun _ _ _ _ _ _ us hl => match us, hl with | [_, _, _], _ => rfl
  have b23 := F23.binds (ps := ["draw", "bases", "deep"]) fun _ _ _ _ _ _ us hl => match us, hl with | [_, _, _], _ => rfl
  have b24 := F24.binds (ps := ["kind"]) fun _ _ _ _ _ _ us hl => match us, hl with | [_], _ => rfl
  have b25 := F25.binds (ps := ["pairs", "base"]) fun _ _ _ _ _ _ us hl => match us, hl with | [_, _], _ => rfl
  have b26 := F26.binds (ps := ["work"]) fun _ _ _ _ _ _ us hl => match us, hl with | [_], _ => rfl
  have b28 := F28.binds (ps := ["self", "bases", "order", "names", "functions", "goal"]) fun _ _ _ _ _ _ us hl => match us, hl with | [_, _, _, _, _, _], _ => rfl
  have b29 := F29.binds (ps := ["self", "other"]) fun _ _ _ _ _ _ us hl => match us, hl with | [_, _], _ => rfl
  have b30 := F30.binds (ps := ["self", "one", "other"]) fun _ _ _ _ _ _ us hl => match us, hl with | [_, _, _], _ => rfl
  have m1 := PySem.W.mg_of X G a1
  have m2 := PySem.W.mg_of X G a2
  have m3 := PySem.W.mg_of X G a3
  have m4 := PySem.W.mg_of X G a4
  have m5 := PySem.W.mg_of X G a5
  have m6 := PySem.W.mg_of X G a6
  have m7 := PySem.W.mg_of X G a7
  have m8 := PySem.W.mg_of X G a8
  have m9 := PySem.W.mg_of X G a9
  have m10 := PySem.W.mg_of X G a10
  have m11 := PySem.W.mg_of X G a11
  have m12 := PySem.W.mg_of X G a12
  have m13 := PySem.W.mg_of X G a13
  have m14 := PySem.W.mg_of X G a14
  have m15 := PySem.W.mg_of X G a15
  have m16 := PySem.W.mg_of X G a16
  have m17 := PySem.W.mg_of X G a17
  have m18 := PySem.W.mg_of X G a18
  have m19 := PySem.W.mg_of X G a19
  have m20 := PySem.W.mg_of X G a20
  have m21 := PySem.W.mg_of X G a21
  have m22 := PySem.W.mg_of X G a22
  have m23 := PySem.W.mg_of X G a23
  have m24 := PySem.W.mg_of X G a24
  have m25 := PySem.W.mg_of X G a25
  have m26 := PySem.W.mg_of X G a26
  have m27 := PySem.W.mg_of X G a27
  have y_len := PySem.W.mg_none_of X G z_len
  have y_all := PySem.W.mg_none_of X G z_all
  have y_zip := PySem.W.mg_none_of X G z_zip
  have y_isinstance := PySem.W.mg_none_of X G z_isinstance
  have y_str := PySem.W.mg_none_of X G z_str
  have y_tuple := PySem.W.mg_none_of X G z_tuple
  have y_set := PySem.W.mg_none_of X G z_set
  have y_sorted := PySem.W.mg_none_of X G z_sorted
  have y_any := PySem.W.mg_none_of X G z_any
  have y_dict := PySem.W.mg_none_of X G z_dict
  have y_list := PySem.W.mg_none_of X G z_list
  have y_int := PySem.W.mg_none_of X G z_int
  have y_range := PySem.W.mg_none_of X G z_range
  have y_enumerate := PySem.W.mg_none_of X G z_enumerate
  have y_NotImplemented := PySem.W.mg_none_of X G z_NotImplemented
  have mCR := PySem.W.mg_of X G aC
  have mCB := PySem.W.mg_of X G gCB
  have mCT := PySem.W.mg_of X G gCT
  have C : Cls K CR := ⟨pg, hd, po, sa⟩
  have RTT : RT K CR := ⟨C, nA, nN, nF, nG⟩
  have KCC : KC K mg aA aN := ⟨PySem.W.mg_of X G gA, fun H => .inr ⟨_, _, _, oA, rfl, rfl, (by show 1 ≤ sizeLine; decide), .cons ⟨_, rfl⟩ .nil⟩, PySem.W.mg_of X G gN, fun H => .inr ⟨_, _, _, oN, rfl, rfl, (by show 3 ≤ sizeLine; decide), .cons ⟨_, rfl⟩ (.cons ⟨_, rfl⟩ (.cons ⟨_, rfl⟩ .nil))⟩, y_len, y_all, y_zip, y_isinstance⟩
  have KNN : KN mg := ⟨⟨_, PySem.W.mg_of X G gL⟩, ⟨_, PySem.W.mg_of X G gD⟩, y_str, y_tuple⟩
  have KBB : KB mg := ⟨⟨_, PySem.W.mg_of X G gM⟩, y_set, y_sorted, y_any⟩
  have KRR : KR mg := ⟨⟨_, PySem.W.mg_of X G gMn⟩, ⟨_, PySem.W.mg_of X G gMf⟩, y_dict⟩
  have XB : XF K mg "BadRoom" CB := ⟨mCB, xCB, kCB, bCB, tCB⟩
  have XT : XF K mg "BadType" CT := ⟨mCT, xCT, kCT, bCT, tCT⟩
  have RII : RI K mg CR := ⟨mCR, rha, rhn, rht, rhm, rkit⟩
  refine ⟨PySem.W.fnOf "law" "law" (defArgs sLaw) (defBody sLaw) (defScope sLaw) .none kV27 dc27 pm27 an27 (.ref cL) ct27, [(cL, PL)], spLaw K fa cL PL, fun p hp => by rw [List.mem_singleton.mp hp]; exact hPT, fun p hp => by rw [List.mem_singleton.mp hp]; exact hPL, fun p hp => by rw [List.mem_singleton.mp hp]; exact PySem.W.codeHd_of_K X hcd, fun s u => .of_eq rfl, fun H a ns hl _ hT hS => ⟨a, ns, rfl, hS, hl, fun p hp => by rw [List.mem_singleton.mp hp]; exact .nil (hT (cL, PL) (List.mem_singleton.mpr rfl)), fun _ => rfl⟩, fun base hK hN hTB => ?_⟩
  have o1 := ok_small (P := l.prog) (w := w) (mg := mg) (base := base) F1
  have o2 := ok_word (P := l.prog) (w := w) (mg := mg) (base := base) F2 KCC KNN o1 b1 k1 m1
  have nest : ∀ N : Nat, FnOk l.prog w K mg base CX0 (2 + 2 * N) f4 (PySem.W.fnOf "is_nested_type" "is_nested_type" (defArgs sNest) (defBody sNest) (defScope sNest) .none kV4 dc4 pm4 an4 cd4 ct4) ["thing", "deepest"] (spNest K N) ∧ FnOk l.prog w K mg base CX0 (2 + 2 * N + 1) f3 (PySem.W.fnOf "is_row" "is_row" (defArgs sRow) (defBody sRow) (defScope sRow) .none kV3 dc3 pm3 an3 cd3 ct3) ["thing", "deepest"] (spRow K N) := fun N => by
    induction N with
    | zero =>
      have z : FnOk l.prog w K mg base CX0 2 f4 (PySem.W.fnOf "is_nested_type" "is_nested_type" (defArgs sNest) (defBody sNest) (defScope sNest) .none kV4 dc4 pm4 an4 cd4 ct4) ["thing", "deepest"] (spNest K 0) := none_leftk fun vs H Q E h => by
        obtain ⟨_, _, _, h, _⟩ := h
        exact Nat.not_lt_zero _ h
      exact ⟨z, ok_row F3 KCC KNN (by omega) o2 b2 k2 m2 z b4 k4 m4⟩
    | succ N ih =>
      have z := ok_nest F4 KCC KNN (by omega) o2 b2 k2 m2 ih.2 b3 k3 m3
      exact ⟨z, ok_row F3 KCC KNN (by omega) o2 b2 k2 m2 z b4 k4 m4⟩
  have oty := ok_type (P := l.prog) (w := w) (mg := mg) (base := base) F5 KNN (nest 9).1 b4 k4 m4
  have ond := ok_need (P := l.prog) (w := w) (mg := mg) (base := base) F6 KCC oty b5 k5 m5
  have text : ∀ N : Nat, FnOk l.prog w K mg base CX0 N f7 (PySem.W.fnOf "type_text" "type_text" (defArgs sText) (defBody sText) (defScope sText) .none kV7 dc7 pm7 an7 cd7 ct7) ["told"] (spText K N) := fun N => by
    induction N with
    | zero =>
      refine none_left fun vs H Q E h => ?_
      obtain ⟨_, _, _, _, h⟩ := h
      rcases h with ⟨h, _⟩ | ⟨_, h, _⟩
      · omega
      · exact h
    | succ N ih => exact ok_text F7 KCC ih b7 m7
  have ltext : ∀ N : Nat, FnOk l.prog w K mg base CX0 N f24 (PySem.W.fnOf "_law_text_of" "_law_text_of" (defArgs sLText) (defBody sLText) (defScope sLText) .none kV24 dc24 pm24 an24 cd24 ct24) ["kind"] (spLText K N) := fun N => by
    induction N with
    | zero =>
      refine none_left fun vs H Q E h => ?_
      obtain ⟨_, _, _, _, _, h, _⟩ := h
      exact h
    | succ N ih => exact ok_ltext F24 ih b24 m24
  have under : ∀ (B : List Str) (ab : Str → Str → Bool), (∀ w ∈ B, w ∈ BAS) → ∀ N : Nat, FnOk l.prog w K mg base CX0 N f8 (PySem.W.fnOf "is_under" "is_under" (defArgs sUnder) (defBody sUnder) (defScope sUnder) .none kV8 dc8 pm8 an8 cd8 ct8) ["above", "one", "other"] (spUnder K B ab N) := fun B ab hB N => by
    induction N with
    | zero =>
      refine none_left fun vs H Q E h => ?_
      obtain ⟨_, _, _, _, h⟩ := h
      rcases h with ⟨_, _, h, _⟩ | ⟨_, _, _, _, h, _⟩
      · exact h
      · exact h
    | succ N ih => exact ok_under hB F8 KCC y_dict ih b8 m8
  have below : ∀ (B : List Str) (ps : PSt), (∀ w ∈ B, w ∈ BAS) → ∀ N : Nat, FnOk l.prog w K mg base CX0 N f22 (PySem.W.fnOf "_law_below" "_law_below" (defArgs sBelow) (defBody sBelow) (defScope sBelow) .none kV22 dc22 pm22 an22 cd22 ct22) ["room", "one", "other"] (spBelow K B ps N) := fun B ps hB N => by
    induction N with
    | zero =>
      refine none_left fun vs H Q E h => ?_
      obtain ⟨_, _, _, _, _, _, _, _, h, _⟩ := h
      exact h
    | succ N ih => exact ok_below hB F22 y_all y_dict ih b22 m22
  have ocell := ok_cell (P := l.prog) (w := w) (mg := mg) (base := base) F17 y_len
  have odraw := ok_draw (P := l.prog) (w := w) (mg := mg) (base := base) F18 y_int
  have onum := ok_num (P := l.prog) (w := w) (mg := mg) (base := base) F19 y_int y_range odraw b18 k18 m18
  have onext := ok_next (P := l.prog) (w := w) (mg := mg) (base := base) F20 y_int ocell b17 k17 m17 onum b19 k19 m19
  have opick := ok_pick (P := l.prog) (w := w) (mg := mg) (base := base) F21 y_len onext b20 k20 m20
  have ok0 := ok_kind0 (P := l.prog) (w := w) (mg := mg) (base := base) (k := 4) F23 (by omega) opick b21 k21 m21
  have ok1 := ok_kind (P := l.prog) (w := w) (mg := mg) (base := base) F23 (by omega) (by omega) y_tuple onext b20 k20 m20 opick b21 k21 m21 ok0 b23 m23
  have ok2 := ok_kind (P := l.prog) (w := w) (mg := mg) (base := base) F23 (by omega) (by omega) y_tuple onext b20 k20 m20 opick b21 k21 m21 ok1 b23 m23
  have ok3 := ok_kind (P := l.prog) (w := w) (mg := mg) (base := base) F23 (by omega) (by omega) y_tuple onext b20 k20 m20 opick b21 k21 m21 ok2 b23 m23
  have oabv := ok_abv (P := l.prog) (w := w) (mg := mg) (base := base) F25 y_enumerate
  have oisl := ok_isl (P := l.prog) (w := w) (mg := mg) (base := base) F9 y_isinstance y_list y_tuple
  have oisp := ok_isp (P := l.prog) (w := w) (mg := mg) (base := base) F11 KCC y_tuple
  have oaa := ok_allab (P := l.prog) (w := w) (mg := mg) (base := base) F12 y_sorted
  have obas := ok_bases (P := l.prog) (w := w) (mg := mg) (base := base) (k := 2) F10 KCC KBB XB (by omega) oisl b9 k9 m9 o2 b2 k2 m2 oisp b11 k11 m11 oaa b12 k12 m12
  have ohas := ok_has (P := l.prog) (w := w) (mg := mg) (base := base) F14 y_all
  have ocht := ok_cht (P := l.prog) (w := w) (mg := mg) (base := base) F13 (by omega) oty b5 k5 m5 ohas b14 k14 m14
  have onam := ok_nam (P := l.prog) (w := w) (mg := mg) (base := base) F15 KCC KBB KRR
  have ofus := ok_fus (P := l.prog) (w := w) (mg := mg) (base := base) F16 KCC KBB KRR
  have oinit := ok_init (P := l.prog) (w := w) (mg := mg) (base := base) F28 RTT (by omega) (by omega) obas b10 k10 m10 onam b15 k15 m15 ofus b16 k16 m16 ocht b13 k13 m13
  have oisb := ok_isb (P := l.prog) (w := w) (mg := mg) (base := base) (CR := CR) (k := 22) F30 RTT XT (by omega) (oty.mono (by omega)) b5 k5 m5 (ond.mono (by omega)) b6 k6 m6 (fun B ab hB => under B ab hB 4) b8 k8 m8
  have CK : CalK l.prog w K mg base := ⟨⟨⟨_, _, (onext).mono (by omega), b20, k20, m20⟩⟩, ⟨⟨_, _, (opick).mono (by omega), b21, k21, m21⟩⟩, ⟨⟨_, _, (oabv).mono (by omega), b25, k25, m25⟩⟩, ⟨⟨_, _, (ok3).mono (by omega), b23, k23, m23⟩⟩, ⟨⟨_, _, (fnok_ex (c := fun x : List Str × PSt => ∀ w ∈ x.1, w ∈ BAS) (sp := fun x : List Str × PSt => spBelow K x.1 x.2 4) fun x hx => below x.1 x.2 hx 4).mono (by omega), b22, k22, m22⟩⟩, ⟨⟨_, _, (text 4).mono (by omega), b7, k7, m7⟩⟩, ⟨⟨_, _, (ltext 4).mono (by omega), b24, k24, m24⟩⟩, ⟨⟨_, _, (oty).mono (by omega), b5, k5, m5⟩⟩, y_range, y_any, y_tuple⟩
  have LH : LamH K mg base cL PL CB CT := ⟨⟨_, _, F26, b26, m26⟩, hTB (cL, PL) (List.mem_singleton.mpr rfl), mCB, mCT⟩
  exact ok_law l27 c27 CK LH ⟨mbb, mtb, mtt⟩ ⟨mk, a28, i28, kc⟩ (oinit.mono (by omega)) b28 mCR ⟨C, ⟨a30, i30, k30⟩, oisb.mono (by omega), b30⟩ ⟨F29, b29, y_isinstance, y_NotImplemented, RII, RTT, qhk, a29, i29, qh1, qh2, qhn, qhob⟩
end K1

end
section
set_option Elab.async false
open PySem PySem.W PyProof.Rows
set_option maxRecDepth 100000 in
set_option maxHeartbeats 0 in
theorem PySem.Challenge.cw_typingroom_k01_whole_kinds_holds : PySem.Challenge.rw_typingroom_k01_whole_kinds.Holds := by
  w_on; o_law; k_head; (case hw => w_witness2)
  k_fill
  refine LamX.walk_ofTs (l := PySem.Challenge.rw_typingroom_k01_whole_kinds) (n := 63) (k := 34) (CX := fun _ => L2.CX0) (x := "script") rfl (by decide) rfl ⟨rfl, by decide, by decide⟩ (fun w h Y => PySem.W.km_in_of Y) ?F fun _ _ _ _ _ z => z
  case F =>
    intro w mg fa h Y KX G hmg
    have hT := PySem.W.km_tabs_of Y
    refine' K1.all_mk 279 KX G hmg (hT 279 (by decide)) ?a1 ?l1 ?c1 ?k1 ?a2 ?l2 ?c2 ?k2 ?a3 ?l3 ?c3 ?k3 ?a4 ?l4 ?c4 ?k4 ?a5 ?l5 ?c5 ?k5 ?a6 ?l6 ?c6 ?k6 ?a7 ?l7 ?c7 ?k7 ?a8 ?l8 ?c8 ?k8 ?a9 ?l9 ?c9 ?k9 ?a10 ?l10 ?c10 ?k10 ?a11 ?l11 ?c11 ?k11 ?a12 ?l12 ?c12 ?k12 ?a13 ?l13 ?c13 ?k13 ?a14 ?l14 ?c14 ?k14 ?a15 ?l15 ?c15 ?k15 ?a16 ?l16 ?c16 ?k16 ?a17 ?l17 ?c17 ?k17 ?a18 ?l18 ?c18 ?k18 ?a19 ?l19 ?c19 ?k19 ?a20 ?l20 ?c20 ?k20 ?a21 ?l21 ?c21 ?k21 ?a22 ?l22 ?c22 ?k22 ?a23 ?l23 ?c23 ?k23 ?a24 ?l24 ?c24 ?k24 ?a25 ?l25 ?c25 ?k25 ?a26 ?l26 ?c26 ?k26 ?a27 ?l27 ?c27 ?k27 ?a28 ?i28 ?l28 ?c28 ?k28 ?a29 ?i29 ?l29 ?c29 ?k29 ?a30 ?i30 ?l30 ?c30 ?k30 ?aC ?pg ?hd ?po ?sa ?mk ?kc ?nA ?nN ?nF ?nG ?rha ?rhn ?rht ?rhm ?rkit ?qhk ?qh1 ?qh2 ?qhn ?qhob ?gCB ?xCB ?kCB ?bCB ?tCB ?gCT ?xCT ?kCT ?bCT ?tCT ?mbb ?mtb ?mtt ?gA ?oA ?gN ?oN ?gL ?gD ?gM ?gMn ?gMf ?z_len ?z_all ?z_zip ?z_isinstance ?z_str ?z_tuple ?z_set ?z_sorted ?z_any ?z_dict ?z_list ?z_int ?z_range ?z_enumerate ?z_NotImplemented ?hcd ?hPL
    (case aC => k_is)
    (case gCB => k_is)
    (case gCT => k_is)
    (case a1 => k_is)
    (case l1 => k_is)
    (case c1 => k_is)
    (case k1 => k_is)
    (case a2 => k_is)
    (case l2 => k_is)
    (case c2 => k_is)
    (case k2 => k_is)
    (case a3 => k_is)
    (case l3 => k_is)
    (case c3 => k_is)
    (case k3 => k_is)
    (case a4 => k_is)
    (case l4 => k_is)
    (case c4 => k_is)
    (case k4 => k_is)
    (case a5 => k_is)
    (case l5 => k_is)
    (case c5 => k_is)
    (case k5 => k_is)
    (case a6 => k_is)
    (case l6 => k_is)
    (case c6 => k_is)
    (case k6 => k_is)
    (case a7 => k_is)
    (case l7 => k_is)
    (case c7 => k_is)
    (case k7 => k_is)
    (case a8 => k_is)
    (case l8 => k_is)
    (case c8 => k_is)
    (case k8 => k_is)
    (case a9 => k_is)
    (case l9 => k_is)
    (case c9 => k_is)
    (case k9 => k_is)
    (case a10 => k_is)
    (case l10 => k_is)
    (case c10 => k_is)
    (case k10 => k_is)
    (case a11 => k_is)
    (case l11 => k_is)
    (case c11 => k_is)
    (case k11 => k_is)
    (case a12 => k_is)
    (case l12 => k_is)
    (case c12 => k_is)
    (case k12 => k_is)
    (case a13 => k_is)
    (case l13 => k_is)
    (case c13 => k_is)
    (case k13 => k_is)
    (case a14 => k_is)
    (case l14 => k_is)
    (case c14 => k_is)
    (case k14 => k_is)
    (case a15 => k_is)
    (case l15 => k_is)
    (case c15 => k_is)
    (case k15 => k_is)
    (case a16 => k_is)
    (case l16 => k_is)
    (case c16 => k_is)
    (case k16 => k_is)
    (case a17 => k_is)
    (case l17 => k_is)
    (case c17 => k_is)
    (case k17 => k_is)
    (case a18 => k_is)
    (case l18 => k_is)
    (case c18 => k_is)
    (case k18 => k_is)
    (case a19 => k_is)
    (case l19 => k_is)
    (case c19 => k_is)
    (case k19 => k_is)
    (case a20 => k_is)
    (case l20 => k_is)
    (case c20 => k_is)
    (case k20 => k_is)
    (case a21 => k_is)
    (case l21 => k_is)
    (case c21 => k_is)
    (case k21 => k_is)
    (case a22 => k_is)
    (case l22 => k_is)
    (case c22 => k_is)
    (case k22 => k_is)
    (case a23 => k_is)
    (case l23 => k_is)
    (case c23 => k_is)
    (case k23 => k_is)
    (case a24 => k_is)
    (case l24 => k_is)
    (case c24 => k_is)
    (case k24 => k_is)
    (case a25 => k_is)
    (case l25 => k_is)
    (case c25 => k_is)
    (case k25 => k_is)
    (case a26 => k_is)
    (case l26 => k_is)
    (case c26 => k_is)
    (case k26 => k_is)
    (case a27 => k_is)
    (case l27 => k_is)
    (case c27 => k_is)
    (case k27 => k_is)
    (case a28 => k_is)
    (case i28 => k_is)
    (case l28 => k_is)
    (case c28 => k_is)
    (case k28 => k_is)
    (case a29 => k_is)
    (case i29 => k_is)
    (case l29 => k_is)
    (case c29 => k_is)
    (case k29 => k_is)
    (case a30 => k_is)
    (case i30 => k_is)
    (case l30 => k_is)
    (case c30 => k_is)
    (case k30 => k_is)
    (case pg => k_is)
    (case hd => k_is)
    (case po => k_is)
    (case sa => k_is)
    (case mk => k_is)
    (case kc => k_is)
    (case nA => k_is)
    (case nN => k_is)
    (case nF => k_is)
    (case nG => k_is)
    (case rha => k_is)
    (case rhn => k_is)
    (case rht => k_is)
    (case rhm => k_is)
    (case rkit => first | kernel_rfl | rfl | decide +kernel)
    (case qhk => first | kernel_rfl | rfl | decide +kernel)
    (case qh1 => k_is)
    (case qh2 => k_is)
    (case qhn => k_is)
    (case qhob => k_is)
    (case xCB => first | kernel_rfl | rfl | decide +kernel)
    (case kCB => k_is)
    (case bCB => k_is)
    (case tCB => k_is)
    (case xCT => first | kernel_rfl | rfl | decide +kernel)
    (case kCT => k_is)
    (case bCT => k_is)
    (case tCT => k_is)
    (case mbb => first | kernel_rfl | rfl | decide +kernel)
    (case mtb => first | kernel_rfl | rfl | decide +kernel)
    (case mtt => first | kernel_rfl | rfl | decide +kernel)
    (case gA => k_is)
    (case oA => k_is)
    (case gN => k_is)
    (case oN => k_is)
    (case gL => k_is)
    (case gD => k_is)
    (case gM => k_is)
    (case gMn => k_is)
    (case gMf => k_is)
    (case z_len => k_is)
    (case z_all => k_is)
    (case z_zip => k_is)
    (case z_isinstance => k_is)
    (case z_str => k_is)
    (case z_tuple => k_is)
    (case z_set => k_is)
    (case z_sorted => k_is)
    (case z_any => k_is)
    (case z_dict => k_is)
    (case z_list => k_is)
    (case z_int => k_is)
    (case z_range => k_is)
    (case z_enumerate => k_is)
    (case z_NotImplemented => k_is)
    (case hcd => first | kernel_rfl | rfl | decide +kernel)
    (case hPL => first | kernel_rfl | rfl | decide +kernel)

end
