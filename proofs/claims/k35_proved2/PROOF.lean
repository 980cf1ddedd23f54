import PyProof.Rows.All
import Wide.All
import OpenK.AllK
import Wide.FinOn
import HandS.Words
import HandS.List
import HandS.Comp
import HandS.Text
import HandS.Iter
import PySem.Challenge.RW_typingroom_k35_whole_edit_rows
import HandS.Wide
import HandS.IsInst
import HandS.TupAny
import HandS.OwnEq
import HandS.Star
import HandS.Conv
import HandS.MapObj
import KE.KTupTruth
import KE.KOpsOwn
import OpenK.KOps
import HandS.Style
section
set_option Elab.async false
set_option linter.all false
set_option maxRecDepth 100000
set_option maxHeartbeats 4000000
namespace E5
open PySem L2
def tp (i : Nat) : Stmt := PySem.Challenge.pw_typingroom_k35_whole_edit_rows.main.body.getD i (.Pass ⟨0, 0, 0, 0⟩)
theorem Same.tup {K : PySem.W.Frag} {H H' : Hp} {a : Addr} {xs : List V} (e : Same H H') (h : SqT K H a xs) : SqT K H' a xs := by
  rcases h with (h | ⟨o, h⟩) | h
  · exact .inl (.inl (e _ _ h))
  · exact .inl (.inr ⟨o, e _ _ h⟩)
  · exact .inr h
theorem Same.new {H : Hp} {p : Addr} (h : H p = none) (o : HO) : Same H (upd H p o) := fun b u q => by rw [upd_ne (ne_of_none q h)]; exact q
theorem SqT.of {K : PySem.W.Frag} {H : Hp} {a : Addr} {xs : List V} (h : H a = some (.tup xs)) : SqT K H a xs := .inl (.inl h)
theorem pgl {X : Cx} {x : Str} {a : Addr} {pos : Pos} (hm : X.mg x = some (.ref a)) (hg : Gl X x := by rfl) (hd : (x == ("__debug__" : Str)) = false := by decide) : PE X (.Name x pos) (tC (.ref a)) := pe_glob hg hm rfl hd
def smallS (x : Str) : Bool := !decide (x.cps.toList < ("a" : Str).cps.toList) && !decide (("z" : Str).cps.toList < x.cps.toList)
def signs (x : Str) : List Str := x.cps.toList.map fun c => (⟨#[c]⟩ : Str)
def noWord (x : Str) : Bool := [("any" : Str), "give", "let"].any fun y => y == x
def wordB (x : Str) : Bool := decide (1 ≤ x.length) && decide (x.length ≤ 10) && !noWord x && ((signs x).map smallS).all id
section
variable {P : Program} {w : World} {K : PySem.W.Frag} {mg : Str → Option Value} {base : Heap}
abbrev sSmall : Stmt := tp 7
theorem scSmall : FnScope ["letter"] ["letter"] (defScope sSmall) := ⟨rfl, rfl, rfl, by decide +kernel, rfl, by decide +kernel, by decide +kernel⟩
def spSmall : Sp := fun vs H Q _ => ∃ x : Str, vs = [.str x] ∧ Q (.bl (smallS x)) H
theorem ok_small {f : Addr} {fd : FuncData} (F : Fun K "is_small" "is_small" sSmall f fd) : FnOk P w K mg base CX0 1 f fd ["letter"] spSmall := by
  refine F.ok scSmall (fun vs H Q E h => ?_) (fun cdv A outer s H vs Q E hr h => ?_)
  · obtain ⟨x, rfl, _⟩ := h
    rfl
  obtain ⟨x, rfl, q⟩ := h
  refine ⟨_, pss_one (ps_ret (pe_chain op_le_str op_le_str pe_str (pv 0) pe_str)), ?_⟩
  refine ⟨_, rfl, _, _, rfl, rfl, _, rfl, ite2 (fun c => ?_) (fun c => ?_)⟩
  · refine ⟨_, _, rfl, rfl, ?_⟩
    have e : smallS x = !decide (("z" : Str).cps.toList < x.cps.toList) := by
      unfold smallS
      rw [c, Bool.true_and]
    rw [← e]
    exact q
  · have e : smallS x = false := by
      unfold smallS
      rw [Bool.eq_false_iff.mpr c, Bool.false_and]
    rw [← e]
    exact q
end
/-! ### comprehensions whose items are known values: ys, one a turn -/
theorem same_acc {H H4 : Hp} {D : Addr} {o : HO} (hn : H D = none) (s : Same H H4) : Same H (upd H4 D o) := fun b u q => by
  rw [upd_ne (ne_of_none q hn)]
  exact s b u q
theorem take_more {α : Type} : ∀ {l : List α} {i : Nat} {x : α}, l[i]? = some x → l.take (i + 1) = l.take i ++ [x]
  | [], i, x, h => by simp at h
  | a :: l, 0, x, h => by
    have e : a = x := Option.some.inj h
    subst e
    rfl
  | a :: l, i + 1, x, h => by
    have ih := take_more (l := l) (i := i) (x := x) h
    show a :: l.take (i + 1) = a :: l.take i ++ [x]
    rw [ih]
    rfl
theorem small_le {n : Nat} (h : n ≤ 1000) : n ≤ sizeLine := Nat.le_of_lt (small1000 h)
/-- n turns; R tells what a turn is given; what was there at the start stays -/
theorem lc_go {J : It} {g : TG} {te : TE} {vs : List Nat} {σ : St} {H1 : Hp} {D : Addr} {Qd : Hp → Prop} (n : Nat) (R : Nat → V → Hp → Prop) (ys : List V) (hl : ys.length = n) (hz : n ≤ 1000) (hD : H1 D = none)
    (go : ∀ i H', i < n → Same H1 H' → J.go i H') (yld : ∀ i x H' H'', i < n → Same H1 H' → J.yld i H' x H'' → Same H' H'' ∧ R i x H'') (stop : ∀ H', Same H1 H' → J.stop n H')
    (turn : ∀ (i : Nat) (y x : V) (H' : Hp) (Q : VK), ys[i]? = some y → Same H1 H' → R i x H' → (∀ H4, Same H' H4 → Q y H4) → g x (wipe σ vs) H' fun σ2 H2 => wipe σ2 vs = wipe σ vs ∧ te σ2 H2 Q)
    (hd : ∀ H', Same H1 H' → H' D = some (.lst ys) → Qd H') :
    ∃ W : Nat → Nat → Hp → Prop, (∃ m, W 0 m (upd H1 D (.lst []))) ∧ ∀ i m H, W i m H →
      (J.stop i H ∧ Qd H) ∨ (J.go i H ∧ ∃ Nx : Hp → Prop, (∀ H', Nx H' → ∃ m', m' < m ∧ W (i + 1) m' H') ∧ ∀ x H', J.yld i H x H' → g x (wipe σ vs) H' fun σ2 H2 => wipe σ2 vs = wipe σ vs ∧ tYes σ2 H2 fun b H3 =>
        if b = true then te σ2 H3 fun y H4 => ∃ acc, H4 D = some (.lst acc) ∧ acc.length < sizeLine ∧ Nx (upd H4 D (.lst (acc ++ [y]))) else Nx H3) := by
  refine ⟨fun i m H => m = n - i ∧ i ≤ n ∧ Same H1 H ∧ H D = some (.lst (ys.take i)), ⟨n, by omega, Nat.zero_le _, same_acc hD (Same.refl _), upd_same⟩, ?_⟩
  rintro i m H ⟨rfl, hi, s, hL⟩
  by_cases hlt : i < n
  · refine .inr ⟨go i H hlt s, fun H' => Same H1 H' ∧ H' D = some (.lst (ys.take (i + 1))), fun H' p' => ⟨n - (i + 1), by omega, rfl, hlt, p'⟩, fun x H' y => ?_⟩
    obtain ⟨s2, r⟩ := yld i x H H' hlt s y
    have hy : ys[i]? = some ys[i] := List.getElem?_eq_getElem (by omega)
    refine turn i ys[i] x H' _ hy (s.trans s2) r fun H4 s4 => ?_
    refine ⟨ys.take i, s4 _ _ (s2 _ _ hL), small1000 (by rw [List.length_take]; omega), same_acc hD ((s.trans s2).trans s4), ?_⟩
    rw [upd_same, take_more hy]
  · have e : i = n := by omega
    subst e
    refine .inl ⟨stop H s, hd H s ?_⟩
    rw [hL, List.take_of_length_le (by omega)]
theorem lcT {K : PySem.W.Frag} {a : Addr} {xs : List V} {g : TG} {te : TE} {vs : List Nat} {σ : St} {H1 : Hp} {D : Addr} {Qd : Hp → Prop} (ys : List V) (hl : ys.length = xs.length) (hz : xs.length ≤ 1000) (hS : SqT K H1 a xs) (hD : H1 D = none)
    (turn : ∀ (i : Nat) (y x : V) (H' : Hp) (Q : VK), xs[i]? = some x → ys[i]? = some y → Same H1 H' → (∀ H4, Same H' H4 → Q y H4) → g x (wipe σ vs) H' fun σ2 H2 => wipe σ2 vs = wipe σ vs ∧ te σ2 H2 Q)
    (hd : ∀ H', Same H1 H' → H' D = some (.lst ys) → Qd H') :
    ∃ W : Nat → Nat → Hp → Prop, (∃ m, W 0 m (upd H1 D (.lst []))) ∧ ∀ i m H, W i m H →
      ((Itt K a).stop i H ∧ Qd H) ∨ ((Itt K a).go i H ∧ ∃ Nx : Hp → Prop, (∀ H', Nx H' → ∃ m', m' < m ∧ W (i + 1) m' H') ∧ ∀ x H', (Itt K a).yld i H x H' → g x (wipe σ vs) H' fun σ2 H2 => wipe σ2 vs = wipe σ vs ∧ tYes σ2 H2 fun b H3 =>
        if b = true then te σ2 H3 fun y H4 => ∃ acc, H4 D = some (.lst acc) ∧ acc.length < sizeLine ∧ Nx (upd H4 D (.lst (acc ++ [y]))) else Nx H3) :=
  lc_go xs.length (fun i x _ => xs[i]? = some x) ys hl hz hD (fun i H' hi s => ⟨xs, xs[i], Same.tup s hS, List.getElem?_eq_getElem hi⟩)
    (fun i x H' H'' hi s q => by obtain ⟨e, q⟩ := q; rw [e]; exact ⟨Same.refl _, q xs (Same.tup s hS)⟩) (fun H' s => ⟨xs, Same.tup s hS, Nat.le_refl _⟩) (fun i y x H' Q hy s hx k => turn i y x H' Q hx hy s k) hd
theorem lcL {K : PySem.W.Frag} {a : Addr} {xs : List V} {g : TG} {te : TE} {vs : List Nat} {σ : St} {H1 : Hp} {D : Addr} {Qd : Hp → Prop} (ys : List V) (hl : ys.length = xs.length) (hz : xs.length ≤ 1000) (hS : SqL K H1 a xs) (hD : H1 D = none)
    (turn : ∀ (i : Nat) (y x : V) (H' : Hp) (Q : VK), xs[i]? = some x → ys[i]? = some y → Same H1 H' → (∀ H4, Same H' H4 → Q y H4) → g x (wipe σ vs) H' fun σ2 H2 => wipe σ2 vs = wipe σ vs ∧ te σ2 H2 Q)
    (hd : ∀ H', Same H1 H' → H' D = some (.lst ys) → Qd H') :
    ∃ W : Nat → Nat → Hp → Prop, (∃ m, W 0 m (upd H1 D (.lst []))) ∧ ∀ i m H, W i m H →
      ((Itl K a).stop i H ∧ Qd H) ∨ ((Itl K a).go i H ∧ ∃ Nx : Hp → Prop, (∀ H', Nx H' → ∃ m', m' < m ∧ W (i + 1) m' H') ∧ ∀ x H', (Itl K a).yld i H x H' → g x (wipe σ vs) H' fun σ2 H2 => wipe σ2 vs = wipe σ vs ∧ tYes σ2 H2 fun b H3 =>
        if b = true then te σ2 H3 fun y H4 => ∃ acc, H4 D = some (.lst acc) ∧ acc.length < sizeLine ∧ Nx (upd H4 D (.lst (acc ++ [y]))) else Nx H3) :=
  lc_go xs.length (fun i x _ => xs[i]? = some x) ys hl hz hD (fun i H' hi s => ⟨xs, xs[i], s.seq hS, List.getElem?_eq_getElem hi⟩)
    (fun i x H' H'' hi s q => by obtain ⟨e, q⟩ := q; rw [e]; exact ⟨Same.refl _, q xs (s.seq hS)⟩) (fun H' s => ⟨xs, s.seq hS, Nat.le_refl _⟩) (fun i y x H' Q hy s hx k => turn i y x H' Q hx hy s k) hd
theorem lcS {z : Str} {g : TG} {te : TE} {vs : List Nat} {σ : St} {H1 : Hp} {D : Addr} {Qd : Hp → Prop} (ys : List V) (hl : ys.length = z.length) (hz : z.length ≤ 1000) (hD : H1 D = none)
    (turn : ∀ (i : Nat) (y : V) (c : Nat) (H' : Hp) (Q : VK), z.cps.toList[i]? = some c → ys[i]? = some y → Same H1 H' → (∀ H4, Same H' H4 → Q y H4) → g (.str ⟨#[c]⟩) (wipe σ vs) H' fun σ2 H2 => wipe σ2 vs = wipe σ vs ∧ te σ2 H2 Q)
    (hd : ∀ H', Same H1 H' → H' D = some (.lst ys) → Qd H') :
    ∃ W : Nat → Nat → Hp → Prop, (∃ m, W 0 m (upd H1 D (.lst []))) ∧ ∀ i m H, W i m H →
      ((Its z).stop i H ∧ Qd H) ∨ ((Its z).go i H ∧ ∃ Nx : Hp → Prop, (∀ H', Nx H' → ∃ m', m' < m ∧ W (i + 1) m' H') ∧ ∀ x H', (Its z).yld i H x H' → g x (wipe σ vs) H' fun σ2 H2 => wipe σ2 vs = wipe σ vs ∧ tYes σ2 H2 fun b H3 =>
        if b = true then te σ2 H3 fun y H4 => ∃ acc, H4 D = some (.lst acc) ∧ acc.length < sizeLine ∧ Nx (upd H4 D (.lst (acc ++ [y]))) else Nx H3) :=
  lc_go z.cps.size (fun i x _ => ∃ c, z.cps.toList[i]? = some c ∧ x = .str ⟨#[c]⟩) ys hl hz hD (fun i H' hi s => hi)
    (fun i x H' H'' hi s q => by obtain ⟨e, c, h1, h2⟩ := q; rw [e]; exact ⟨Same.refl _, c, by rw [Array.getElem?_toList]; exact h1, h2⟩) (fun H' s => Nat.le_refl _)
    (fun i y x H' Q hy s hx k => by obtain ⟨c, h1, h2⟩ := hx; subst h2; exact turn i y c H' Q h1 hy s k) hd
end E5

end
section
set_option Elab.async false
set_option linter.all false
set_option maxRecDepth 100000
set_option maxHeartbeats 4000000
namespace E5
open PySem L2
/-! ### the draws: any number below the bound -/
/-- the drawing list at d: what is drawn from, 0, how many were drawn -/
def Drw (H : Hp) (d : Addr) : Prop := ∃ (sa : Addr) (ns : List Int) (n : Int), H d = some (.lst [.ref sa, .int 0, .int n]) ∧ H sa = some (.lst (ns.map V.int)) ∧ ns.length ≤ 63 ∧ 0 ≤ n
/-- all that was there stays, but the drawing list -/
def Aft (H H' : Hp) (d : Addr) : Prop := ∀ x o, x ≠ d → H x = some o → H' x = some o
theorem Aft.refl (H : Hp) (d : Addr) : Aft H H d := fun _ _ _ h => h
theorem Aft.trans {H H1 H2 : Hp} {d : Addr} (a : Aft H H1 d) (b : Aft H1 H2 d) : Aft H H2 d := fun x o n h => b x o n (a x o n h)
theorem Aft.of {H H' : Hp} {d : Addr} (s : Same H H') : Aft H H' d := fun x o _ h => s x o h
theorem Drw.same {H H' : Hp} {d : Addr} (h : Drw H d) (s : Same H H') : Drw H' d := by
  obtain ⟨sa, ns, n, h1, h2, h3⟩ := h
  exact ⟨sa, ns, n, s _ _ h1, s _ _ h2, h3⟩
theorem Drw.ne {H : Hp} {d x : Addr} {o : HO} (h : Drw H d) (hx : H x = some o) (hn : ∀ sa n, o ≠ .lst [.ref sa, .int 0, .int n]) : x ≠ d := fun e => by
  obtain ⟨sa, ns, n, h1, _⟩ := h
  rw [e, h1] at hx
  exact hn sa n (Option.some.inj hx).symm
theorem Aft.tup {K : PySem.W.Frag} {H H' : Hp} {d a : Addr} {xs : List V} (hd : Drw H d) (e : Aft H H' d) (h : SqT K H a xs) : SqT K H' a xs := by
  rcases h with (h | ⟨o, h⟩) | h
  · exact .inl (.inl (e _ _ (hd.ne h fun _ _ z => by cases z) h))
  · exact .inl (.inr ⟨o, e _ _ (hd.ne h fun _ _ z => by cases z) h⟩)
  · exact .inr h
theorem Aft.seq {K : PySem.W.Frag} {H H' : Hp} {d a : Addr} {xs : List V} (hn : a ≠ d) (e : Aft H H' d) (h : SqL K H a xs) : SqL K H' a xs := by
  rcases h with (h | ⟨o, h⟩) | h
  · exact .inl (.inl (e _ _ hn h))
  · exact .inl (.inr ⟨o, e _ _ hn h⟩)
  · exact .inr h
theorem at_list {xs : List V} {k : Int} (h0 : 0 ≤ k) (h : k < (xs.length : Int)) : ∃ v, xs[k.toNat]? = some v ∧ atI xs k = some v := by
  have hk : k.toNat < xs.length := by omega
  have ek : k = ((k.toNat : Nat) : Int) := by omega
  have q : atI xs ((k.toNat : Nat) : Int) = some xs[k.toNat] := atI_nat (List.getElem?_eq_getElem hk)
  rw [← ek] at q
  exact ⟨_, List.getElem?_eq_getElem hk, q⟩
theorem at_ints {ns : List Int} {k : Int} (h0 : 0 ≤ k) (h : k < (ns.length : Int)) : ∃ v : Int, atI (ns.map V.int) k = some (.int v) := by
  obtain ⟨v, h1, h2⟩ := at_list (xs := ns.map V.int) h0 (by rw [List.length_map]; exact h)
  rw [List.getElem?_map] at h1
  cases e : ns[k.toNat]? with
  | none => rw [e] at h1; cases h1
  | some i =>
    rw [e] at h1
    cases h1
    exact ⟨i, h2⟩
section
variable {P : Program} {w : World} {K : PySem.W.Frag} {mg : Str → Option Value} {base : Heap}
abbrev sCell : Stmt := tp 20
theorem scCell : FnScope ["script", "k"] ["script", "k"] (defScope sCell) := ⟨rfl, rfl, rfl, by decide +kernel, rfl, by decide +kernel, by decide +kernel⟩
def spCell (K : PySem.W.Frag) : Sp := fun vs H Q _ => ∃ (a : Addr) (ns : List Int) (k : Int), vs = [.ref a, .int k] ∧ SqL K H a (ns.map V.int) ∧ 0 ≤ k ∧ ∀ r, Q (.int r) H
theorem ok_cell {f : Addr} {fd : FuncData} (F : Fun K "_law_cell_at" "_law_cell_at" sCell f fd) (ml : mg "len" = none) : FnOk P w K mg base CX0 1 f fd ["script", "k"] (spCell K) := by
  refine F.ok scCell (fun vs H Q E h => ?_) (fun cdv A outer s H vs Q E hr h => ?_)
  · obtain ⟨x, _, _, rfl, _⟩ := h
    rfl
  obtain ⟨a, ns, k, rfl, hS, h0, q⟩ := h
  refine ⟨_, pss_cons (ps_if (pt_cmpR op_lt (pv 1) (pe_callB call_len_seq rfl ml PySem.boot_len (pa_cons (pv 0) pa_nil)) (nomark _)) (pss_one (ps_ret (pe_ix ix_list (pv 0) (pv 1) (fun _ _ => rfl)))) pss_nil)
    (pss_one (ps_ret pe_int)), ?_⟩
  refine ⟨_, rfl, _, rfl, a, _, rfl, .inl hS, _, _, rfl, rfl, _, rfl, ite2 (fun c => ?_) (fun c => ?_)⟩
  · have c' : k < (((ns.map V.int).length : Nat) : Int) := of_decide_eq_true c
    rw [List.length_map] at c'
    obtain ⟨v, hv⟩ := at_ints (ns := ns) h0 c'
    exact ⟨_, rfl, _, rfl, a, _, k, .int v, rfl, rfl, hS, hv, q _⟩
  · exact q 0
abbrev sDraw : Stmt := tp 21
theorem scDraw : FnScope ["cell", "k", "bound", "primes"] ["cell", "k", "bound"] (defScope sDraw) := ⟨rfl, rfl, rfl, by decide +kernel, rfl, by decide +kernel, by decide +kernel⟩
def spDraw : Sp := fun vs H Q _ => ∃ (c k b : Int), vs = [.int c, .int k, .int b] ∧ c.natAbs < 2 ^ 60 ∧ k.natAbs < 2 ^ 60 ∧ 0 < b ∧ ∀ r H', 0 ≤ r → r < b → Same H H' → Q (.int r) H'
def PRM : List Int := [1000003, 1000033, 1000037, 1000039, 1000081, 1000099, 1000117, 1000121, 1000133, 1000151, 1000159, 1000171, 1000183, 1000187, 1000193, 1000199]
theorem prm_at {i : Int} (h0 : 0 ≤ i) (h : i < 16) : ∃ p : Int, 0 < p ∧ atI (PRM.map V.int) i = some (.int p) := by
  have z : ∀ n : Fin 16, ∃ p : Int, 0 < p ∧ PRM[n.val]? = some p := fun n => ⟨PRM.getD n.val 0, by revert n; decide +kernel, by revert n; decide +kernel⟩
  obtain ⟨p, h1, h2⟩ := z ⟨i.toNat, by omega⟩
  refine ⟨p, h1, ?_⟩
  have ek : i = ((i.toNat : Nat) : Int) := by omega
  have q : atI (PRM.map V.int) ((i.toNat : Nat) : Int) = some (.int p) := atI_nat (by rw [List.getElem?_map, h2] <;> rfl)
  rw [← ek] at q
  exact q
theorem ok_draw {f : Addr} {fd : FuncData} (F : Fun K "_law_draw" "_law_draw" sDraw f fd) (mi : mg "int" = none) : FnOk P w K mg base CX0 1 f fd ["cell", "k", "bound"] spDraw := by
  refine F.ok scDraw (fun vs H Q E h => ?_) (fun cdv A outer s H vs Q E hr h => ?_)
  · obtain ⟨x, _, _, rfl, _⟩ := h
    rfl
  obtain ⟨c, k, b, rfl, hc, hk, hb, q⟩ := h
  refine ⟨_, pss_cons (ps_set (i := 3) scDraw.nd rfl (Or.inl rfl) (pe_tup (pa_cons pe_int (pa_cons pe_int (pa_cons pe_int (pa_cons pe_int (pa_cons pe_int (pa_cons pe_int (pa_cons pe_int (pa_cons pe_int (pa_cons pe_int (pa_cons pe_int (pa_cons pe_int (pa_cons pe_int (pa_cons pe_int (pa_cons pe_int (pa_cons pe_int (pa_cons pe_int pa_nil))))))))))))))))))
    (pss_one (ps_ret (pe_op op_modN (pe_op op_modN (pe_callTy call_int1 rfl mi (by decide +kernel) (pa_cons (pe_op op_add (pe_mul (pv 0) pe_int) (pe_mul (pv 1) pe_int)) pa_nil))
      (pe_ix ix_tup (pv 3) (pe_op op_mod (pe_callTy call_int1 rfl mi (by decide +kernel) (pa_cons (pv 1) pa_nil)) pe_int) (fun _ _ => rfl))) (pv 2)))), ?_⟩
  refine ⟨(by show 16 ≤ sizeLine; decide), fun p hp => ?_⟩
  have hp' : upd H p (.tup (PRM.map V.int)) p = some (.tup (PRM.map V.int)) := upd_same
  obtain ⟨m, hm0, hm⟩ := prm_at (i := k % 16) (Int.emod_nonneg _ (by decide)) (Int.emod_lt_of_pos _ (by decide))
  refine ⟨_, rfl, _, _, rfl, rfl, ⟨by omega, by omega⟩, _, rfl, _, _, rfl, rfl, ⟨by omega, by omega⟩, _, _, rfl, rfl, .inl ⟨_, rfl, ?_⟩⟩
  refine ⟨_, rfl, _, rfl, .inl ⟨_, rfl, _, _, rfl, rfl, (by show (0 : Int) < 16; decide), p, _, _, _, rfl, rfl, E5.SqT.of hp', hm, _, _, rfl, rfl, by omega, _, rfl, _, _, rfl, rfl, by omega, ?_⟩⟩
  exact q _ _ (Int.fmod_nonneg_of_pos _ hb) (Int.fmod_lt_of_pos _ hb) (Same.new hp _)
end
section
variable {P : Program} {w : World} {K : PySem.W.Frag} {mg : Str → Option Value} {base : Heap}
abbrev sNum : Stmt := tp 22
theorem scNum : FnScope ["cell", "k", "bound", "power", "lap", "remains", "small"] ["cell", "k", "bound"] (defScope sNum) := ⟨rfl, rfl, rfl, by decide +kernel, rfl, by decide +kernel, by decide +kernel⟩
def spNum : Sp := fun vs H Q _ => ∃ (c k b : Int), vs = [.int c, .int k, .int b] ∧ 0 ≤ k ∧ k ≤ 100 ∧ 0 < b ∧ ∀ r H', 0 ≤ r → r < b → Same H H' → Q (.int r) H'
theorem pow_small (i : Nat) (h : i < 24) : ((1009 : Int) ^ i).natAbs < 2 ^ 240 ∧ (0 : Int) < 1009 ^ i := by
  have z : ∀ n : Fin 24, ((1009 : Int) ^ n.val).natAbs < 2 ^ 240 ∧ (0 : Int) < 1009 ^ n.val := by decide +kernel
  exact z ⟨i, h⟩
theorem ok_num {f fD : Addr} {fd fdD : FuncData} (F : Fun K "_law_number" "_law_number" sNum f fd) (mi : mg "int" = none) (mr : mg "range" = none)
    (G : FnOk P w K mg base CX0 1 fD fdD ["cell", "k", "bound"] spDraw) (bG : Binds K fdD ["cell", "k", "bound"] []) (kG : PySem.W.keepIn K (.ref fD) = true) (mG : mg "_law_draw" = some (.ref fD)) : FnOk P w K mg base CX0 2 f fd ["cell", "k", "bound"] spNum := by
  refine F.ok scNum (fun vs H Q E h => ?_) (fun cdv A outer s H vs Q E hr h => ?_)
  · obtain ⟨x, _, _, rfl, _⟩ := h
    rfl
  obtain ⟨c, k, b, rfl, h0, h1, hb, q⟩ := h
  refine ⟨_, pss_cons (ps_set (i := 3) scNum.nd rfl (Or.inl rfl) pe_int)
    (pss_cons (ps_for PassesOwn.never rfl (pi_range1 rfl mr (pa_cons (pe_op op_mod (pe_callTy call_int1 rfl mi (by decide +kernel) (pa_cons (pv 1) pa_nil)) pe_int) pa_nil)) (pg_name (i := 4) scNum.nd rfl (Or.inl rfl))
      (pss_one (ps_set (i := 3) scNum.nd rfl (Or.inl rfl) (pe_op op_mulW (pv 3) pe_int))))
    (pss_cons (ps_set (i := 5) scNum.nd rfl (Or.inl rfl) (pe_op op_fdivW (pe_op op_sub (pv 0) (pe_op op_pow pe_int pe_int)) (pv 3)))
    (pss_cons (ps_if (pt_cmpR op_gt (pv 5) pe_int (nomark _)) (pss_one (ps_ret (pe_op op_modN (pe_op op_mod (pe_callTy call_int1 rfl mi (by decide +kernel) (pa_cons (pv 5) pa_nil)) pe_int) (pv 2)))) pss_nil)
    (pss_cons (ps_set (i := 6) scNum.nd rfl (Or.inl rfl) (pe_op op_mod (pe_callTy call_int1 rfl mi (by decide +kernel) (pa_cons (pv 0) pa_nil)) pe_int))
    (pss_one (ps_ret (pe_op op_modN (pe_call G hr rfl mG kG bG .nil pass0 (pa_cons (pe_mul (pe_op op_add (pv 6) (pe_mul pe_int (pv 1))) (pe_op op_add (pe_op op_add (pv 6) (pe_mul pe_int (pv 1))) pe_int))
      (pa_cons (pe_op op_add (pe_op op_mod (pe_callTy call_int1 rfl mi (by decide +kernel) (pa_cons (pv 1) pa_nil)) pe_int) pe_int) (pa_cons pe_int pa_nil)))) (pv 2)))))))), ?_⟩
  have hk0 : 0 ≤ k % 24 := Int.emod_nonneg _ (by decide)
  have hk1 : k % 24 < 24 := Int.emod_lt_of_pos _ (by decide)
  refine ⟨_, rfl, .inl ⟨_, rfl, _, _, rfl, rfl, (by show (0 : Int) < 24; decide), _, rfl, by omega, by omega, ?_⟩⟩
  refine for_range (n := (k % 24).toNat) (fun i σ H' => H' = H ∧ ∃ v, σ = [some (.int c), some (.int k), some (.int b), some (.int (1009 ^ i)), v, none, none]) ⟨rfl, none, rfl⟩ ?_ ?_
  · rintro i σ H' hi ⟨rfl, v, rfl⟩
    have hp := pow_small i (by omega)
    refine ⟨_, rfl, _, _, rfl, rfl, wide_mul hp.1 (show (1009 : Int).natAbs < 2 ^ 10 by decide) (by decide) (by decide) (by decide), rfl, some (.int (0 + (i : Int))), ?_⟩
    rw [Int.pow_succ]
    rfl
  · rintro σ H' ⟨rfl, v, rfl⟩
    have hp := pow_small (k % 24).toNat (by omega)
    refine ⟨_, rfl, _, _, rfl, rfl, ⟨by decide, by decide, by decide +kernel⟩, _, _, rfl, rfl, _, rfl, _, _, rfl, rfl, wide_div hp.2 hp.1 (by decide) (by decide), ?_⟩
    refine ⟨_, rfl, _, _, rfl, rfl, _, rfl, ite2 (fun z => ?_) (fun z => ?_)⟩
    · refine ⟨_, rfl, .inl ⟨_, rfl, _, _, rfl, rfl, (by show (0 : Int) < 1009; decide), _, rfl, _, _, rfl, rfl, by omega, ?_⟩⟩
      exact q _ _ (Int.fmod_nonneg_of_pos _ hb) (Int.fmod_lt_of_pos _ hb) (Same.refl _)
    · refine ⟨_, rfl, .inl ⟨_, rfl, _, _, rfl, rfl, (by show (0 : Int) < 1000003; decide), ?_⟩⟩
      have s0 : 0 ≤ c % 1000003 := Int.emod_nonneg _ (by decide)
      have s1 : c % 1000003 < 1000003 := Int.emod_lt_of_pos _ (by decide)
      have k9 : 0 ≤ k % 9 := Int.emod_nonneg _ (by decide)
      have k9' : k % 9 < 9 := Int.emod_lt_of_pos _ (by decide)
      refine ⟨_, rfl, _, rfl, _, _, rfl, rfl, (by constructor <;> decide), _, _, rfl, rfl, _, rfl, _, rfl, _, _, rfl, rfl, (by constructor <;> decide), _, _, rfl, rfl, _, _, rfl, rfl, _, _, rfl, rfl, ?_, ?_⟩
      · constructor <;> omega
      refine ⟨_, rfl, .inl ⟨_, rfl, _, _, rfl, rfl, (by show (0 : Int) < 9; decide), _, _, rfl, rfl, _, _, _, rfl, ?_, ?_, by decide, fun r H2 r0 r1 s2 => ?_⟩⟩
      · have a1 : (c % 1000003 + 977 * k).natAbs < 2 ^ 21 := by omega
        have a2 : (c % 1000003 + 31 * k + 5).natAbs < 2 ^ 21 := by omega
        exact Nat.lt_trans (wide_lt a1 a2) (by decide)
      · omega
      · refine ⟨_, rfl, _, _, rfl, rfl, by omega, ?_⟩
        exact q _ _ (Int.fmod_nonneg_of_pos _ hb) (Int.fmod_lt_of_pos _ hb) s2
end
section
variable {P : Program} {w : World} {K : PySem.W.Frag} {mg : Str → Option Value} {base : Heap}
abbrev sNext : Stmt := tp 23
theorem scNext : FnScope ["draw", "bound", "at", "cell"] ["draw", "bound"] (defScope sNext) := ⟨rfl, rfl, rfl, by decide +kernel, rfl, by decide +kernel, by decide +kernel⟩
/-- the drawing list at d, with what is drawn from at sa -/
def DrwS (H : Hp) (d sa : Addr) : Prop := ∃ (ns : List Int) (n : Int), H d = some (.lst [.ref sa, .int 0, .int n]) ∧ H sa = some (.lst (ns.map V.int)) ∧ ns.length ≤ 63 ∧ 0 ≤ n
theorem DrwS.drw {H : Hp} {d sa : Addr} (h : DrwS H d sa) : Drw H d := ⟨sa, h⟩
def spNext : Sp := fun vs H Q _ => ∃ (d sa : Addr) (b : Int), vs = [.ref d, .int b] ∧ DrwS H d sa ∧ 0 < b ∧ ∀ r H', 0 ≤ r → r < b → Aft H H' d → DrwS H' d sa → Q (.int r) H'
theorem ok_next {f f1 f2 : Addr} {fd fd1 fd2 : FuncData} (F : Fun K "_law_next" "_law_next" sNext f fd) (mi : mg "int" = none)
    (G1 : FnOk P w K mg base CX0 1 f1 fd1 ["script", "k"] (spCell K)) (b1 : Binds K fd1 ["script", "k"] []) (k1 : PySem.W.keepIn K (.ref f1) = true) (m1 : mg "_law_cell_at" = some (.ref f1))
    (G2 : FnOk P w K mg base CX0 2 f2 fd2 ["cell", "k", "bound"] spNum) (b2 : Binds K fd2 ["cell", "k", "bound"] []) (k2 : PySem.W.keepIn K (.ref f2) = true) (m2 : mg "_law_number" = some (.ref f2)) : FnOk P w K mg base CX0 3 f fd ["draw", "bound"] spNext := by
  refine F.ok scNext (fun vs H Q E h => ?_) (fun cdv A outer s H vs Q E hr h => ?_)
  · obtain ⟨x, _, _, rfl, _⟩ := h
    rfl
  obtain ⟨d, sa, b, rfl, ⟨ns, n, hd, hsa, hlen, hn⟩, hb, q⟩ := h
  refine ⟨_, pss_cons (ps_asg (pe_op op_add (pe_ix ix_list (pv 0) pe_int (fun _ _ => rfl)) pe_int) (pg_sub (pv 0) pe_int set_list))
    (pss_cons (ps_set (i := 2) scNext.nd rfl (Or.inl rfl) (pe_op op_fdiv (pe_ix ix_list (pv 0) pe_int (fun _ _ => rfl)) pe_int))
    (pss_cons (ps_set (i := 3) scNext.nd rfl (Or.inl rfl) (pe_op op_add (pe_call G1 (hr.mono (by decide)) rfl m1 k1 b1 .nil pass0 (pa_cons (pe_ix ix_list (pv 0) pe_int (fun _ _ => rfl)) (pa_cons (pe_op op_add (pe_ix ix_list (pv 0) pe_int (fun _ _ => rfl)) (pv 2)) pa_nil))) (pe_mul pe_int (pv 2))))
    (pss_one (ps_ret (pe_call G2 hr rfl m2 k2 b2 .nil pass0 (pa_cons (pv 3) (pa_cons (pe_op op_add (pe_op op_mod (pe_callTy call_int1 rfl mi (by decide +kernel) (pa_cons (pe_ix ix_list (pv 0) pe_int (fun _ _ => rfl)) pa_nil)) pe_int) pe_int) (pa_cons (pv 1) pa_nil)))))))), ?_⟩
  have nsd : sa ≠ d := fun e => by
    rw [e, hd] at hsa
    have z := congrArg (fun o => match o with
      | HO.lst (.ref _ :: _) => true
      | _ => false) (Option.some.inj hsa)
    cases ns with
    | nil => cases z
    | cons => cases z
  refine ⟨_, rfl, d, _, 2, .int n, rfl, rfl, SqL.of hd, rfl, _, _, rfl, rfl, ?_⟩
  refine ⟨_, rfl, d, _, _, 2, rfl, rfl, hd, rfl, ?_⟩
  have h2 : upd H d (.lst [.ref sa, .int 0, .int (n + 1)]) d = some (.lst [.ref sa, .int 0, .int (n + 1)]) := upd_same
  refine ⟨_, rfl, d, _, 2, .int (n + 1), rfl, rfl, SqL.of h2, rfl, _, _, rfl, rfl, ⟨by decide, by decide⟩, ?_⟩
  have ha : (0 : Int) ≤ (n + 1) / 12 := Int.ediv_nonneg (by omega) (by decide)
  have s2 : upd H d (.lst [.ref sa, .int 0, .int (n + 1)]) sa = some (.lst (ns.map V.int)) := by rw [upd_ne nsd]; exact hsa
  refine ⟨_, rfl, d, _, 0, .ref sa, rfl, rfl, SqL.of h2, rfl, _, rfl, d, _, 1, .int 0, rfl, rfl, SqL.of h2, rfl, _, rfl, _, _, rfl, rfl, sa, ns, _, rfl, SqL.of s2, by omega, fun r => ?_⟩
  refine ⟨_, rfl, _, _, rfl, rfl, (by constructor <;> decide), _, _, rfl, rfl, ?_⟩
  refine ⟨_, rfl, _, rfl, d, _, 2, .int (n + 1), rfl, rfl, SqL.of h2, rfl, .inl ⟨_, rfl, _, _, rfl, rfl, (by show (0 : Int) < 12; decide), _, _, rfl, rfl, _, rfl, _, _, _, rfl, ?_, ?_, hb, fun r2 H2 r0 r1 s3 => ?_⟩⟩
  · have := Int.emod_nonneg (n + 1) (show (12 : Int) ≠ 0 by decide)
    omega
  · have := Int.emod_lt_of_pos (n + 1) (show (0 : Int) < 12 by decide)
    omega
  · refine q r2 H2 r0 r1 (fun x o hx ho => s3 _ _ (by rw [upd_ne hx]; exact ho)) ⟨ns, n + 1, s3 _ _ h2, s3 _ _ s2, hlen, by omega⟩
abbrev sPick : Stmt := tp 24
theorem scPick : FnScope ["draw", "things"] ["draw", "things"] (defScope sPick) := ⟨rfl, rfl, rfl, by decide +kernel, rfl, by decide +kernel, by decide +kernel⟩
def spPick (K : PySem.W.Frag) : Sp := fun vs H Q _ => ∃ (d sa l : Addr) (xs : List V), vs = [.ref d, .ref l] ∧ DrwS H d sa ∧ SqL K H l xs ∧ l ≠ d ∧ xs ≠ [] ∧ ∀ (i : Nat) (x : V) (H' : Hp), xs[i]? = some x → Aft H H' d → DrwS H' d sa → Q x H'
theorem ok_pick {f f1 : Addr} {fd fd1 : FuncData} (F : Fun K "_law_pick" "_law_pick" sPick f fd) (ml : mg "len" = none)
    (G1 : FnOk P w K mg base CX0 3 f1 fd1 ["draw", "bound"] spNext) (b1 : Binds K fd1 ["draw", "bound"] []) (k1 : PySem.W.keepIn K (.ref f1) = true) (m1 : mg "_law_next" = some (.ref f1)) : FnOk P w K mg base CX0 4 f fd ["draw", "things"] (spPick K) := by
  refine F.ok scPick (fun vs H Q E h => ?_) (fun cdv A outer s H vs Q E hr h => ?_)
  · obtain ⟨x, _, _, _, rfl, _⟩ := h
    rfl
  obtain ⟨d, sa, l, xs, rfl, hd, hl, hne, hx, q⟩ := h
  refine ⟨_, pss_one (ps_ret (pe_ix ix_list (pv 1) (pe_call G1 hr rfl m1 k1 b1 .nil pass0 (pa_cons (pv 0) (pa_cons (pe_callB call_len_seq rfl ml PySem.boot_len (pa_cons (pv 1) pa_nil)) pa_nil))) (fun _ _ => rfl))), ?_⟩
  have h0 : 0 < xs.length := List.length_pos_iff.mpr hx
  refine ⟨_, rfl, _, rfl, _, rfl, l, _, rfl, .inl hl, d, sa, _, rfl, hd, by omega, fun r H' r0 r1 a1 d1 => ?_⟩
  obtain ⟨v, e1, e2⟩ := at_list r0 r1
  exact ⟨l, xs, r, v, rfl, rfl, Aft.seq hne a1 hl, e2, q _ v H' e1 a1 d1⟩
end
end E5

end
section
set_option Elab.async false
set_option linter.all false
set_option maxRecDepth 100000
set_option maxHeartbeats 4000000
namespace E5
open PySem PySem.Spec PyProof.Rows L2
/-- a list or a tuple -/
def SqE (K : PySem.W.Frag) (H : Hp) (a : Addr) (xs : List V) : Prop := SqL K H a xs ∨ SqT K H a xs
theorem SqE.same {K : PySem.W.Frag} {H H' : Hp} {a : Addr} {xs : List V} (s : Same H H') (h : SqE K H a xs) : SqE K H' a xs := h.imp (fun q => s.seq q) fun q => Same.tup s q
theorem sqT_ty {K : PySem.W.Frag} {H : Hp} {a : Addr} {xs : List V} (h : SqT K H a xs) : TyX K H (.ref a) (.type "tuple") := by
  rcases h with (h | ⟨o, h⟩) | ⟨o, its, n, h, hc, _⟩
  · exact .base (.tup h)
  · exact .fTuple h
  · exact .kTuple h hc
theorem sqL_ty {K : PySem.W.Frag} {H : Hp} {a : Addr} {xs : List V} (h : SqL K H a xs) : TyX K H (.ref a) (.type "list") := by
  rcases h with (h | ⟨o, h⟩) | ⟨o, its, n, h, hc, _⟩
  · exact .base (.lst h)
  · exact .base (.frz h)
  · exact .kList h hc
/-- the words and signs that are drawn -/
def MRK : List Str := ["x", "p", ".", ";", "f", "("]
abbrev SGN : List Str := ["=", ";", "(", ")", "{", "}", ",", ":", "."]
theorem mrk_len : ∀ x ∈ MRK, x.length ≤ 20 := by decide +kernel
theorem mrk_sgn : ∀ x ∈ MRK, wordB x = false → x ∈ SGN := by decide +kernel
theorem mrk_ok : ∀ x ∈ MRK, PyData.strOk x = true := by decide +kernel
/-- the constants of the text -/
structure KC (K : PySem.W.Frag) (mg : Str → Option Value) (aN aS : Addr) : Prop where
  gN : mg "NO_WORDS" = some (.ref aN)
  tN : ∀ H, SqT K H aN [.str "any", .str "give", .str "let"]
  gS : mg "SIGNS" = some (.ref aS)
  tS : ∀ H, SqT K H aS (SGN.map V.str)
  gL : ∃ t, mg "LONGEST" = some (.int 10 t)
  gM : ∃ t, mg "MOST_WORDS" = some (.int 200 t)
  len : mg "len" = none
  all : mg "all" = none
  isi : mg "isinstance" = none
  str : mg "str" = none
  lst : mg "list" = none
  tup : mg "tuple" = none
  int : mg "int" = none
  bool : mg "bool" = none
theorem iteFF {p q : Prop} {b : Bool} (e : b = false) (h : q) : if b = true then p else q := by rw [e]; exact h
theorem iteTT {p q : Prop} {b : Bool} (e : b = true) (h : p) : if b = true then p else q := by rw [e]; exact h
def tNev : TE := fun _ _ _ => False
theorem pe_never {X : Cx} {e : Expr} : PE X e tNev := ⟨fun _ _ _ _ _ _ h => False.elim h⟩
theorem pt_never {X : Cx} {e : Expr} : PT X e (fun _ _ _ => False) := ⟨fun _ _ _ _ _ _ h => False.elim h⟩
theorem hu65 {A : Around} {k : Nat} (hr : Room k A) : A.units + 65 < cLine := by have := hr.un; omega
section
variable {P : Program} {w : World} {K : PySem.W.Frag} {mg : Str → Option Value} {base : Heap} {aN aS : Addr}
theorem pe_strT {X : Cx} {p : Pos} (hm : X.mg "str" = none) (hg : Gl X "str" := by rfl) : PE X (.Name "str" p) (tC (.ty "str")) := pe_bltn hg hm (by decide +kernel) rfl
theorem pe_tupT {X : Cx} {p : Pos} (hm : X.mg "tuple" = none) (hg : Gl X "tuple" := by rfl) : PE X (.Name "tuple" p) (tC (.ty "tuple")) := pe_bltn hg hm (by decide +kernel) rfl
theorem pe_lstT {X : Cx} {p : Pos} (hm : X.mg "list" = none) (hg : Gl X "list" := by rfl) : PE X (.Name "list" p) (tC (.ty "list")) := pe_bltn hg hm (by decide +kernel) rfl
theorem pe_intT {X : Cx} {p : Pos} (hm : X.mg "int" = none) (hg : Gl X "int" := by rfl) : PE X (.Name "int" p) (tC (.ty "int")) := pe_bltn hg hm (by decide +kernel) rfl
theorem pe_boolT {X : Cx} {p : Pos} (hm : X.mg "bool" = none) (hg : Gl X "bool" := by rfl) : PE X (.Name "bool" p) (tC (.ty "bool")) := pe_bltn hg hm (by decide +kernel) rfl
abbrev sWord : Stmt := tp 8
theorem scWord : FnScope ["thing", "letter"] ["thing"] (defScope sWord) := ⟨rfl, rfl, rfl, by decide +kernel, rfl, by decide +kernel, by decide +kernel⟩
def spWord : Sp := fun vs H Q _ => ∃ x : Str, vs = [.str x] ∧ x.length ≤ 20 ∧ ∀ H', Same H H' → Q (.bl (wordB x)) H'
theorem ok_word {f f1 : Addr} {fd fd1 : FuncData} (F : Fun K "is_word" "is_word" sWord f fd) (T : KC K mg aN aS)
    (G1 : FnOk P w K mg base CX0 1 f1 fd1 ["letter"] spSmall) (b1 : Binds K fd1 ["letter"] []) (k1 : PySem.W.keepIn K (.ref f1) = true) (m1 : mg "is_small" = some (.ref f1)) : FnOk P w K mg base CX0 2 f fd ["thing"] spWord := by
  refine F.ok scWord (fun vs H Q E h => ?_) (fun cdv A outer s H vs Q E hr h => ?_)
  · obtain ⟨x, rfl, _⟩ := h
    rfl
  obtain ⟨x, rfl, hl, q⟩ := h
  obtain ⟨tk, gL⟩ := T.gL
  refine ⟨_, pss_cons (ps_if (PW.pt (pw_or (pt_not (pt_val (pe_callB call_isi rfl T.isi (by decide +kernel) (pa_cons (pv 0) (pa_cons (pe_strT T.str) pa_nil)))))
      (pw_or1 (pt_not (pt_chain op_le op_le pe_int (pe_callB call_len_str rfl T.len PySem.boot_len (pa_cons (pv 0) pa_nil)) (pe_glob (v := .int 10) rfl gL ⟨_, rfl⟩)))))) (pss_one (ps_ret pe_bl)) pss_nil)
    (pss_one (ps_ret (pe_and (pe_cmpR op_notIn_seq (pv 0) (pgl T.gN) (by rfl)) (pe_one (pe_callB (cr_all rfl) rfl T.all (by decide +kernel) (pa_cons (pe_lc (own := [("letter", 1)]) (g := gName 1) rfl scWord.nd (pi_str (pv 0))
      (blkOk_by (N := ["thing", "letter"]) (sc := defScope sWord) (by decide +kernel)) (fun _ _ _ _ _ => pg_name (i := 1) scWord.nd rfl (Or.inl rfl))
      (fun _ _ _ _ _ => pts_nil) (fun _ _ _ _ _ => pe_call G1 hr rfl m1 k1 b1 .nil pass0 (pa_cons (pv 1) pa_nil))) pa_nil)))))), ?_⟩
  refine ⟨_, rfl, .str x, .ty "str", .type "str", .type "str", true, rfl, .ty _, .base (.str x), kit_ty (by decide +kernel), _, rfl, ?_⟩
  refine iteF ?_
  refine ⟨_, rfl, _, rfl, small_le (by omega), _, _, rfl, rfl, _, rfl, ite2 (fun c => ?_) (fun c => ?_)⟩
  · refine ⟨_, _, rfl, rfl, _, rfl, ?_⟩
    have c1 : 1 ≤ (x.length : Int) := of_decide_eq_true c
    cases c2 : decide ((x.length : Int) ≤ 10) with
    | false =>
      have c2' : ¬ x.length ≤ 10 := by
        have := of_decide_eq_false c2
        omega
      refine iteT ?_
      have e : wordB x = false := by
        unfold wordB
        rw [decide_eq_false c2', Bool.and_false, Bool.false_and, Bool.false_and]
      rw [← e]
      exact q H (Same.refl H)
    | true =>
      have c2' : x.length ≤ 10 := by
        have := of_decide_eq_true c2
        omega
      have c1' : 1 ≤ x.length := by omega
      refine iteF ?_
      have e : wordB x = (!noWord x && ((signs x).map smallS).all id) := by
        unfold wordB
        rw [decide_eq_true c1', decide_eq_true c2', Bool.true_and, Bool.true_and]
      refine ⟨_, rfl, _, _, rfl, .inr (T.tN _), rfl, rfl, !noWord x, rfl, ite2 (fun z => ?_) (fun z => ?_)⟩
      · refine ⟨_, rfl, x, rfl, fun D hN => lcS (((signs x).map smallS).map V.bl) (by simp [signs, Str.length]) (by omega) hN (fun i y cc H' Q' hc hy s k => ?_) fun H' s hL => ?_⟩
        · rw [List.getElem?_map, List.getElem?_map] at hy
          unfold signs at hy
          rw [List.getElem?_map, hc] at hy
          cases hy
          exact ⟨rfl, _, rfl, _, rfl, k H' (Same.refl H')⟩
        · refine ⟨D, _, rfl, SqL.of hL, ?_⟩
          have zz := q H' s
          rw [e, z, Bool.true_and] at zz
          exact zz
      · have zz := q H (Same.refl H)
        rw [e, Bool.eq_false_iff.mpr z, Bool.false_and] at zz
        exact zz
  · refine ⟨_, rfl, iteT ?_⟩
    have c1 : ¬ (1 : Int) ≤ (x.length : Int) := of_decide_eq_false (Bool.eq_false_iff.mpr c)
    have c1' : ¬ 1 ≤ x.length := by omega
    have e : wordB x = false := by
      unfold wordB
      rw [decide_eq_false c1', Bool.false_and, Bool.false_and, Bool.false_and]
    rw [← e]
    exact q H (Same.refl H)
/-! ### is_whole, is_mark, checked_words -/
abbrev sWhole : Stmt := tp 9
theorem scWhole : FnScope ["thing"] ["thing"] (defScope sWhole) := ⟨rfl, rfl, rfl, by decide +kernel, rfl, by decide +kernel, by decide +kernel⟩
def spWhole : Sp := fun vs H Q _ => ∃ i : Int, vs = [.int i] ∧ Q (.bl true) H
theorem ok_whole {f : Addr} {fd : FuncData} (F : Fun K "is_whole" "is_whole" sWhole f fd) (T : KC K mg aN aS) : FnOk P w K mg base CX0 1 f fd ["thing"] spWhole := by
  refine F.ok scWhole (fun vs H Q E h => ?_) (fun cdv A outer s H vs Q E hr h => ?_)
  · obtain ⟨x, rfl, _⟩ := h
    rfl
  obtain ⟨i, rfl, q⟩ := h
  refine ⟨_, pss_one (ps_ret (pe_and (pe_callB call_isi rfl T.isi (by decide +kernel) (pa_cons (pv 0) (pa_cons (pe_intT T.int) pa_nil)))
    (pe_one (pe_not (pe_callB call_isi rfl T.isi (by decide +kernel) (pa_cons (pv 0) (pa_cons (pe_boolT T.bool) pa_nil))))))), ?_⟩
  refine ⟨_, rfl, .int i, .ty "int", .type "int", .type "int", true, rfl, .ty _, .base (.int i), kit_ty (by decide +kernel), _, rfl, iteT ?_⟩
  exact ⟨_, rfl, .int i, .ty "bool", .type "int", .type "bool", false, rfl, .ty _, .base (.int i), kit_ty (by decide +kernel), _, rfl, q⟩
abbrev sMark : Stmt := tp 13
theorem scMark : FnScope ["thing"] ["thing"] (defScope sMark) := ⟨rfl, rfl, rfl, by decide +kernel, rfl, by decide +kernel, by decide +kernel⟩
def spMark : Sp := fun vs H Q _ => ∃ x ∈ MRK, vs = [.str x] ∧ ∀ H', Same H H' → Q (.bl true) H'
theorem inV_strs (v : Str) (ys : List Str) : inV (.str v) (ys.map V.str) = decide (v ∈ ys) := by
  unfold inV
  rw [List.any_map]
  by_cases h : v ∈ ys
  · rw [decide_eq_true h, List.any_eq_true]
    exact ⟨v, h, by show (v == v) = true; rw [beq_self_eq_true]⟩
  · rw [decide_eq_false h, List.any_eq_false]
    intro x hx z
    have z' : (x == v) = true := z
    exact h (beq_iff_eq.mp z' ▸ hx)
theorem ok_mark {f f1 : Addr} {fd fd1 : FuncData} (F : Fun K "is_mark" "is_mark" sMark f fd) (T : KC K mg aN aS)
    (G1 : FnOk P w K mg base CX0 2 f1 fd1 ["thing"] spWord) (b1 : Binds K fd1 ["thing"] []) (k1 : PySem.W.keepIn K (.ref f1) = true) (m1 : mg "is_word" = some (.ref f1)) : FnOk P w K mg base CX0 3 f fd ["thing"] spMark := by
  refine F.ok scMark (fun vs H Q E h => ?_) (fun cdv A outer s H vs Q E hr h => ?_)
  · obtain ⟨x, _, rfl, _⟩ := h
    rfl
  obtain ⟨x, hx, rfl, q⟩ := h
  refine ⟨_, pss_one (ps_ret (pe_or (pe_call G1 hr rfl m1 k1 b1 .nil pass0 (pa_cons (pv 0) pa_nil)) (pe_or (pe_cmpR op_in_seq (pv 0) (pgl T.gS) (by rfl)) (pe_one pe_never)))), ?_⟩
  refine ⟨_, rfl, x, rfl, mrk_len x hx, fun H' s' => ⟨_, rfl, ?_⟩⟩
  cases e : wordB x with
  | true => exact iteT (q H' s')
  | false =>
    refine iteF ⟨_, rfl, aS, _, rfl, .inr (T.tS _), rfl, rfl, ?_⟩
    rw [if_neg Bool.false_ne_true]
    refine ⟨_, rfl, ?_⟩
    have hm : inV (.str x) (SGN.map V.str) = true := (inV_strs x SGN).trans (decide_eq_true (mrk_sgn x hx e))
    show ite (inV (.str x) (SGN.map V.str) = true) _ _
    rw [if_pos hm]
    exact q H' s'
abbrev sChk : Stmt := tp 14
theorem scChk : FnScope ["words", "word"] ["words"] (defScope sChk) := ⟨rfl, rfl, rfl, by decide +kernel, rfl, by decide +kernel, by decide +kernel⟩
def spChk (K : PySem.W.Frag) : Sp := fun vs H Q _ => ∃ (a : Addr) (ws : List Str), vs = [.ref a] ∧ SqL K H a (ws.map V.str) ∧ (∀ x ∈ ws, x ∈ MRK) ∧ ws.length ≤ 200 ∧ ∀ H' p, Same H H' → H p = none → H' p = some (.lst (ws.map V.str)) → Q (.ref p) H'
theorem ok_chk {f f1 : Addr} {fd fd1 : FuncData} (F : Fun K "checked_words" "checked_words" sChk f fd) (T : KC K mg aN aS)
    (G1 : FnOk P w K mg base CX0 3 f1 fd1 ["thing"] spMark) (b1 : Binds K fd1 ["thing"] []) (k1 : PySem.W.keepIn K (.ref f1) = true) (m1 : mg "is_mark" = some (.ref f1)) : FnOk P w K mg base CX0 4 f fd ["words"] (spChk K) := by
  refine F.ok scChk (fun vs H Q E h => ?_) (fun cdv A outer s H vs Q E hr h => ?_)
  · obtain ⟨x, _, rfl, _⟩ := h
    rfl
  obtain ⟨a, ws, rfl, hS, hw, hl, q⟩ := h
  obtain ⟨tk, gM⟩ := T.gM
  refine ⟨_, pss_cons (ps_if (PW.pt (pw_or (pt_not (pt_val (pe_callB call_isiT rfl T.isi (by decide +kernel) (pa_cons (pv 0) (pa_cons (pe_tup (pa_cons (pe_lstT T.lst) (pa_cons (pe_tupT T.tup) pa_nil))) pa_nil)))))
      (pw_or1 (pt_cmpR op_gt (pe_callB call_len_seq rfl T.len PySem.boot_len (pa_cons (pv 0) pa_nil)) (pe_glob (v := .int 200) rfl gM ⟨_, rfl⟩) (nomark _))))) (pss_one ps_never) pss_nil)
    (pss_cons (ps_if (pt_not (pt_val (pe_callB (cr_all rfl) rfl T.all (by decide +kernel) (pa_cons (pe_lc (own := [("word", 1)]) (g := gName 1) rfl scChk.nd (pi_list (pv 0))
      (blkOk_by (N := ["words", "word"]) (sc := defScope sChk) (by decide +kernel)) (fun _ _ _ _ _ => pg_name (i := 1) scChk.nd rfl (Or.inl rfl))
      (fun _ _ _ _ _ => pts_nil) (fun _ _ _ _ _ => pe_call G1 hr rfl m1 k1 b1 .nil pass0 (pa_cons (pv 1) pa_nil))) pa_nil)))) (pss_one ps_never) pss_nil)
    (pss_one (ps_ret (pe_callTy call_list_of rfl T.lst (by decide +kernel) (pa_cons (pv 0) pa_nil))))), ?_⟩
  refine ⟨_, rfl, (by show 2 ≤ sizeLine; decide), fun p hp => ?_⟩
  have s1 := Same.new hp (.tup [.ty "list", .ty "tuple"])
  have hS1 := s1.seq hS
  refine ⟨.ref a, p, [.ty "list", .ty "tuple"], .type "list", [.type "list", .type "tuple"], true, rfl, upd_same, .cons (.ty _) (.cons (.ty _) .nil), sqL_ty hS1,
      kitAny_cons (b := true) (kit_ty (by decide +kernel)) (fun z => nomatch z) (fun _ => rfl), _, rfl, iteF ?_⟩
  refine ⟨_, rfl, a, _, rfl, .inl hS1, _, _, rfl, rfl, _, rfl, iteFF (decide_eq_false (by rw [List.length_map]; omega)) ?_⟩
  refine ⟨_, rfl, a, rfl, ⟨_, hS1⟩, fun D hN => lcL ((List.replicate ws.length true).map V.bl) (by rw [List.length_map, List.length_replicate, List.length_map]) (by rw [List.length_map]; omega) hS1 hN (fun i y x H' Q' hx hy s k => ?_) fun H' s hL => ?_⟩
  · have ey : y = .bl true := by
      obtain ⟨b, hb, e⟩ := List.mem_map.mp (List.mem_of_getElem? hy)
      rw [← e, List.eq_of_mem_replicate hb]
    rw [List.getElem?_map] at hx
    cases e : ws[i]? with
    | none => rw [e] at hx; cases hx
    | some z =>
      rw [e] at hx
      cases hx
      subst ey
      exact ⟨rfl, _, rfl, z, hw z (List.mem_of_getElem? e), rfl, fun H' s' => k H' s'⟩
  · refine ⟨D, _, rfl, SqL.of hL, _, rfl, ?_⟩
    have e : (List.replicate ws.length true).all id = true := by
      rw [List.all_eq_true]
      intro b hb
      exact List.eq_of_mem_replicate hb
    rw [e]
    refine iteF ⟨_, rfl, a, _, rfl, .inl (s.seq hS1), fun l hl2 => ?_⟩
    have hHl : H l = none := by
      cases e2 : H l with
      | none => rfl
      | some o => rw [(s1.trans s) _ _ e2] at hl2; cases hl2
    exact q _ l ((s1.trans s).trans (Same.new hl2 _)) hHl upd_same
end
end E5

end
section
set_option Elab.async false
set_option linter.all false
set_option maxRecDepth 100000
set_option maxHeartbeats 4000000
namespace E5
open PySem PySem.Spec PyProof.Rows L2
theorem pi_alt {X : Cx} {tg iter : Expr} {w1 w2 : TI} (h1 : PI X tg iter w1) (h2 : PI X tg iter w2) : PI X tg iter (fun σ H R => w1 σ H R ∨ w2 σ H R) :=
  ⟨fun pins s σ H R I h => h.elim (fun q => h1.run pins s σ H R I q) fun q => h2.run pins s σ H R I q⟩
theorem pe_alt {X : Cx} {e : Expr} {t1 t2 : TE} (h1 : PE X e t1) (h2 : PE X e t2) : PE X e (fun σ H Q => t1 σ H Q ∨ t2 σ H Q) :=
  ⟨fun pins s σ H Q I h => h.elim (fun q => h1.run pins s σ H Q I q) fun q => h2.run pins s σ H Q I q⟩
/-! ### edits as plain mathematics -/
structure Ed where
  a : Nat
  b : Nat
  ws : List Str
/-- what an edit may be: its places in order, its words marks, few enough -/
structure Ed.Ok (e : Ed) : Prop where
  le : e.a ≤ e.b
  mrk : ∀ x ∈ e.ws, x ∈ MRK
  sm : e.ws.length ≤ 200
  pl : e.b ≤ 400
/-! ### edits in the heap -/
def EdFs (e : Ed) (t : Addr) : List (Str × V) := [("first", .int e.a), ("last", .int e.b), ("words", .ref t)]
def EdH (K : PySem.W.Frag) (CE : Addr) (H : Hp) (p : Addr) (e : Ed) : Prop := ∃ dx t, H p = some (.ins CE dx (EdFs e t)) ∧ SqT K H t (e.ws.map V.str) ∧ e.Ok
theorem EdH.same {K : PySem.W.Frag} {CE p : Addr} {H H' : Hp} {e : Ed} (s : Same H H') (h : EdH K CE H p e) : EdH K CE H' p e := by
  obtain ⟨dx, t, h1, h2, h3⟩ := h
  exact ⟨dx, t, s _ _ h1, Same.tup s h2, h3⟩
/-- the class of edits -/
structure EC (K : PySem.W.Frag) (C : Addr) : Prop where
  cl : Cls K C
  nF : NoAttr K C "first"
  nL : NoAttr K C "last"
  nW : NoAttr K C "words"
/-- all but p stays -/
abbrev But (p : Addr) (H H' : Hp) : Prop := Aft H H' p
theorem But.upd {p : Addr} {H H' : Hp} {o : HO} (h : But p H H') : But p H (upd H' p o) := fun x u n q => by
  rw [upd_ne n]
  exact h x u n q
theorem But.of {p : Addr} {H H' : Hp} (s : Same H H') : But p H H' := fun x u _ q => s x u q
theorem But.tr {p : Addr} {H H' H2 : Hp} (h : But p H H') (s : Same H' H2) : But p H H2 := fun x u n q => s _ _ (h x u n q)
theorem but_tup {p : Addr} {H H' : Hp} {K : PySem.W.Frag} {a dx C0 : Addr} {fs : List (Str × V)} {xs : List V} (hp : H p = some (.ins C0 dx fs)) (h : But p H H') (hS : SqT K H a xs) : SqT K H' a xs := by
  rcases hS with (q | ⟨o, q⟩) | q
  · exact .inl (.inl (h _ _ (ne_of q hp fun z => by cases z) q))
  · exact .inl (.inr ⟨o, h _ _ (ne_of q hp fun z => by cases z) q⟩)
  · exact .inr q
theorem but_seq {p : Addr} {H H' : Hp} {K : PySem.W.Frag} {a dx C0 : Addr} {fs : List (Str × V)} {xs : List V} (hp : H p = some (.ins C0 dx fs)) (h : But p H H') (hS : SqL K H a xs) : SqL K H' a xs := by
  rcases hS with (q | ⟨o, q⟩) | q
  · exact .inl (.inl (h _ _ (ne_of q hp fun z => by cases z) q))
  · exact .inl (.inr ⟨o, h _ _ (ne_of q hp fun z => by cases z) q⟩)
  · exact .inr q
section
variable {P : Program} {w : World} {K : PySem.W.Frag} {mg : Str → Option Value} {base : Heap} {aN aS CE : Addr}
abbrev sInit : Stmt := inClass (tp 16) 0
abbrev NI : List Str := ["self", "first", "last", "words"]
abbrev NIw : List Str := ["self", "first", "last", "words", "word"]
theorem scInit : FnScope NIw NI (defScope sInit) := ⟨rfl, rfl, rfl, by decide +kernel, rfl, by decide +kernel, by decide +kernel⟩
def spInit (K : PySem.W.Frag) (CE : Addr) : Sp := fun vs H Q _ => ∃ (p dx l : Addr) (e : Ed), vs = [.ref p, .int e.a, .int e.b, .ref l] ∧ H p = some (.ins CE dx []) ∧ SqE K H l (e.ws.map V.str) ∧ e.Ok ∧
  ∀ H', But p H H' → EdH K CE H' p e → Q .non H'
/-- the comprehension's turns, over a list or a tuple of marks -/
theorem ok_init {f f1 f2 : Addr} {fd fd1 fd2 : FuncData} (F : Fun K "__init__" "Edit.__init__" sInit f fd) (T : KC K mg aN aS) (EE : EC K CE)
    (G1 : FnOk P w K mg base CX0 1 f1 fd1 ["thing"] spWhole) (b1 : Binds K fd1 ["thing"] []) (k1 : PySem.W.keepIn K (.ref f1) = true) (m1 : mg "is_whole" = some (.ref f1))
    (G2 : FnOk P w K mg base CX0 3 f2 fd2 ["thing"] spMark) (b2 : Binds K fd2 ["thing"] []) (k2 : PySem.W.keepIn K (.ref f2) = true) (m2 : mg "is_mark" = some (.ref f2)) : FnOk P w K mg base CX0 4 f fd NI (spInit K CE) := by
  refine F.ok scInit (fun vs H Q E h => ?_) (fun cdv A outer s H vs Q E hr h => ?_)
  · obtain ⟨_, _, _, _, rfl, _⟩ := h
    rfl
  obtain ⟨p, dx, l, e, rfl, hp, hS, he, q⟩ := h
  have hr1 : Room 1 _ := hr.mono (by decide)
  refine ⟨_, pss_cons (ps_if (PW.pt (pw_or (pt_not (pt_val (pe_call G1 hr1 rfl m1 k1 b1 .nil pass0 (pa_cons (pv 1) pa_nil)))) (pw_or (pt_not (pt_val (pe_call G1 hr1 rfl m1 k1 b1 .nil pass0 (pa_cons (pv 2) pa_nil))))
      (pw_or1 (pt_not (pt_chain op_le op_le pe_int (pv 1) (pv 2))))))) (pss_one ps_never) pss_nil)
    (pss_cons (ps_if (PW.pt (pw_or (pt_not (pt_val (pe_callB call_isiT rfl T.isi (by decide +kernel) (pa_cons (pv 3) (pa_cons (pe_tup (pa_cons (pe_lstT T.lst) (pa_cons (pe_tupT T.tup) pa_nil))) pa_nil)))))
      (pw_or1 (pt_not (pt_val (pe_callB (cr_all rfl) rfl T.all (by decide +kernel) (pa_cons (pe_lc (own := [("word", 4)]) (g := gName 4) rfl scInit.nd (pi_alt (pi_list (pv 3)) (pi_tup (pv 3)))
      (blkOk_by (N := NIw) (sc := defScope sInit) (by decide +kernel)) (fun _ _ _ _ _ => pg_name (i := 4) scInit.nd rfl (Or.inl rfl))
      (fun _ _ _ _ _ => pts_nil) (fun _ _ _ _ _ => pe_call G2 hr rfl m2 k2 b2 .nil pass0 (pa_cons (pv 4) pa_nil))) pa_nil))))))) (pss_one ps_never) pss_nil)
    (pss_cons (ps_fld (pv 0) (pv 1) rfl) (pss_cons (ps_fld (pv 0) (pv 2) rfl)
    (pss_one (ps_fld (pv 0) (pe_callTy call_tuple_of rfl T.tup (by decide +kernel) (pa_cons (pv 3) pa_nil)) rfl))))), ?_⟩
  refine ⟨_, rfl, _, rfl, _, rfl, iteF ⟨_, rfl, _, rfl, _, rfl, iteF ⟨_, rfl, _, _, rfl, rfl, _, rfl, iteTT (decide_eq_true (by omega)) ⟨_, rfl, _, _, rfl, rfl, _, rfl, ?_⟩⟩⟩⟩
  refine iteFF (by rw [decide_eq_true (by have := he.le; omega)]; rfl) ⟨_, rfl, (by show 2 ≤ sizeLine; decide), fun t ht => ?_⟩
  have s1 := Same.new ht (.tup [.ty "list", .ty "tuple"])
  have hS1 := hS.same s1
  have hp1 := s1 _ _ hp
  have hty : ∃ tn : String, TyX K (upd H t (.tup [.ty "list", .ty "tuple"])) (.ref l) (.type tn) ∧ PySem.W.kitAny K (.type tn) [.type "list", .type "tuple"] = some true := by
    rcases hS1 with hS1 | hS1
    · exact ⟨"list", sqL_ty hS1, kitAny_cons (b := true) (kit_ty (by decide +kernel)) (fun z => nomatch z) (fun _ => rfl)⟩
    · exact ⟨"tuple", sqT_ty hS1, kitAny_cons (b := false) (kit_ty (by decide +kernel)) (fun _ => kitAny_cons (b := true) (kit_ty (by decide +kernel)) (fun z => nomatch z) (fun _ => rfl)) (fun z => nomatch z)⟩
  obtain ⟨tn, hty1, hty2⟩ := hty
  refine ⟨.ref l, t, [.ty "list", .ty "tuple"], .type tn, [.type "list", .type "tuple"], true, rfl, upd_same, .cons (.ty _) (.cons (.ty _) .nil), hty1, hty2, _, rfl, iteF ?_⟩
  have turn : ∀ (i : Nat) (y x : V) (H' : Hp) (Q' : VK), (e.ws.map V.str)[i]? = some x → ((List.replicate e.ws.length true).map V.bl)[i]? = some y → (∀ H4, Same H' H4 → Q' y H4) → ∃ z ∈ MRK, [x] = [V.str z] ∧ ∀ H4, Same H' H4 → Q' (.bl true) H4 := fun i y x H' Q' hx hy k => by
    have ey : y = .bl true := by
      obtain ⟨b, hb, e⟩ := List.mem_map.mp (List.mem_of_getElem? hy)
      rw [← e, List.eq_of_mem_replicate hb]
    rw [List.getElem?_map] at hx
    cases e2 : e.ws[i]? with
    | none => rw [e2] at hx; cases hx
    | some z =>
      rw [e2] at hx
      cases hx
      subst ey
      exact ⟨z, he.mrk z (List.mem_of_getElem? e2), rfl, fun H' s' => k H' s'⟩
  have trues : (List.replicate e.ws.length true).all id = true := by
    rw [List.all_eq_true]
    intro b hb
    exact List.eq_of_mem_replicate hb
  rcases hS1 with hS1 | hS1
  · refine .inl ⟨_, rfl, l, rfl, ⟨_, hS1⟩, fun D hN => lcL ((List.replicate e.ws.length true).map V.bl) (by rw [List.length_map, List.length_replicate, List.length_map]) (by rw [List.length_map]; have := he.sm; omega) hS1 hN (fun i y x H' Q' hx hy s k => ?_) fun H' s hL => ?_⟩
    · obtain ⟨z, hz, ez, kz⟩ := turn i y x H' Q' hx hy k
      cases ez
      exact ⟨rfl, _, rfl, z, hz, rfl, kz⟩
    refine ⟨D, _, rfl, SqL.of hL, _, rfl, ?_⟩
    rw [trues]
    refine iteF ?_
    have hpA := s _ _ hp1
    have hlA := s.seq hS1
    have b1 : But p H (upd H' p (.ins CE dx [("first", .int e.a)])) := (But.of (s1.trans s)).upd
    refine ⟨_, rfl, _, rfl, p, CE, dx, [], rfl, hpA, EE.cl, EE.nF, (by show 0 < 1000; decide), ?_⟩
    refine ⟨_, rfl, _, rfl, p, CE, dx, _, rfl, upd_same, EE.cl, EE.nL, (by show 1 < 1000; decide), ?_⟩
    have b2 : But p H' (upd (upd H' p (.ins CE dx [("first", .int e.a)])) p (.ins CE dx [("first", .int e.a), ("last", .int e.b)])) := (But.of (Same.refl H')).upd.upd
    have hl5 := but_seq hpA b2 hlA
    refine ⟨_, rfl, l, _, rfl, .inl ⟨hl5, fun tt htt => ?_⟩⟩
    have s7 := Same.new htt (.tup (e.ws.map V.str))
    have hp7 := s7 _ _ (upd_same (H := upd H' p (.ins CE dx [("first", .int e.a)])) (a := p) (o := .ins CE dx [("first", .int e.a), ("last", .int e.b)]))
    refine ⟨_, rfl, p, CE, dx, _, rfl, hp7, EE.cl, EE.nW, (by show 2 < 1000; decide), ?_⟩
    refine q _ (((But.of (s1.trans s)).upd.upd.tr s7).upd) ⟨dx, tt, upd_same, SqT.of ?_, he⟩
    have hpt : p ≠ tt := ne_of_none (upd_same (H := upd H' p (.ins CE dx [("first", .int e.a)])) (a := p) (o := .ins CE dx [("first", .int e.a), ("last", .int e.b)])) htt
    rw [upd_ne (Ne.symm hpt), upd_same]
  · refine .inr ⟨_, rfl, l, rfl, ⟨_, hS1⟩, fun D hN => lcT ((List.replicate e.ws.length true).map V.bl) (by rw [List.length_map, List.length_replicate, List.length_map]) (by rw [List.length_map]; have := he.sm; omega) hS1 hN (fun i y x H' Q' hx hy s k => ?_) fun H' s hL => ?_⟩
    · obtain ⟨z, hz, ez, kz⟩ := turn i y x H' Q' hx hy k
      cases ez
      exact ⟨rfl, _, rfl, z, hz, rfl, kz⟩
    refine ⟨D, _, rfl, SqL.of hL, _, rfl, ?_⟩
    rw [trues]
    refine iteF ?_
    have hpA := s _ _ hp1
    have hlA := Same.tup s hS1
    have b1 : But p H (upd H' p (.ins CE dx [("first", .int e.a)])) := (But.of (s1.trans s)).upd
    refine ⟨_, rfl, _, rfl, p, CE, dx, [], rfl, hpA, EE.cl, EE.nF, (by show 0 < 1000; decide), ?_⟩
    refine ⟨_, rfl, _, rfl, p, CE, dx, _, rfl, upd_same, EE.cl, EE.nL, (by show 1 < 1000; decide), ?_⟩
    have b2 : But p H' (upd (upd H' p (.ins CE dx [("first", .int e.a)])) p (.ins CE dx [("first", .int e.a), ("last", .int e.b)])) := (But.of (Same.refl H')).upd.upd
    have hl5 := but_tup hpA b2 hlA
    refine ⟨_, rfl, l, _, rfl, .inr ⟨hl5, ?_⟩⟩
    refine ⟨_, rfl, p, CE, dx, _, rfl, upd_same, EE.cl, EE.nW, (by show 2 < 1000; decide), ?_⟩
    refine q _ ((But.of (s1.trans s)).upd.upd.upd) ⟨dx, l, upd_same, but_tup upd_same ((But.of (Same.refl _)).upd) hl5, he⟩
end
end E5

end
section
set_option Elab.async false
set_option linter.all false
set_option maxRecDepth 100000
set_option maxHeartbeats 4000000
namespace E5
open PySem PySem.Spec PyProof.Rows L2
/-! ### bool(x) by what x's truth is -/
theorem bool_new_in {prog : Program} {w : World} (x : Value) : MeetsIn prog w (Builtin.«bool.__new__» ⟨[.type "bool", x], []⟩)
    (fun A R s => wpAny (model prog w) A.in1 (truthy x) (fun b s1 => R (.ok (.ret (.bool b))) s1) (fun e s1 => R (.error e) s1) s) :=
  .of_wp fun A R s h => by
    obtain ⟨hp, g, d, tk, os⟩ := s
    have f1 := F.conv_sub_bool
    unfold Builtin.«bool.__new__»
    repeat (any_goals (first | assumption | (with_reducible refine wpAny_mono h (fun b s1 hb => ?_) fun _ _ z => z) | wp_step))
    all_goals exact ⟨_, rfl, hb⟩
theorem call_bool_in {prog : Program} {w : World} {A : Around} {E : Value → Shared → Prop} {s : Shared} {x : Value} {Q : Value → Shared → Prop} (h : wpAny (model prog w) A.in1.in1 (truthy x) (fun b s1 => Q (.bool b) s1) E s) :
    wpAny (model prog w) A (call (.type "bool") [x]) Q E s := by
  refine callType_newIn F.called_bool F.newNe_bool (F.typeCall_bool_1 x) (F.newCall_bool_1 x) (fun obj => F.args_object_init_2 obj x) F.entry_bool_new (bool_new_in x) ?_
  show wpAny (model prog w) A.in1.in1 (truthy x) _ _ _
  exact wpAny_mono h (fun b s1 hb => ⟨rfl, hb⟩) fun _ _ z => z
/-! ### != of two objects: the default of __ne__ asks the own __eq__ -/
theorem one_bind (self : Value) : bindSpecial (.builtin "object.__ne__") self = pure (.builtin "object.__ne__", [self]) :=
  (Slot.of (T := "object") (name := "__ne__") (owner := "object") (n := "__ne__") (by rw [typeLookup_type, builtinLookup_eq_fast]; kernel_rfl) (by decide +kernel) (by decide +kernel) (by decide +kernel)
    (.inl (by decide +kernel)) (by rw [isSubtype_type]; kernel_rfl)).bind self
theorem one_plain : plainId "object.__ne__" = true := by decide +kernel
section
variable {prog : Program} {w : World} {A : Around} {E : Value → Shared → Prop} {s : Shared} {K : PySem.W.Frag} {C x f : Addr} {ox : Obj} {od : Option Obj} {y : Value}
theorem ifBound_ne {Q : Option Value → Shared → Prop} (X : K.In s.heap) (I : PySem.W.InstAt s.heap x ox C od) (hs : PySem.W.findIn K (.ref C) "__ne__" = some (some (.builtin "object.__ne__")))
    (h : wpAny (model prog w) A (call (.builtin "object.__ne__") [.ref x, y]) (fun v => Q (some v)) E s) : wpAny (model prog w) A (callSpecialIfBound? (.ref x) "__ne__" [y]) Q E s := by
  simp only [callSpecialIfBound?, bindSpecialIfBound?, one_bind]
  refine wpAny_holding (wpAny_bind (wpAny_bind (wpAny_bind (I.type.here ((PySem.W.looks_findIn X hs).here ?_)))))
  refine wpAny_bind (wpAny_askSetting (wpAny_ite ?_))
  have fin : wpAny (model prog w) A (call (.builtin "object.__ne__") ([.ref x] ++ [y]) >>= fun v => pure (some v)) Q E s := wpAny_bind (wpAny_mono h (fun v s' h' => wpAny_pure h') fun _ _ h' => h')
  simp only [one_bind]
  split
  · exact wpAny_bind (wpAny_pure (by exact wpAny_pure (by exact fin)))
  · exact wpAny_tryCatch (wpAny_bind (wpAny_pure (by exact wpAny_pure (by exact fin))))
theorem check_ne {Q : Unit → Shared → Prop} (X : K.In s.heap) (I : PySem.W.InstAt s.heap x ox C od) (hob : PySem.W.subIn K (.ref C) (.type "object") = some true) (hq : Q () s) :
    wpAny (model prog w) A (checkBuiltinCall "object.__ne__" ⟨[.ref x, y], []⟩) Q E s := by
  have ha := F.cmpArgs_ne (.ref x) y
  simp only [checkBuiltinCall, F.cmpKind_ne, F.cmpSplit_ne]
  refine wpAny_bind (wpAny_bind (I.type.here ((PySem.W.looks_subIn X hob).here ?_)))
  rw [if_neg (by simp)]
  cases hsig : Manifest.signature? "object.__ne__" with
  | none => exact wpAny_pure hq
  | some sig =>
    simp only [argsOk, hsig] at ha
    have h2 : Bind.checkArgs "object.__ne__" sig ⟨[.ref x, y], []⟩ = pure () := ha
    show wpAny (model prog w) A (Bind.checkArgs "object.__ne__" sig ⟨[.ref x, y], []⟩) Q E _
    rw [h2]
    exact wpAny_pure hq
theorem body_ne (X : K.In s.heap) (I : PySem.W.InstAt s.heap x ox C od) (hs : PySem.W.findIn K (.ref C) "__eq__" = some (some (.ref f))) (hf : PySem.W.isFn K (.ref f) = true) (hu : A.units < cLine) {Q : Fin → Shared → Prop}
    (hcall : wpAny (model prog w) A (call (.ref f) [.ref x, y]) (fun v s' => ∃ b, v = .bool b ∧ Q (.done (.ret (.bool (!b)))) s') E s) :
    wpAny (model prog w) A (Builtin.«object.__ne__» ⟨[.ref x, y], []⟩) Q E s := by
  unfold Builtin.«object.__ne__»
  refine wpAny_bind (m := slotArgs "__ne__" 1 ⟨[.ref x, y], []⟩) (wpAny_pure ?_)
  dsimp only
  refine wpAny_bind (wpAny_cRoomFor hu ?_)
  refine wpAny_bind (m := callSpecialIfBound? (.ref x) "__eq__" [y]) (PySem.W.ifBound_K X I hs hf (wpAny_mono hcall (fun v s' hv => ?_) fun _ _ e => e))
  obtain ⟨b, rfl, hq⟩ := hv
  dsimp only
  refine wpAny_bind (wpAny_truthy_bool ?_)
  exact wpAny_pure hq
end
section
variable {X : Cx} {CE f : Addr} {fd : FuncData} {k : Nat} {ps : List Str} {sp : Sp}
/-- bool(a tuple) -/
theorem call_boolT : CallR X (.type "bool") (fun xs H Q => ∃ (a : Addr) (zs : List V), xs = [.ref a] ∧ SqT X.K H a zs ∧ zs.length ≤ 1000 ∧ Q (.bl (!zs.isEmpty)) H) := by
  intro pins s σ H xs us Q I r h
  obtain ⟨a, zs, rfl, hq, hl, q⟩ := h
  obtain rfl := Vals.ref1 r
  obtain ⟨its, rv, pl, hz⟩ := I.tuple hq
  have hlen := rv.length
  have hl63 := line63
  refine call_bool_in (truthy_tuple pl (by simp only [List.size_toArray]; omega) ?_)
  refine ⟨.bl (!zs.isEmpty), H, I.tok _, ?_, q⟩
  rw [isEmpty_of rv]
  rfl
/-- a call of a def of the module, here or one or two further in -/
theorem call_own {A : Around} {pins : List (Addr × Obj)} {σ : L2.St} {H : Hp} {s : Shared} {Q : VK} {us : List Value} {vs : List V} {E : Value → Shared → Prop} (F : FnOk X.prog X.w X.K X.mg X.base CX0 k f fd ps sp) (hr : Room k A) (hb : L2.Binds X.K fd ps [])
    (I : Inv X pins σ H s) (hA : Env0 X.prog X.w X.K X.mg X.base A X.stack s H) (r : Vals vs us) (h : sp vs H Q (fun _ _ _ => False)) : wpAny (model X.prog X.w) A (call (.ref f) us) (EP X pins σ Q) E s := by
  have hl := F.len _ _ _ _ h
  refine wpAny_call (codeAny_mono (F.run A X.stack s H ⟨us, []⟩ us vs _ _ hr hA (by
    have := hb s us I.kIn (by rw [List.append_nil, ← r.length]; exact hl)
    simpa using this) r h) fun r s' hq => ?_)
  cases r with
  | error e => exact False.elim hq
  | ok fl =>
    cases fl with
    | ret z => exact I.after hq
    | next => exact False.elim hq
    | brk => exact False.elim hq
    | cont => exact False.elim hq
/-- an instance of the class at C -/
def InsI (H : Hp) (a C : Addr) : Prop := ∃ dx fs, H a = some (.ins C dx fs)
theorem insI_at {pins : List (Addr × Obj)} {σ : L2.St} {H : Hp} {s : Shared} {a C : Addr} (I : Inv X pins σ H s) (h : InsI H a C) : ∃ ox od, PySem.W.InstAt s.heap a ox C od := by
  obtain ⟨dx, fs, h⟩ := h
  obtain ⟨mA, O, _⟩ := ins_get I.hok h
  obtain ⟨od, J, _⟩ := O.look
  exact ⟨_, _, J⟩
/-- what x + an int asks of x's class -/
structure AddK (K : PySem.W.Frag) (C f : Addr) : Prop where
  first : PySem.W.selfFirst K C = true
  add : PySem.W.findIn K (.ref C) "__add__" = some (some (.ref f))
  fn : PySem.W.isFn K (.ref f) = true
  radd : PySem.W.findIn K (.ref C) "__radd__" = some none
  intA : ∃ fo, PySem.W.findIn K (.type "int") "__add__" = some fo
  intR : ∃ ro, PySem.W.findIn K (.type "int") "__radd__" = some ro
  sub : PySem.W.subIn K (.type "int") (.ref C) = some false
/-- x + k, x an instance with an own __add__, k an int -/
theorem op_addI (D : AddK X.K CE f) (F : FnOk X.prog X.w X.K X.mg X.base CX0 k f fd ps sp) (hb : L2.Binds X.K fd ps []) (hr : Room k X.A) :
    OpR X (binaryOp .Add) (fun x y H Q => ∃ (a : Addr) (i : Int), x = .ref a ∧ y = .int i ∧ InsI H a CE ∧ sp [.ref a, .int i] H (fun v H' => ∃ p, v = .ref p ∧ Q v H') (fun _ _ _ => False)) := by
  intro pins s σ H x y v u Q I rx ry h
  obtain ⟨a, i, rfl, rfl, ho, q⟩ := h
  cases (show v = Value.ref a from rx)
  obtain ⟨t, rfl⟩ : ∃ t, u = Value.int i t := ry
  obtain ⟨ox, od, J⟩ := insI_at I ho
  obtain ⟨m, hF⟩ := I.fr
  obtain ⟨fo, hfo⟩ := D.intA
  obtain ⟨ro, hro⟩ := D.intR
  refine PySem.W.ksp_binT (T := "int") (fo := fo) (ro := ro) (rc := none) hF I.ok.mod.kin J rfl D.first D.add D.fn D.radd (.inl rfl) hfo hro D.sub ?_
  refine wpAny_mono (call_own (us := [.ref a, .int i t]) (vs := [.ref a, .int i]) F hr hb I I.env0 (.cons rfl (.cons ⟨t, rfl⟩ .nil)) q) (fun z s' hz => ?_) fun _ _ e => e
  obtain ⟨v', H', I', rz, p, rfl, hQ⟩ := hz
  cases (show z = Value.ref p from rz)
  exact ⟨.ref p, H', I', rfl, hQ⟩
/-- len(x), x an instance with an own __len__ -/
theorem call_lenI (hs : PySem.W.findIn X.K (.ref CE) "__len__" = some (some (.ref f))) (hf : PySem.W.isFn X.K (.ref f) = true) (F : FnOk X.prog X.w X.K X.mg X.base CX0 k f fd ps sp) (hb : L2.Binds X.K fd ps []) (hr : Room (k + 1) X.A) :
    CallR X (.builtin "len") (fun xs H Q => ∃ (a : Addr), xs = [.ref a] ∧ InsI H a CE ∧ sp [.ref a] H (fun v H' => ∃ n : Nat, v = .int n ∧ n ≤ 1000 ∧ Q v H') (fun _ _ _ => False)) := by
  intro pins s σ H xs us Q I r h
  obtain ⟨a, rfl, ho, q⟩ := h
  obtain rfl := Vals.ref1 r
  obtain ⟨ox, od, J⟩ := insI_at I ho
  obtain ⟨m, hF⟩ := I.fr
  refine PySem.W.len_K hF I.ok.mod.kin J hs hf ?_
  refine wpAny_mono (call_own (us := [.ref a]) (vs := [.ref a]) F hr.in1 hb I I.env0.in1 (.cons rfl .nil) q) (fun z s' hz => ?_) fun _ _ e => e
  obtain ⟨v', H', I', rz, n, rfl, hn, hQ⟩ := hz
  obtain ⟨t, rfl⟩ : ∃ t, z = Value.int n t := rz
  exact ⟨⟨by omega, by omega⟩, .int n, H', I'.tok _, ⟨_, rfl⟩, hQ⟩
/-- bool(x), x an instance with an own __bool__ -/
theorem call_boolI (hs : PySem.W.findIn X.K (.ref CE) "__bool__" = some (some (.ref f))) (hf : PySem.W.isFn X.K (.ref f) = true) (F : FnOk X.prog X.w X.K X.mg X.base CX0 k f fd ps sp) (hb : L2.Binds X.K fd ps []) (hr : Room (k + 2) X.A) :
    CallR X (.type "bool") (fun xs H Q => ∃ (a : Addr), xs = [.ref a] ∧ InsI H a CE ∧ sp [.ref a] H (fun v H' => ∃ b, v = .bl b ∧ Q v H') (fun _ _ _ => False)) := by
  intro pins s σ H xs us Q I r h
  obtain ⟨a, rfl, ho, q⟩ := h
  obtain rfl := Vals.ref1 r
  obtain ⟨ox, od, J⟩ := insI_at I ho
  obtain ⟨m, hF⟩ := I.fr
  refine call_bool_in (PySem.W.truthy_K hF I.ok.mod.kin J hs hf ?_)
  refine wpAny_mono (call_own (us := [.ref a]) (vs := [.ref a]) F hr.in1.in1 hb I I.env0.in1.in1 (.cons rfl .nil) q) (fun z s' hz => ?_) fun _ _ e => e
  obtain ⟨v', H', I', rz, b, rfl, hQ⟩ := hz
  cases (show z = Value.bool b from rz)
  exact ⟨.bl b, H', I', rfl, hQ⟩
/-- x != y of two instances with an own __eq__ and no own __ne__ -/
theorem op_neI (hs : PySem.W.findIn X.K (.ref CE) "__eq__" = some (some (.ref f))) (hf : PySem.W.isFn X.K (.ref f) = true) (hn : PySem.W.findIn X.K (.ref CE) "__ne__" = some (some (.builtin "object.__ne__")))
    (hob : PySem.W.subIn X.K (.ref CE) (.type "object") = some true) (F : FnOk X.prog X.w X.K X.mg X.base CX0 k f fd ps sp) (hb : L2.Binds X.K fd ps []) (hr : Room (k + 2) X.A) :
    OpR X (compareOp .NotEq) (fun x y H Q => ∃ (a b : Addr), x = .ref a ∧ y = .ref b ∧ InsI H a CE ∧ InsI H b CE ∧ sp [.ref a, .ref b] H (fun v H' => ∃ c, v = .bl c ∧ Q (.bl (!c)) H') (fun _ _ _ => False)) := by
  intro pins s σ H x y v u Q I rx ry h
  obtain ⟨a, b, rfl, rfl, ho, ho2, q⟩ := h
  cases (show v = Value.ref a from rx)
  cases (show u = Value.ref b from ry)
  show wpAny (model X.prog X.w) X.A (richCompare .NotEq (.ref a) (.ref b)) (EP X pins σ Q) X.xe s
  have KX := I.kIn
  obtain ⟨ox, od, J⟩ := insI_at I ho
  obtain ⟨ox2, od2, J2⟩ := insI_at I ho2
  unfold richCompare
  simp only [oneThing_ref]
  refine wpAny_holding (wpAny_bind (wpAny_cRoomFor hr.units0 ?_))
  refine wpAny_bind (J.type.here (wpAny_bind (J2.type.here ?_)))
  rw [if_neg (by simp)]
  refine wpAny_bind (wpAny_pure ?_)
  simp only [Bool.false_eq_true, if_false]
  refine wpAny_bind ?_
  unfold tryCompare
  refine wpAny_bind (m := callSpecialIfBound? (.ref a) "__ne__" [.ref b]) (ifBound_ne KX J hn ?_)
  refine wpAny_call (codeAny_call_builtin one_plain PySem.F.cmpEntry_ne (check_ne KX J hob (body_ne KX J hs hf (by have := hr.units0; have := hr.un; show X.A.units + 1 < cLine; omega) ?_)))
  refine wpAny_mono (call_own (us := [.ref a, .ref b]) (vs := [.ref a, .ref b]) F (hr.mono (Nat.le_succ _)).in1 hb I I.env0.in1 (.cons rfl (.cons rfl .nil)) q) (fun z s' hz => ?_) fun _ _ e => e
  obtain ⟨v', H', I', rz, c, rfl, hQ⟩ := hz
  cases (show z = Value.bool c from rz)
  refine ⟨c, rfl, ?_⟩
  show wpAny _ _ _ _ _ s'
  exact wpAny_pure (wpAny_pure ⟨.bl (!c), H', I', rfl, hQ⟩)
end
end E5

end
section
set_option Elab.async false
set_option linter.all false
set_option maxRecDepth 100000
set_option maxHeartbeats 4000000
namespace E5
open PySem PySem.Spec PyProof.Rows L2
/-! ### what edits do, as plain mathematics -/
def app (e : Ed) (l : List Str) : List Str := l.take e.a ++ e.ws ++ l.drop e.b
def und (e : Ed) (l : List Str) : Ed := ⟨e.a, e.a + e.ws.length, (l.take e.b).drop e.a⟩
theorem six (n a : Nat) (z : Int) : HT.sIx n z.toNat (some (a : Int)) = min a n := by
  unfold HT.sIx
  simp only [Int.toNat_natCast]
  rw [if_neg (by omega)]
theorem six0 (n d a : Nat) : HT.sIx n d (some (a : Int)) = min a n := by
  unfold HT.sIx
  simp only [Int.toNat_natCast]
  rw [if_neg (by omega)]
theorem cut_to (xs : List V) (i : Nat) (h : i ≤ xs.length) : cutV xs none (some (i : Int)) = xs.take i := by
  unfold cutV
  rw [six0, show HT.sIx xs.length 0 none = 0 from rfl, List.drop_zero, Nat.sub_zero, Nat.min_eq_left h]
theorem cut_from (xs : List V) (i : Nat) (h : i ≤ xs.length) : cutV xs (some (i : Int)) none = xs.drop i := by
  unfold cutV
  rw [six0, show HT.sIx xs.length xs.length none = xs.length from rfl, Nat.min_eq_left h, List.take_of_length_le (by rw [List.length_drop]; omega)]
theorem cut_mid (xs : List V) (i j : Nat) (h : i ≤ j) (h2 : j ≤ xs.length) : cutV xs (some (i : Int)) (some (j : Int)) = (xs.take j).drop i := by
  unfold cutV
  rw [six0, six0, Nat.min_eq_left h2, Nat.min_eq_left (by omega), List.drop_take]
theorem fresh_of {H H' : Hp} {p : Addr} (s : Same H H') (h : H' p = none) : H p = none := by
  cases e : H p with
  | none => rfl
  | some o => rw [s _ _ e] at h; cases h
/-- words of the heap: marks, few -/
structure WsL (K : PySem.W.Frag) (H : Hp) (l : Addr) (ws : List Str) : Prop where
  at_ : SqL K H l (ws.map V.str)
  mrk : ∀ x ∈ ws, x ∈ MRK
  sm : ws.length ≤ 200
theorem WsL.same {K : PySem.W.Frag} {H H' : Hp} {l : Addr} {ws : List Str} (s : Same H H') (h : WsL K H l ws) : WsL K H' l ws := ⟨s.seq h.at_, h.mrk, h.sm⟩
section
variable {P : Program} {w : World} {K : PySem.W.Frag} {mg : Str → Option Value} {base : Heap} {aN aS CE : Addr}
abbrev sLenM : Stmt := inClass (tp 16) 2
theorem scLenM : FnScope ["self"] ["self"] (defScope sLenM) := ⟨rfl, rfl, rfl, by decide +kernel, rfl, by decide +kernel, by decide +kernel⟩
def spLenM (K : PySem.W.Frag) (CE : Addr) : Sp := fun vs H Q _ => ∃ (p : Addr) (e : Ed), vs = [.ref p] ∧ EdH K CE H p e ∧ Q (.int e.ws.length) H
theorem ok_lenm {f : Addr} {fd : FuncData} (F : Fun K "__len__" "Edit.__len__" sLenM f fd) (T : KC K mg aN aS) (EE : EC K CE) : FnOk P w K mg base CX0 1 f fd ["self"] (spLenM K CE) := by
  refine F.ok scLenM (fun vs H Q E h => ?_) (fun cdv A outer s H vs Q E hr h => ?_)
  · obtain ⟨_, _, rfl, _⟩ := h
    rfl
  obtain ⟨p, e, rfl, ⟨dx, t, hp, hS, he⟩, q⟩ := h
  refine ⟨_, pss_one (ps_ret (pe_callB call_len_seq rfl T.len PySem.boot_len (pa_cons (pe_fld (pv 0) rfl) pa_nil))), ?_⟩
  refine ⟨_, rfl, p, CE, dx, _, .ref t, rfl, hp, EE.cl, EE.nW, rfl, t, _, rfl, .inr hS, ?_⟩
  rw [List.length_map]
  exact q
abbrev sBoolM : Stmt := inClass (tp 16) 3
theorem scBoolM : FnScope ["self"] ["self"] (defScope sBoolM) := ⟨rfl, rfl, rfl, by decide +kernel, rfl, by decide +kernel, by decide +kernel⟩
def edB (e : Ed) : Bool := !e.ws.isEmpty || decide (e.a < e.b)
def spBoolM (K : PySem.W.Frag) (CE : Addr) : Sp := fun vs H Q _ => ∃ (p : Addr) (e : Ed), vs = [.ref p] ∧ EdH K CE H p e ∧ Q (.bl (edB e)) H
theorem ok_boolm {f : Addr} {fd : FuncData} (F : Fun K "__bool__" "Edit.__bool__" sBoolM f fd) (T : KC K mg aN aS) (EE : EC K CE) : FnOk P w K mg base CX0 1 f fd ["self"] (spBoolM K CE) := by
  refine F.ok scBoolM (fun vs H Q E h => ?_) (fun cdv A outer s H vs Q E hr h => ?_)
  · obtain ⟨_, _, rfl, _⟩ := h
    rfl
  obtain ⟨p, e, rfl, ⟨dx, t, hp, hS, he⟩, q⟩ := h
  refine ⟨_, pss_one (ps_ret (pe_or (pe_callTy call_boolT rfl T.bool (by decide +kernel) (pa_cons (pe_fld (pv 0) rfl) pa_nil))
    (pe_one (pe_callTy call_bool1 rfl T.bool (by decide +kernel) (pa_cons (pe_cmpR op_lt (pe_fld (pv 0) rfl) (pe_fld (pv 0) rfl) (nomark _)) pa_nil))))), ?_⟩
  refine ⟨_, rfl, p, CE, dx, _, .ref t, rfl, hp, EE.cl, EE.nW, rfl, t, _, rfl, hS, (by rw [List.length_map]; have := he.sm; omega), _, rfl, ?_⟩
  have e1 : (!(e.ws.map V.str).isEmpty) = !e.ws.isEmpty := by cases e.ws <;> rfl
  rw [e1]
  have e2 : edB e = (!e.ws.isEmpty || decide ((e.a : Int) < (e.b : Int))) := by
    unfold edB
    congr 1
    by_cases h : e.a < e.b
    · rw [decide_eq_true h, decide_eq_true (by omega)]
    · rw [decide_eq_false h, decide_eq_false (by omega)]
  rw [e2] at q
  cases hb : (!e.ws.isEmpty) with
  | true =>
    rw [hb] at q
    exact iteT q
  | false =>
    rw [hb, Bool.false_or] at q
    refine iteF ⟨_, rfl, p, CE, dx, _, .int e.a, rfl, hp, EE.cl, EE.nF, rfl, _, rfl, p, CE, dx, _, .int e.b, rfl, hp, EE.cl, EE.nL, rfl, _, _, rfl, rfl, .inr ⟨_, rfl, q⟩⟩
abbrev sGrow : Stmt := inClass (tp 16) 6
theorem scGrow : FnScope ["self"] ["self"] (defScope sGrow) := ⟨rfl, rfl, rfl, by decide +kernel, rfl, by decide +kernel, by decide +kernel⟩
def grow (e : Ed) : Int := (e.ws.length : Int) - ((e.b : Int) - (e.a : Int))
def spGrow (K : PySem.W.Frag) (CE : Addr) : Sp := fun vs H Q _ => ∃ (p : Addr) (e : Ed), vs = [.ref p] ∧ EdH K CE H p e ∧ Q (.int (grow e)) H
theorem ok_grow {f : Addr} {fd : FuncData} (F : Fun K "growth" "Edit.growth" sGrow f fd) (T : KC K mg aN aS) (EE : EC K CE) : FnOk P w K mg base CX0 1 f fd ["self"] (spGrow K CE) := by
  refine F.ok scGrow (fun vs H Q E h => ?_) (fun cdv A outer s H vs Q E hr h => ?_)
  · obtain ⟨_, _, rfl, _⟩ := h
    rfl
  obtain ⟨p, e, rfl, ⟨dx, t, hp, hS, he⟩, q⟩ := h
  refine ⟨_, pss_one (ps_ret (pe_op op_sub (pe_callB call_len_seq rfl T.len PySem.boot_len (pa_cons (pe_fld (pv 0) rfl) pa_nil)) (pe_op op_sub (pe_fld (pv 0) rfl) (pe_fld (pv 0) rfl)))), ?_⟩
  refine ⟨_, rfl, p, CE, dx, _, .ref t, rfl, hp, EE.cl, EE.nW, rfl, t, _, rfl, .inr hS, ?_⟩
  refine ⟨_, rfl, p, CE, dx, _, .int e.b, rfl, hp, EE.cl, EE.nL, rfl, _, rfl, p, CE, dx, _, .int e.a, rfl, hp, EE.cl, EE.nF, rfl, _, _, rfl, rfl, _, _, rfl, rfl, ?_⟩
  rw [List.length_map]
  exact q
abbrev sFit : Stmt := inClass (tp 16) 8
theorem scFit : FnScope ["self", "words", "told"] ["self", "words"] (defScope sFit) := ⟨rfl, rfl, rfl, by decide +kernel, rfl, by decide +kernel, by decide +kernel⟩
def spFit (K : PySem.W.Frag) (CE : Addr) : Sp := fun vs H Q _ => ∃ (p l : Addr) (e : Ed) (ws : List Str), vs = [.ref p, .ref l] ∧ EdH K CE H p e ∧ WsL K H l ws ∧ e.b ≤ ws.length ∧
  ∀ H' q, Same H H' → H q = none → H' q = some (.lst (ws.map V.str)) → Q (.ref q) H'
theorem ok_fit {f f1 : Addr} {fd fd1 : FuncData} (F : Fun K "_fitting" "Edit._fitting" sFit f fd) (T : KC K mg aN aS) (EE : EC K CE)
    (G1 : FnOk P w K mg base CX0 4 f1 fd1 ["words"] (spChk K)) (b1 : Binds K fd1 ["words"] []) (k1 : PySem.W.keepIn K (.ref f1) = true) (m1 : mg "checked_words" = some (.ref f1)) : FnOk P w K mg base CX0 5 f fd ["self", "words"] (spFit K CE) := by
  refine F.ok scFit (fun vs H Q E h => ?_) (fun cdv A outer s H vs Q E hr h => ?_)
  · obtain ⟨_, _, _, _, rfl, _⟩ := h
    rfl
  obtain ⟨p, l, e, ws, rfl, hE, hw, hb, q⟩ := h
  refine ⟨_, pss_cons (ps_set (i := 2) scFit.nd rfl (Or.inl rfl) (pe_call G1 hr rfl m1 k1 b1 .nil pass0 (pa_cons (pv 1) pa_nil)))
    (pss_cons (ps_if (pt_cmpR op_lt (pe_callB call_len_seq rfl T.len PySem.boot_len (pa_cons (pv 2) pa_nil)) (pe_fld (pv 0) rfl) (nomark _)) (pss_one ps_never) pss_nil)
    (pss_one (ps_ret (pv 2)))), ?_⟩
  refine ⟨_, rfl, l, ws, rfl, hw.at_, hw.mrk, hw.sm, fun H' t s1 hn ht => ?_⟩
  obtain ⟨dx, tt, hp, hS, he⟩ := hE.same s1
  refine ⟨_, rfl, t, _, rfl, .inl (SqL.of ht), _, rfl, p, CE, dx, _, .int e.b, rfl, hp, EE.cl, EE.nL, rfl, _, _, rfl, rfl, _, rfl, iteFF (decide_eq_false (by rw [List.length_map]; omega)) ⟨_, rfl, q H' t s1 hn ht⟩⟩
abbrev sCallM : Stmt := inClass (tp 16) 4
theorem scCallM : FnScope ["self", "words", "told"] ["self", "words"] (defScope sCallM) := ⟨rfl, rfl, rfl, by decide +kernel, rfl, by decide +kernel, by decide +kernel⟩
def spCallM (K : PySem.W.Frag) (CE : Addr) : Sp := fun vs H Q _ => ∃ (p l : Addr) (e : Ed) (ws : List Str), vs = [.ref p, .ref l] ∧ EdH K CE H p e ∧ WsL K H l ws ∧ e.b ≤ ws.length ∧
  ∀ H' q, Same H H' → H q = none → H' q = some (.lst ((app e ws).map V.str)) → Q (.ref q) H'
theorem ok_callm {f f1 : Addr} {fd fd1 : FuncData} (F : Fun K "__call__" "Edit.__call__" sCallM f fd) (T : KC K mg aN aS) (EE : EC K CE)
    (M1 : Meth K CE "_fitting" f1) (G1 : FnOk P w K mg base CX0 5 f1 fd1 ["self", "words"] (spFit K CE)) (b1 : Binds K fd1 ["self", "words"] []) : FnOk P w K mg base CX0 6 f fd ["self", "words"] (spCallM K CE) := by
  refine F.ok scCallM (fun vs H Q E h => ?_) (fun cdv A outer s H vs Q E hr h => ?_)
  · obtain ⟨_, _, _, _, rfl, _⟩ := h
    rfl
  obtain ⟨p, l, e, ws, rfl, hE, hw, hb, q⟩ := h
  refine ⟨_, pss_cons (ps_set (i := 2) scCallM.nd rfl (Or.inl rfl) (pe_meth (pv 0) EE.cl M1 G1 hr b1 .nil pass0 (pa_cons (pv 1) pa_nil)))
    (pss_one (ps_ret (pe_op op_cat (pe_op op_cat (pe_slice (r := rSlL K) sl_list (pv 2) po_none (po_some (pe_fld (pv 0) rfl))) (pe_callTy call_list_of rfl T.lst (by decide +kernel) (pa_cons (pe_fld (pv 0) rfl) pa_nil)))
      (pe_slice (r := rSlL K) sl_list (pv 2) (po_some (pe_fld (pv 0) rfl)) po_none)))), ?_⟩
  obtain ⟨dx, tt, hp, hS, he⟩ := id hE
  refine ⟨_, rfl, p, dx, _, rfl, hp, rfl, _, rfl, p, l, e, ws, rfl, hE, hw, hb, fun H1 t s1 hn ht => ?_⟩
  obtain ⟨dx1, tt1, hp1, hS1, _⟩ := hE.same s1
  have ha := he.le
  refine ⟨_, rfl, _, rfl, p, CE, dx1, _, .int e.a, rfl, hp1, EE.cl, EE.nF, rfl, e.a, rfl, t, _, rfl, SqL.of ht, fun l1 hl1 => ?_⟩
  have s2 := Same.new hl1 (.lst (cutV (ws.map V.str) none (some (e.a : Int))))
  have c1 : upd H1 l1 (.lst (cutV (ws.map V.str) none (some (e.a : Int)))) l1 = some (.lst ((ws.take e.a).map V.str)) := by
    rw [upd_same, cut_to _ _ (by rw [List.length_map]; omega), List.map_take]
  generalize upd H1 l1 (.lst (cutV (ws.map V.str) none (some (e.a : Int)))) = H2 at *
  have sz : ∀ {n : Nat}, n ≤ 1000 → n ≤ sizeLine := fun h => small_le h
  have hw2 := hw.sm
  have he2 := he.sm
  refine ⟨_, rfl, p, CE, dx1, _, .ref tt1, rfl, s2 _ _ hp1, EE.cl, EE.nW, rfl, tt1, _, rfl, .inr (Same.tup s2 hS1), fun l2 hl2 => ?_⟩
  have s3 := Same.new hl2 (.lst (e.ws.map V.str))
  have c2 : upd H2 l2 (.lst (e.ws.map V.str)) l2 = some (.lst (e.ws.map V.str)) := upd_same
  have c1' := s3 _ _ c1
  generalize upd H2 l2 (.lst (e.ws.map V.str)) = H3 at *
  refine ⟨l1, l2, _, _, rfl, rfl, c1', c2, sz (by rw [List.length_map, List.length_map, List.length_take]; omega), fun l3 hl3 => ?_⟩
  have s4 := Same.new hl3 (.lst ((ws.take e.a).map V.str ++ e.ws.map V.str))
  have c3 : upd H3 l3 (.lst ((ws.take e.a).map V.str ++ e.ws.map V.str)) l3 = some (.lst ((ws.take e.a).map V.str ++ e.ws.map V.str)) := upd_same
  generalize upd H3 l3 (.lst ((ws.take e.a).map V.str ++ e.ws.map V.str)) = H4 at *
  have s14 := (s2.trans s3).trans s4
  refine ⟨_, rfl, _, rfl, p, CE, dx1, _, .int e.b, rfl, s14 _ _ hp1, EE.cl, EE.nL, rfl, e.b, rfl, t, _, rfl, SqL.of (s14 _ _ ht), fun l4 hl4 => ?_⟩
  have s5 := Same.new hl4 (.lst (cutV (ws.map V.str) (some (e.b : Int)) none))
  have c4 : upd H4 l4 (.lst (cutV (ws.map V.str) (some (e.b : Int)) none)) l4 = some (.lst ((ws.drop e.b).map V.str)) := by
    rw [upd_same, cut_from _ _ (by rw [List.length_map]; omega), List.map_drop]
  have c3' := s5 _ _ c3
  generalize upd H4 l4 (.lst (cutV (ws.map V.str) (some (e.b : Int)) none)) = H5 at *
  refine ⟨l3, l4, _, _, rfl, rfl, c3', c4, sz (by rw [List.length_append, List.length_map, List.length_map, List.length_map, List.length_take, List.length_drop]; omega), fun l5 hl5 => ?_⟩
  have s6 := Same.new hl5 (.lst (((ws.take e.a).map V.str ++ e.ws.map V.str) ++ (ws.drop e.b).map V.str))
  have sA := s1.trans (s14.trans s5)
  refine q _ l5 (sA.trans s6) (fresh_of sA hl5) ?_
  rw [upd_same]
  unfold app
  rw [List.map_append, List.map_append]
/-! ### edits are made -/
/-- what making an edit asks and gives -/
structure MkE (P : Program) (w : World) (K : PySem.W.Frag) (mg : Str → Option Value) (base : Heap) (CE fI : Addr) (fdI : FuncData) : Prop where
  M : Mk K CE fI
  F : FnOk P w K mg base CX0 4 fI fdI NI (spInit K CE)
  b : L2.Binds K fdI NI []
  m : mg "Edit" = some (.ref CE)
theorem mk_ed {Q : VK} {E : XK} {l : Addr} {e : Ed} {H : Hp} (hS : SqE K H l (e.ws.map V.str)) (he : e.Ok) (q : ∀ H' x, Same H H' → H x = none → EdH K CE H' x e → Q (.ref x) H') :
    ∀ x dx, H x = none → H dx = none → dx ≠ x → spInit K CE (.ref x :: ([.int e.a, .int e.b, .ref l] ++ [])) (upd (upd H dx (.own x)) x (.ins CE dx [])) (fun v H2 => v = .non ∧ Q (.ref x) H2) E := by
  intro x dx hx hdx hne
  have s1 : Same H (upd (upd H dx (.own x)) x (.ins CE dx [])) := (Same.new hdx _).trans (Same.new (by rw [upd_ne (Ne.symm hne)]; exact hx) _)
  refine ⟨x, dx, l, e, rfl, upd_same, hS.same s1, he, fun H' hB hE => ⟨rfl, q H' x (fun b o hb => hB _ _ (fun z => ?_) (s1 _ _ hb)) hx hE⟩⟩
  rw [z, hx] at hb
  cases hb
theorem mk_edI {Q : VK} {E : XK} {l : Addr} {i j : Int} {e : Ed} {H : Hp} (hi : i = e.a) (hj : j = e.b) (hS : SqE K H l (e.ws.map V.str)) (he : e.Ok) (q : ∀ H' x, Same H H' → H x = none → EdH K CE H' x e → Q (.ref x) H') :
    ∀ x dx, H x = none → H dx = none → dx ≠ x → spInit K CE (.ref x :: ([.int i, .int j, .ref l] ++ [])) (upd (upd H dx (.own x)) x (.ins CE dx [])) (fun v H2 => v = .non ∧ Q (.ref x) H2) E := by
  subst hi hj
  exact mk_ed hS he q
abbrev sUnd : Stmt := inClass (tp 16) 7
theorem scUnd : FnScope ["self", "words", "told"] ["self", "words"] (defScope sUnd) := ⟨rfl, rfl, rfl, by decide +kernel, rfl, by decide +kernel, by decide +kernel⟩
def spUnd (K : PySem.W.Frag) (CE : Addr) : Sp := fun vs H Q _ => ∃ (p l : Addr) (e : Ed) (ws : List Str), vs = [.ref p, .ref l] ∧ EdH K CE H p e ∧ WsL K H l ws ∧ e.b ≤ ws.length ∧
  ∀ H' x, Same H H' → H x = none → EdH K CE H' x (und e ws) → Q (.ref x) H'
theorem und_ok {e : Ed} {ws : List Str} (he : e.Ok) (hm : ∀ x ∈ ws, x ∈ MRK) (hs : ws.length ≤ 200) (hb : e.b ≤ ws.length) : (und e ws).Ok := by
  have h1 := he.le
  have h2 := he.sm
  refine ⟨?_, fun x hx => hm x (List.mem_of_mem_take (List.mem_of_mem_drop hx)), ?_, ?_⟩
  · show e.a ≤ e.a + e.ws.length
    omega
  · show ((ws.take e.b).drop e.a).length ≤ 200
    rw [List.length_drop, List.length_take]
    omega
  · show e.a + e.ws.length ≤ 400
    omega
theorem ok_und {f f1 fI : Addr} {fd fd1 fdI : FuncData} (F : Fun K "undone" "Edit.undone" sUnd f fd) (T : KC K mg aN aS) (EE : EC K CE) (J : MkE P w K mg base CE fI fdI)
    (M1 : Meth K CE "_fitting" f1) (G1 : FnOk P w K mg base CX0 5 f1 fd1 ["self", "words"] (spFit K CE)) (b1 : Binds K fd1 ["self", "words"] []) : FnOk P w K mg base CX0 6 f fd ["self", "words"] (spUnd K CE) := by
  refine F.ok scUnd (fun vs H Q E h => ?_) (fun cdv A outer s H vs Q E hr h => ?_)
  · obtain ⟨_, _, _, _, rfl, _⟩ := h
    rfl
  obtain ⟨p, l, e, ws, rfl, hE, hw, hb, q⟩ := h
  refine ⟨_, pss_cons (ps_set (i := 2) scUnd.nd rfl (Or.inl rfl) (pe_meth (pv 0) EE.cl M1 G1 hr b1 .nil pass0 (pa_cons (pv 1) pa_nil)))
    (pss_one (ps_ret (pe_make J.M J.F hr rfl J.m J.b .nil pass0 (pa_cons (pe_fld (pv 0) rfl) (pa_cons (pe_op op_add (pe_fld (pv 0) rfl) (pe_callB call_len_seq rfl T.len PySem.boot_len (pa_cons (pe_fld (pv 0) rfl) pa_nil)))
      (pa_cons (pe_slice (r := rSlL K) sl_list (pv 2) (po_some (pe_fld (pv 0) rfl)) (po_some (pe_fld (pv 0) rfl))) pa_nil)))))), ?_⟩
  obtain ⟨dx, tt, hp, hS, he⟩ := id hE
  refine ⟨_, rfl, p, dx, _, rfl, hp, rfl, _, rfl, p, l, e, ws, rfl, hE, hw, hb, fun H1 t s1 hn ht => ?_⟩
  obtain ⟨dx1, tt1, hp1, hS1, _⟩ := hE.same s1
  have ha := he.le
  refine ⟨_, rfl, p, CE, dx1, _, .int e.a, rfl, hp1, EE.cl, EE.nF, rfl, ?_⟩
  refine ⟨_, rfl, p, CE, dx1, _, .int e.a, rfl, hp1, EE.cl, EE.nF, rfl, _, rfl, p, CE, dx1, _, .ref tt1, rfl, hp1, EE.cl, EE.nW, rfl, tt1, _, rfl, .inr hS1, _, _, rfl, rfl, ?_⟩
  refine ⟨_, rfl, _, rfl, p, CE, dx1, _, .int e.a, rfl, hp1, EE.cl, EE.nF, rfl, e.a, rfl, _, rfl, p, CE, dx1, _, .int e.b, rfl, hp1, EE.cl, EE.nL, rfl, e.b, rfl, t, _, rfl, SqL.of ht, fun l2 hl2 => ?_⟩
  have s2 := Same.new hl2 (.lst (cutV (ws.map V.str) (some (e.a : Int)) (some (e.b : Int))))
  have c2 : upd H1 l2 (.lst (cutV (ws.map V.str) (some (e.a : Int)) (some (e.b : Int)))) l2 = some (.lst ((und e ws).ws.map V.str)) := by
    rw [upd_same, cut_mid _ _ _ ha (by rw [List.length_map]; omega)]
    unfold und
    rw [List.map_drop, List.map_take]
  generalize upd H1 l2 (.lst (cutV (ws.map V.str) (some (e.a : Int)) (some (e.b : Int)))) = H2 at *
  have ei : (e.a : Int) + ((e.ws.map V.str).length : Nat) = ((und e ws).b : Int) := by
    rw [List.length_map]
    show (e.a : Int) + (e.ws.length : Int) = ((e.a + e.ws.length : Nat) : Int)
    omega
  exact mk_edI (e := und e ws) rfl ei (.inl (SqL.of c2)) (und_ok he hw.mrk hw.sm hb) fun H' x s3 hx hE3 => q H' x ((s1.trans s2).trans s3) (fresh_of (s1.trans s2) hx) hE3
abbrev sAddM : Stmt := inClass (tp 16) 5
theorem scAddM : FnScope ["self", "other"] ["self", "other"] (defScope sAddM) := ⟨rfl, rfl, rfl, by decide +kernel, rfl, by decide +kernel, by decide +kernel⟩
def spAddM (K : PySem.W.Frag) (CE : Addr) : Sp := fun vs H Q _ => ∃ (p : Addr) (i : Int) (e e2 : Ed), vs = [.ref p, .int i] ∧ EdH K CE H p e ∧ (e2.a : Int) = e.a + i ∧ (e2.b : Int) = e.b + i ∧ e2.ws = e.ws ∧ e2.Ok ∧
  ∀ H' x, Same H H' → H x = none → EdH K CE H' x e2 → Q (.ref x) H'
theorem ok_addm {f f1 fI : Addr} {fd fd1 fdI : FuncData} (F : Fun K "__add__" "Edit.__add__" sAddM f fd) (EE : EC K CE) (J : MkE P w K mg base CE fI fdI)
    (G1 : FnOk P w K mg base CX0 1 f1 fd1 ["thing"] spWhole) (b1 : Binds K fd1 ["thing"] []) (k1 : PySem.W.keepIn K (.ref f1) = true) (m1 : mg "is_whole" = some (.ref f1)) : FnOk P w K mg base CX0 6 f fd ["self", "other"] (spAddM K CE) := by
  refine F.ok scAddM (fun vs H Q E h => ?_) (fun cdv A outer s H vs Q E hr h => ?_)
  · obtain ⟨_, _, _, _, rfl, _⟩ := h
    rfl
  obtain ⟨p, i, e, e2, rfl, hE, ea, eb, ew, ho, q⟩ := h
  obtain ⟨dx, tt, hp, hS, he⟩ := id hE
  refine ⟨_, pss_cons (ps_if (pt_not (pt_val (pe_call G1 (hr.mono (by decide)) rfl m1 k1 b1 .nil pass0 (pa_cons (pv 1) pa_nil)))) (pss_one ps_never) pss_nil)
    (pss_one (ps_ret (pe_make J.M J.F hr rfl J.m J.b .nil pass0 (pa_cons (pe_op op_add (pe_fld (pv 0) rfl) (pv 1)) (pa_cons (pe_op op_add (pe_fld (pv 0) rfl) (pv 1)) (pa_cons (pe_fld (pv 0) rfl) pa_nil)))))), ?_⟩
  refine ⟨_, rfl, _, rfl, _, rfl, iteF ⟨_, rfl, p, CE, dx, _, .int e.a, rfl, hp, EE.cl, EE.nF, rfl, _, rfl, _, _, rfl, rfl, _, rfl, p, CE, dx, _, .int e.b, rfl, hp, EE.cl, EE.nL, rfl, _, rfl, _, _, rfl, rfl, _, rfl, p, CE, dx, _, .ref tt, rfl, hp, EE.cl, EE.nW, rfl, ?_⟩⟩
  exact mk_edI (e := e2) ea.symm eb.symm (.inr (by rw [ew]; exact hS)) ho q
end
end E5

end
section
set_option Elab.async false
set_option linter.all false
set_option maxRecDepth 100000
set_option maxHeartbeats 4000000
namespace E5
open PySem PySem.Spec PySem.SeqAt PyProof.Rows L2
/-! ### lists and tuples of marks as data -/
theorem lay_mem : ∀ {ds : List PyData}, (∀ d ∈ ds, d.canLay0 = true) → PyData.canLayAll0 ds = true
  | [], _ => by simp only [PyData.canLayAll0]
  | d :: ds, h => by
    simp only [PyData.canLayAll0, h d List.mem_cons_self, lay_mem fun x hx => h x (List.mem_cons_of_mem _ hx), Bool.and_self]
theorem depth_mem : ∀ {ds : List PyData} {m : Nat}, (∀ d ∈ ds, d.depth ≤ m) → PyData.depthAll ds ≤ m
  | [], m, _ => by simp only [PyData.depthAll]; exact Nat.zero_le _
  | d :: ds, m, h => by
    simp only [PyData.depthAll]
    exact Nat.max_le.mpr ⟨h d List.mem_cons_self, depth_mem fun x hx => h x (List.mem_cons_of_mem _ hx)⟩
theorem shaped_mk {d : PyData} (h1 : d.canLay0 = true) (h2 : d.depth ≤ 64) : shaped d = true := by
  unfold shaped
  rw [h1, decide_eq_true h2]
  rfl
theorem lay_str {x : Str} (h : PyData.strOk x = true) : (PyData.str x).canLay0 = true := by simp only [PyData.canLay0]; exact h
theorem lay_marks {zs : List Str} (h : ∀ z ∈ zs, z ∈ MRK) : PyData.canLayAll0 (zs.map PyData.str) = true := lay_mem fun d hd => by
  obtain ⟨z, hz, e⟩ := List.mem_map.mp hd
  subst e
  exact lay_str (mrk_ok z (h z hz))
theorem depth_marks (zs : List Str) : PyData.depthAll (zs.map PyData.str) ≤ 0 := depth_mem fun d hd => by
  obtain ⟨z, _, e⟩ := List.mem_map.mp hd
  subst e
  simp only [PyData.depth]
  exact Nat.le_refl _
theorem shaped_lst {zs : List Str} (h : ∀ z ∈ zs, z ∈ MRK) : shaped (.list (zs.map PyData.str)) = true := by
  refine shaped_mk ?_ ?_
  · simp only [PyData.canLay0]
    exact lay_marks h
  · simp only [PyData.depth]
    have := depth_marks zs
    omega
theorem shaped_tup {zs : List Str} (h : ∀ z ∈ zs, z ∈ MRK) : shaped (.tuple (zs.map PyData.str)) = true := by
  refine shaped_mk ?_ ?_
  · simp only [PyData.canLay0]
    exact lay_marks h
  · simp only [PyData.depth]
    have := depth_marks zs
    omega
theorem dpAll_marks {K : PySem.W.Frag} {H : Hp} : ∀ (zs : List Str), DpAll K H (zs.map V.str) (zs.map PyData.str)
  | [] => .nil
  | z :: zs => .cons (.str z) (dpAll_marks zs)
theorem eqvAll_marks : ∀ (a b : List Str), PyData.eqvAll (a.map PyData.str) (b.map PyData.str) = decide (a = b)
  | [], [] => rfl
  | [], y :: b => rfl
  | x :: a, [] => rfl
  | x :: a, y :: b => by
    show ((x == y) && PyData.eqvAll (a.map PyData.str) (b.map PyData.str)) = decide (x :: a = y :: b)
    rw [eqvAll_marks a b]
    by_cases h : x = y
    · subst h
      rw [beq_self_eq_true, Bool.true_and]
      by_cases h2 : a = b
      · subst h2
        rw [decide_eq_true rfl, decide_eq_true rfl]
      · rw [decide_eq_false h2, decide_eq_false fun z => h2 (List.cons.inj z).2]
    · rw [beq_eq_false_iff_ne.mpr h, Bool.false_and, decide_eq_false fun z => h (List.cons.inj z).1]
section
variable {X : Cx}
/-- != of two lists of marks -/
def rNeW (K : PySem.W.Frag) : R2 := fun x y H Q => ∃ (l m : Addr) (as bs : List Str), x = .ref l ∧ y = .ref m ∧ SqL K H l (as.map V.str) ∧ SqL K H m (bs.map V.str) ∧ (∀ z ∈ as, z ∈ MRK) ∧ (∀ z ∈ bs, z ∈ MRK) ∧ Q (.bl (!decide (as = bs))) H
theorem op_neW (hu : X.A.units + 64 < cLine) : OpR X (compareOp .NotEq) (rNeW X.K) := by
  intro pins s σ H x y v u Q I rx ry h
  obtain ⟨l, m, as, bs, rfl, rfl, h1, h2, m1, m2, q⟩ := h
  refine op_neD hu pins s σ H _ _ v u Q I rx ry ⟨.list (as.map PyData.str), .list (bs.map PyData.str), .lst h1 (dpAll_marks as), .lst h2 (dpAll_marks bs), shaped_lst m1, shaped_lst m2, ?_⟩
  rw [show PyData.eqv (.list (as.map PyData.str)) (.list (bs.map PyData.str)) = decide (as = bs) from eqvAll_marks as bs]
  exact q
/-- == of two lists of marks -/
def rEqW (K : PySem.W.Frag) : R2 := fun x y H Q => ∃ (l m : Addr) (as bs : List Str), x = .ref l ∧ y = .ref m ∧ SqL K H l (as.map V.str) ∧ SqL K H m (bs.map V.str) ∧ (∀ z ∈ as, z ∈ MRK) ∧ (∀ z ∈ bs, z ∈ MRK) ∧ Q (.bl (decide (as = bs))) H
theorem op_eqW (hu : X.A.units + 64 < cLine) : OpR X (compareOp .Eq) (rEqW X.K) := by
  intro pins s σ H x y v u Q I rx ry h
  obtain ⟨l, m, as, bs, rfl, rfl, h1, h2, m1, m2, q⟩ := h
  refine op_eqD hu pins s σ H _ _ v u Q I rx ry ⟨.list (as.map PyData.str), .list (bs.map PyData.str), .lst h1 (dpAll_marks as), .lst h2 (dpAll_marks bs), shaped_lst m1, shaped_lst m2, ?_⟩
  rw [show PyData.eqv (.list (as.map PyData.str)) (.list (bs.map PyData.str)) = decide (as = bs) from eqvAll_marks as bs]
  exact q
/-- == and != of two tuples of marks -/
def rTW (K : PySem.W.Frag) (f : Bool → Bool) : R2 := fun x y H Q => ∃ (l m : Addr) (as bs : List Str), x = .ref l ∧ y = .ref m ∧ SqT K H l (as.map V.str) ∧ SqT K H m (bs.map V.str) ∧ (∀ z ∈ as, z ∈ MRK) ∧ (∀ z ∈ bs, z ∈ MRK) ∧ Q (.bl (f (decide (as = bs)))) H
theorem op_eqTW (hu : X.A.units + 64 < cLine) : OpR X (compareOp .Eq) (rTW X.K id) := by
  intro pins s σ H x y v u Q I rx ry h
  obtain ⟨l, m, as, bs, rfl, rfl, h1, h2, m1, m2, q⟩ := h
  refine op_eqD hu pins s σ H _ _ v u Q I rx ry ⟨.tuple (as.map PyData.str), .tuple (bs.map PyData.str), .tup h1 (dpAll_marks as), .tup h2 (dpAll_marks bs), shaped_tup m1, shaped_tup m2, ?_⟩
  rw [show PyData.eqv (.tuple (as.map PyData.str)) (.tuple (bs.map PyData.str)) = decide (as = bs) from eqvAll_marks as bs]
  exact q
theorem op_neTW (hu : X.A.units + 64 < cLine) : OpR X (compareOp .NotEq) (rTW X.K not) := by
  intro pins s σ H x y v u Q I rx ry h
  obtain ⟨l, m, as, bs, rfl, rfl, h1, h2, m1, m2, q⟩ := h
  refine op_neD hu pins s σ H _ _ v u Q I rx ry ⟨.tuple (as.map PyData.str), .tuple (bs.map PyData.str), .tup h1 (dpAll_marks as), .tup h2 (dpAll_marks bs), shaped_tup m1, shaped_tup m2, ?_⟩
  rw [show PyData.eqv (.tuple (as.map PyData.str)) (.tuple (bs.map PyData.str)) = decide (as = bs) from eqvAll_marks as bs]
  exact q
end
section
variable {P : Program} {w : World} {K : PySem.W.Frag} {mg : Str → Option Value} {base : Heap} {aN aS CE : Addr}
theorem hu64 {A : Around} {k : Nat} (hr : Room k A) : A.units + 64 < cLine := by have := hr.un; omega
/-- what isinstance(other, Edit) asks of the class -/
structure RI (K : PySem.W.Frag) (mg : Str → Option Value) (C : Addr) : Prop where
  g : mg "Edit" = some (.ref C)
  ha : PySem.W.findIn K (.ref C) "__class__" = some (some (.builtin "object.__class__"))
  hn : PySem.W.specialIn K (.builtin "object.__class__") "__get__" = some (some (.builtin "getset_descriptor.__get__"))
  ht : PySem.W.takesIn K (.builtin "object.__class__") = some true
  hm : PySem.W.mroIn K C (.type "object") = some true
  kit : PySem.W.kitOne K (.ref C) (.ref C) = some true
abbrev sEqM : Stmt := inClass (tp 16) 1
theorem scEqM : FnScope ["self", "other"] ["self", "other"] (defScope sEqM) := ⟨rfl, rfl, rfl, by decide +kernel, rfl, by decide +kernel, by decide +kernel⟩
def spEqM (K : PySem.W.Frag) (CE : Addr) : Sp := fun vs H Q _ => ∃ (a b : Addr) (e : Ed), vs = [.ref a, .ref b] ∧ EdH K CE H a e ∧ EdH K CE H b e ∧ Q (.bl true) H
theorem ok_eqm {f : Addr} {fd : FuncData} (F : Fun K "__eq__" "Edit.__eq__" sEqM f fd) (mI : mg "isinstance" = none) (EE : EC K CE) (R : RI K mg CE) : FnOk P w K mg base CX0 1 f fd ["self", "other"] (spEqM K CE) := by
  refine F.ok scEqM (fun vs H Q E h => ?_) (fun cdv A outer s H vs Q E hr h => ?_)
  · obtain ⟨_, _, _, rfl, _⟩ := h
    rfl
  obtain ⟨a, b, e, rfl, ⟨dx, t, hp, hS, he⟩, ⟨dx2, t2, hp2, hS2, _⟩, q⟩ := h
  refine ⟨_, pss_cons (ps_if (pt_not (pt_val (pe_callB call_isi rfl mI (by decide +kernel) (pa_cons (pv 1) (pa_cons (pgl R.g) pa_nil))))) (pss_one ps_never) pss_nil)
    (pss_one (ps_ret (pe_and (pe_cmpR op_eq (pe_fld (pv 0) rfl) (pe_fld (pv 1) rfl) (nomark _)) (pe_and (pe_cmpR op_eq (pe_fld (pv 0) rfl) (pe_fld (pv 1) rfl) (nomark _)) (pe_one (pe_cmpR (op_eqTW (hu64 hr)) (pe_fld (pv 0) rfl) (pe_fld (pv 1) rfl) (nomark _))))))), ?_⟩
  refine ⟨_, rfl, .ref b, .ref CE, .ref CE, .ref CE, true, rfl, .own _, .base (.ins hp2 EE.cl R.ha R.hn R.ht R.hm), R.kit, _, rfl, iteF ?_⟩
  refine ⟨_, rfl, a, CE, dx, _, .int e.a, rfl, hp, EE.cl, EE.nF, rfl, _, rfl, b, CE, dx2, _, .int e.a, rfl, hp2, EE.cl, EE.nF, rfl, rfl, _, rfl, iteTT (decide_eq_true rfl) ?_⟩
  refine ⟨_, rfl, a, CE, dx, _, .int e.b, rfl, hp, EE.cl, EE.nL, rfl, _, rfl, b, CE, dx2, _, .int e.b, rfl, hp2, EE.cl, EE.nL, rfl, rfl, _, rfl, iteTT (decide_eq_true rfl) ?_⟩
  refine ⟨_, rfl, a, CE, dx, _, .ref t, rfl, hp, EE.cl, EE.nW, rfl, _, rfl, b, CE, dx2, _, .ref t2, rfl, hp2, EE.cl, EE.nW, rfl, t, t2, e.ws, e.ws, rfl, rfl, hS, hS2, he.mrk, he.mrk, ?_⟩
  rw [decide_eq_true rfl]
  exact q
/-! ### carried -/
def mv (e : Ed) (f : Ed) : Ed := ⟨e.a + f.ws.length - (f.b - f.a), e.b + f.ws.length - (f.b - f.a), e.ws⟩
def car (e f : Ed) : Option Ed := if f.b ≤ e.a then some (mv e f) else if e.b ≤ f.a then some e else none
abbrev sCar : Stmt := tp 17
theorem scCar : FnScope ["one", "other"] ["one", "other"] (defScope sCar) := ⟨rfl, rfl, rfl, by decide +kernel, rfl, by decide +kernel, by decide +kernel⟩
/-- None, or an edit -/
def OpH (K : PySem.W.Frag) (CE : Addr) (H : Hp) (v : V) : Option Ed → Prop
  | none => v = .non
  | some e => ∃ x, v = .ref x ∧ EdH K CE H x e
theorem OpH.same {H H' : Hp} {v : V} {o : Option Ed} (s : Same H H') (h : OpH K CE H v o) : OpH K CE H' v o := by
  cases o with
  | none => exact h
  | some e =>
    obtain ⟨x, h1, h2⟩ := h
    exact ⟨x, h1, h2.same s⟩
def spCar (K : PySem.W.Frag) (CE : Addr) : Sp := fun vs H Q _ => ∃ (p q : Addr) (e f : Ed), vs = [.ref p, .ref q] ∧ EdH K CE H p e ∧ EdH K CE H q f ∧ e.b + f.ws.length ≤ 400 ∧ ∀ H' v, Same H H' → OpH K CE H' v (car e f) → Q v H'
theorem mv_ok {e f : Ed} (he : e.Ok) (hf : f.Ok) (h : f.b ≤ e.a) (hz : e.b + f.ws.length ≤ 400) : (mv e f).Ok := by
  have h1 := he.le
  have h2 := hf.le
  refine ⟨?_, he.mrk, he.sm, ?_⟩
  · show e.a + f.ws.length - (f.b - f.a) ≤ e.b + f.ws.length - (f.b - f.a)
    omega
  · show e.b + f.ws.length - (f.b - f.a) ≤ 400
    omega
theorem ok_car {f fG fA : Addr} {fd fdG fdA : FuncData} (F : Fun K "carried" "carried" sCar f fd) (EE : EC K CE)
    (MG : Meth K CE "growth" fG) (G : FnOk P w K mg base CX0 1 fG fdG ["self"] (spGrow K CE)) (bG : Binds K fdG ["self"] [])
    (D : AddK K CE fA) (GA : FnOk P w K mg base CX0 6 fA fdA ["self", "other"] (spAddM K CE)) (bA : Binds K fdA ["self", "other"] []) : FnOk P w K mg base CX0 7 f fd ["one", "other"] (spCar K CE) := by
  refine F.ok scCar (fun vs H Q E h => ?_) (fun cdv A outer s H vs Q E hr h => ?_)
  · obtain ⟨_, _, _, _, rfl, _⟩ := h
    rfl
  obtain ⟨p, p2, e, g, rfl, hE, hG, hz, q⟩ := h
  obtain ⟨dx, t, hp, hS, he⟩ := id hE
  obtain ⟨dx2, t2, hp2, hS2, hg⟩ := id hG
  have l1 := he.le
  have l2 := hg.le
  refine ⟨_, pss_cons (ps_if (pt_cmpR op_ge (pe_fld (pv 0) rfl) (pe_fld (pv 1) rfl) (nomark _)) (pss_one (ps_ret (pe_op (op_addI D GA bA hr) (pv 0) (pe_meth0 (pv 1) EE.cl MG G (hr.mono (by decide)) bG .nil pass0)))) pss_nil)
    (pss_one (ps_ret (pe_ifExp (pt_cmpR op_le (pe_fld (pv 0) rfl) (pe_fld (pv 1) rfl) (nomark _)) (pe_op (op_addI D GA bA hr) (pv 0) pe_int) pe_non))), ?_⟩
  refine ⟨_, rfl, p, CE, dx, _, .int e.a, rfl, hp, EE.cl, EE.nF, rfl, _, rfl, p2, CE, dx2, _, .int g.b, rfl, hp2, EE.cl, EE.nL, rfl, _, _, rfl, rfl, _, rfl, ite2 (fun c => ?_) (fun c => ?_)⟩
  · have c' : g.b ≤ e.a := by have := of_decide_eq_true c; omega
    refine ⟨_, rfl, _, rfl, p2, dx2, _, rfl, hp2, rfl, p2, g, rfl, hG, p, grow g, rfl, rfl, ⟨dx, _, hp⟩, p, grow g, e, mv e g, rfl, hE, ?_, ?_, rfl, mv_ok he hg c' hz, fun H' x s' hx hX => ⟨x, rfl, q H' _ s' ?_⟩⟩
    · show ((e.a + g.ws.length - (g.b - g.a) : Nat) : Int) = e.a + ((g.ws.length : Int) - ((g.b : Int) - (g.a : Int)))
      omega
    · show ((e.b + g.ws.length - (g.b - g.a) : Nat) : Int) = e.b + ((g.ws.length : Int) - ((g.b : Int) - (g.a : Int)))
      omega
    · unfold car
      rw [if_pos c']
      exact ⟨x, rfl, hX⟩
  · have c' : ¬ g.b ≤ e.a := by
      have := of_decide_eq_false (Bool.eq_false_iff.mpr c)
      omega
    refine ⟨_, rfl, p, CE, dx, _, .int e.b, rfl, hp, EE.cl, EE.nL, rfl, _, rfl, p2, CE, dx2, _, .int g.a, rfl, hp2, EE.cl, EE.nF, rfl, _, _, rfl, rfl, _, rfl, ite2 (fun d => ?_) (fun d => ?_)⟩
    · have d' : e.b ≤ g.a := by have := of_decide_eq_true d; omega
      refine ⟨_, rfl, p, 0, rfl, rfl, ⟨dx, _, hp⟩, p, 0, e, e, rfl, hE, by omega, by omega, rfl, he, fun H' x s' hx hX => ⟨x, rfl, q H' _ s' ?_⟩⟩
      unfold car
      rw [if_neg c', if_pos d']
      exact ⟨x, rfl, hX⟩
    · have d' : ¬ e.b ≤ g.a := by
        have := of_decide_eq_false (Bool.eq_false_iff.mpr d)
        omega
      refine q H .non (Same.refl H) ?_
      unfold car
      rw [if_neg c', if_neg d']
      rfl
end
end E5

end
section
set_option Elab.async false
set_option linter.all false
set_option maxRecDepth 100000
set_option maxHeartbeats 4000000
namespace E5
open PySem PySem.Spec PyProof.Rows L2
/-! ### shrunk -/
/-- what the edit from words to others does -/
structure Shr (e : Ed) (as bs : List Str) : Prop where
  app : app e as = bs
  le : e.b ≤ as.length
  same : as = bs → e = ⟨as.length, as.length, []⟩
  few : e.ws.length + (e.b - e.a) ≤ as.length + bs.length
theorem shr_of {as bs : List Str} {f k : Nat} (h1 : f + k ≤ as.length) (h2 : f + k ≤ bs.length) (hf : as.take f = bs.take f) (hk : as.drop (as.length - k) = bs.drop (bs.length - k)) (hs : as = bs → f = as.length) :
    Shr ⟨f, as.length - k, (bs.take (bs.length - k)).drop f⟩ as bs := by
  refine ⟨?_, ?_, fun e => ?_, ?_⟩
  · show as.take f ++ (bs.take (bs.length - k)).drop f ++ as.drop (as.length - k) = bs
    rw [hf, hk]
    have : bs.take f = (bs.take (bs.length - k)).take f := by rw [List.take_take, Nat.min_eq_left (by omega)]
    rw [this, List.take_append_drop, List.take_append_drop]
  · show as.length - k ≤ as.length
    omega
  · have e2 := hs e
    subst e
    have hk0 : k = 0 := by omega
    subst hk0
    subst e2
    rw [Nat.sub_zero, List.take_of_length_le (Nat.le_refl _), List.drop_of_length_le (Nat.le_refl _)]
  · show ((bs.take (bs.length - k)).drop f).length + (as.length - k - f) ≤ as.length + bs.length
    rw [List.length_drop, List.length_take]
    omega
theorem drop_more {as : List Str} {k : Nat} {x : Str} (hk : k < as.length) (h : as[as.length - 1 - k]? = some x) : as.drop (as.length - (k + 1)) = x :: as.drop (as.length - k) := by
  have e : as.length - (k + 1) = as.length - 1 - k := by omega
  rw [e]
  have hlt : as.length - 1 - k < as.length := by omega
  rw [List.getElem?_eq_getElem hlt] at h
  rw [List.drop_eq_getElem_cons hlt, Option.some.inj h]
  congr 1
  congr 1
  omega
theorem at_str {as : List Str} {i : Nat} (h : i < as.length) : ∃ x, as[i]? = some x ∧ atI (as.map V.str) (i : Int) = some (.str x) :=
  ⟨as[i], List.getElem?_eq_getElem h, atI_nat (by rw [List.getElem?_map, List.getElem?_eq_getElem h]; rfl)⟩
theorem and_one {t u : TT} {σ : L2.St} {H : Hp} {Q : Bool → Hp → Prop} {c d : Prop} [Decidable c] [Decidable d] (ht : ∀ Q' : Bool → Hp → Prop, Q' (decide c) H → t σ H Q') (hu : c → ∀ Q' : Bool → Hp → Prop, Q' (decide d) H → u σ H Q')
    (q : Q (decide (c ∧ d)) H) : tAnd t u σ H Q := by
  unfold tAnd
  refine ht _ ?_
  by_cases hc : c
  · rw [decide_eq_true hc]
    refine iteT (hu hc _ ?_)
    have e : decide (c ∧ d) = decide d := by
      by_cases hd : d
      · rw [decide_eq_true hd, decide_eq_true ⟨hc, hd⟩]
      · rw [decide_eq_false hd, decide_eq_false fun z => hd z.2]
    rw [← e]
    exact q
  · rw [decide_eq_false hc]
    refine iteF ?_
    rw [decide_eq_false fun z => hc z.1] at q
    exact q
theorem ite2d {c A B : Prop} [Decidable c] (h1 : c → A) (h2 : ¬ c → B) : if decide c = true then A else B := by
  by_cases h : c
  · rw [decide_eq_true h]
    exact iteT (h1 h)
  · rw [decide_eq_false h]
    exact iteF (h2 h)
theorem dec_str (x y : Str) : decide (V.str x = V.str y) = decide (some x = some y) := by
  by_cases h : x = y
  · rw [h, decide_eq_true rfl, decide_eq_true rfl]
  · rw [decide_eq_false fun z => h (V.str.inj z), decide_eq_false fun z => h (Option.some.inj z)]
section
variable {P : Program} {w : World} {K : PySem.W.Frag} {mg : Str → Option Value} {base : Heap} {aN aS CE : Addr}
abbrev sShr : Stmt := tp 18
abbrev NS : List Str := ["words", "more", "old", "new", "most", "front", "back"]
theorem scShr : FnScope NS ["words", "more"] (defScope sShr) := ⟨rfl, rfl, rfl, by decide +kernel, rfl, by decide +kernel, by decide +kernel⟩
def spShr (K : PySem.W.Frag) (CE : Addr) : Sp := fun vs H Q _ => ∃ (l m : Addr) (as bs : List Str), vs = [.ref l, .ref m] ∧ WsL K H l as ∧ WsL K H m bs ∧ ∀ H' x e, Same H H' → H x = none → EdH K CE H' x e → Shr e as bs → Q (.ref x) H'
theorem ok_shr {f f1 fI : Addr} {fd fd1 fdI : FuncData} (F : Fun K "shrunk" "shrunk" sShr f fd) (T : KC K mg aN aS) (mMin : mg "min" = none) (J : MkE P w K mg base CE fI fdI)
    (G1 : FnOk P w K mg base CX0 4 f1 fd1 ["words"] (spChk K)) (b1 : Binds K fd1 ["words"] []) (k1 : PySem.W.keepIn K (.ref f1) = true) (m1 : mg "checked_words" = some (.ref f1)) : FnOk P w K mg base CX0 6 f fd ["words", "more"] (spShr K CE) := by
  refine F.ok scShr (fun vs H Q E h => ?_) (fun cdv A outer s H vs Q E hr h => ?_)
  · obtain ⟨_, _, _, _, rfl, _⟩ := h
    rfl
  obtain ⟨l, m, as, bs, rfl, hl, hm, q⟩ := h
  have hr4 := hr.mono (show 4 ≤ 5 by decide)
  refine ⟨_, pss_cons (ps_set (i := 2) scShr.nd rfl (Or.inl rfl) (pe_call G1 hr4 rfl m1 k1 b1 .nil pass0 (pa_cons (pv 0) pa_nil)))
    (pss_cons (ps_set (i := 3) scShr.nd rfl (Or.inl rfl) (pe_call G1 hr4 rfl m1 k1 b1 .nil pass0 (pa_cons (pv 1) pa_nil)))
    (pss_cons (ps_set (i := 4) scShr.nd rfl (Or.inl rfl) (pe_callB (call_min2 rfl) rfl mMin (by decide +kernel) (pa_cons (pe_callB call_len_seq rfl T.len PySem.boot_len (pa_cons (pv 2) pa_nil)) (pa_cons (pe_callB call_len_seq rfl T.len PySem.boot_len (pa_cons (pv 3) pa_nil)) pa_nil))))
    (pss_cons (ps_set (i := 5) scShr.nd rfl (Or.inl rfl) pe_int)
    (pss_cons (ps_while PassesOwn.never (PW.pt (pw_and (pt_cmpR op_lt (pv 5) (pv 4) (nomark _)) (pw_and1 (pt_cmpR op_eq (pe_ix ix_list (pv 2) (pv 5) (fun _ _ => rfl)) (pe_ix ix_list (pv 3) (pv 5) (fun _ _ => rfl)) (nomark _)))))
      (pss_one (ps_aug (i := 5) scShr.nd rfl (Or.inl rfl) pe_int ip_add)))
    (pss_cons (ps_set (i := 6) scShr.nd rfl (Or.inl rfl) pe_int)
    (pss_cons (ps_while PassesOwn.never (PW.pt (pw_and (pt_cmpR op_lt (pv 6) (pe_op op_sub (pv 4) (pv 5)) (nomark _)) (pw_and1 (pt_cmpR op_eq
        (pe_ix ix_list (pv 2) (pe_op op_sub (pe_op op_sub (pe_callB call_len_seq rfl T.len PySem.boot_len (pa_cons (pv 2) pa_nil)) pe_int) (pv 6)) (fun _ _ => rfl))
        (pe_ix ix_list (pv 3) (pe_op op_sub (pe_op op_sub (pe_callB call_len_seq rfl T.len PySem.boot_len (pa_cons (pv 3) pa_nil)) pe_int) (pv 6)) (fun _ _ => rfl)) (nomark _)))))
      (pss_one (ps_aug (i := 6) scShr.nd rfl (Or.inl rfl) pe_int ip_add)))
    (pss_one (ps_ret (pe_make J.M J.F hr rfl J.m J.b .nil pass0 (pa_cons (pv 5) (pa_cons (pe_op op_sub (pe_callB call_len_seq rfl T.len PySem.boot_len (pa_cons (pv 2) pa_nil)) (pv 6))
      (pa_cons (pe_slice (r := rSlL K) sl_list (pv 3) (po_some (pv 5)) (po_some (pe_op op_sub (pe_callB call_len_seq rfl T.len PySem.boot_len (pa_cons (pv 3) pa_nil)) (pv 6)))) pa_nil)))))))))))), ?_⟩
  refine ⟨_, rfl, l, as, rfl, hl.at_, hl.mrk, hl.sm, fun H1 o s1 hno ho => ?_⟩
  refine ⟨_, rfl, m, bs, rfl, s1.seq hm.at_, hm.mrk, hm.sm, fun H2 n s2 hnn hn => ?_⟩
  have ho2 := s2 _ _ ho
  have s12 := s1.trans s2
  have La : (as.map V.str).length = as.length := List.length_map ..
  have Lb : (bs.map V.str).length = bs.length := List.length_map ..
  refine ⟨_, rfl, o, _, rfl, .inl (SqL.of ho2), _, rfl, n, _, rfl, .inl (SqL.of hn), _, _, rfl, ?_⟩
  obtain ⟨mo, hmo, hma, hmb, hmo3⟩ : ∃ mo : Nat, (if ((bs.map V.str).length : Int) < ((as.map V.str).length : Int) then ((bs.map V.str).length : Int) else ((as.map V.str).length : Int)) = (mo : Int) ∧ mo ≤ as.length ∧ mo ≤ bs.length ∧ (as = bs → mo = as.length) := by
    rw [La, Lb]
    by_cases c : (bs.length : Int) < (as.length : Int)
    · exact ⟨bs.length, if_pos c, by omega, Nat.le_refl _, fun e => by rw [e]⟩
    · exact ⟨as.length, if_neg c, Nat.le_refl _, by omega, fun e => rfl⟩
  refine ⟨fun j σ H' => H' = H2 ∧ ∃ i : Nat, j = mo - i ∧ i ≤ mo ∧ as.take i = bs.take i ∧ σ = [some (.ref l), some (.ref m), some (.ref o), some (.ref n), some (.int mo), some (.int i), none], ⟨mo, rfl, 0, by omega, by omega, rfl, ?_⟩, ?_⟩
  · rw [← hmo]
    rfl
  rintro j σ H' ⟨rfl, i, rfl, hi, hti, rfl⟩
  refine and_one (c := (i : Int) < (mo : Int)) (d := as[i]? = bs[i]?) (fun Q' q' => ⟨_, rfl, _, rfl, _, _, rfl, rfl, _, rfl, q'⟩) (fun c Q' q' => ?_) (ite2d (fun c => ?_) (fun c => ?_))
  · obtain ⟨x, hx, hx'⟩ := at_str (as := as) (i := i) (by omega)
    obtain ⟨y, hy, hy'⟩ := at_str (as := bs) (i := i) (by omega)
    rw [hx, hy, ← dec_str] at q'
    exact ⟨_, rfl, _, rfl, o, _, _, _, rfl, rfl, SqL.of ho2, hx', _, rfl, _, rfl, n, _, _, _, rfl, rfl, SqL.of hn, hy', rfl, _, rfl, q'⟩
  · refine ⟨fun σ' H3 => H3 = H' ∧ i + 1 ≤ mo ∧ as.take (i + 1) = bs.take (i + 1) ∧ σ' = [some (.ref l), some (.ref m), some (.ref o), some (.ref n), some (.int mo), some (.int (i + 1 : Nat)), none], ?_, ?_⟩
    · rintro σ' H3 ⟨rfl, h1, h2, rfl⟩
      exact ⟨mo - (i + 1), by omega, rfl, i + 1, rfl, h1, h2, rfl⟩
    · obtain ⟨x, hx, _⟩ := at_str (as := as) (i := i) (by omega)
      have hy := c.2
      rw [hx] at hy
      refine ⟨_, rfl, _, _, rfl, rfl, rfl, by omega, ?_, rfl⟩
      rw [take_more hx, take_more hy.symm, hti]
  have hfs : as = bs → i = as.length := fun e => by
    have := hmo3 e
    by_cases z : i < mo
    · exact absurd ⟨by omega, by rw [e]⟩ c
    · omega
  refine ⟨fun j σ H3 => H3 = H' ∧ ∃ k : Nat, j = mo - i - k ∧ i + k ≤ mo ∧ as.drop (as.length - k) = bs.drop (bs.length - k) ∧ σ = [some (.ref l), some (.ref m), some (.ref o), some (.ref n), some (.int mo), some (.int i), some (.int k)],
    ⟨mo - i, rfl, 0, by omega, by omega, by rw [Nat.sub_zero, Nat.sub_zero, List.drop_of_length_le (Nat.le_refl _), List.drop_of_length_le (Nat.le_refl _)], rfl⟩, ?_⟩
  rintro j σ H3 ⟨rfl, k, rfl, hk, htk, rfl⟩
  refine and_one (c := (k : Int) < (mo : Int) - (i : Int)) (d := as[as.length - 1 - k]? = bs[bs.length - 1 - k]?) (fun Q' q' => ⟨_, rfl, _, rfl, _, rfl, _, _, rfl, rfl, _, _, rfl, rfl, _, rfl, q'⟩) (fun c Q' q' => ?_) (ite2d (fun c => ?_) (fun c => ?_))
  · obtain ⟨x, hx, hx'⟩ := at_str (as := as) (i := as.length - 1 - k) (by omega)
    obtain ⟨y, hy, hy'⟩ := at_str (as := bs) (i := bs.length - 1 - k) (by omega)
    rw [hx, hy, ← dec_str] at q'
    have ea : ((as.length - 1 - k : Nat) : Int) = ((as.map V.str).length : Nat) - 1 - (k : Int) := by rw [La]; omega
    have eb : ((bs.length - 1 - k : Nat) : Int) = ((bs.map V.str).length : Nat) - 1 - (k : Int) := by rw [Lb]; omega
    rw [ea] at hx'
    rw [eb] at hy'
    exact ⟨_, rfl, _, rfl, o, _, rfl, .inl (SqL.of ho2), _, _, rfl, rfl, _, rfl, _, _, rfl, rfl, o, _, _, _, rfl, rfl, SqL.of ho2, hx', _, rfl, _, rfl, n, _, rfl, .inl (SqL.of hn), _, _, rfl, rfl, _, rfl, _, _, rfl, rfl, n, _, _, _, rfl, rfl, SqL.of hn, hy', rfl, _, rfl, q'⟩
  · refine ⟨fun σ' H4 => H4 = H3 ∧ i + (k + 1) ≤ mo ∧ as.drop (as.length - (k + 1)) = bs.drop (bs.length - (k + 1)) ∧ σ' = [some (.ref l), some (.ref m), some (.ref o), some (.ref n), some (.int mo), some (.int i), some (.int (k + 1 : Nat))], ?_, ?_⟩
    · rintro σ' H4 ⟨rfl, h1, h2, rfl⟩
      exact ⟨mo - i - (k + 1), by omega, rfl, k + 1, rfl, h1, h2, rfl⟩
    · obtain ⟨x, hx, _⟩ := at_str (as := as) (i := as.length - 1 - k) (by omega)
      have hy := c.2
      rw [hx] at hy
      refine ⟨_, rfl, _, _, rfl, rfl, rfl, by omega, ?_, rfl⟩
      rw [drop_more (by omega) hx, drop_more (by omega) hy.symm, htk]
  have hb : (bs.length : Int) - (k : Int) = ((bs.length - k : Nat) : Int) := by omega
  have ha : ((as.map V.str).length : Int) - (k : Int) = ((as.length - k : Nat) : Int) := by rw [La]; omega
  have hsm := hm.sm
  have hsl := hl.sm
  have ok : (⟨i, as.length - k, (bs.take (bs.length - k)).drop i⟩ : Ed).Ok := by
    refine ⟨?_, fun x hx => hm.mrk x (List.mem_of_mem_take (List.mem_of_mem_drop hx)), ?_, ?_⟩
    · show i ≤ as.length - k
      omega
    · show ((bs.take (bs.length - k)).drop i).length ≤ 200
      rw [List.length_drop, List.length_take]
      omega
    · show as.length - k ≤ 400
      omega
  refine ⟨_, rfl, _, rfl, o, _, rfl, .inl (SqL.of ho2), _, rfl, _, _, rfl, rfl, ?_⟩
  refine ⟨_, rfl, _, rfl, _, rfl, _, rfl, n, _, rfl, .inl (SqL.of hn), _, rfl, _, _, rfl, rfl, _, rfl, n, _, rfl, SqL.of hn, fun l2 hl2 => ?_⟩
  have s3 := Same.new hl2 (.lst (cutV (bs.map V.str) (some (i : Int)) (some (((bs.map V.str).length : Int) - (k : Int)))))
  have c2 : upd H3 l2 (.lst (cutV (bs.map V.str) (some (i : Int)) (some (((bs.map V.str).length : Int) - (k : Int))))) l2 = some (.lst (((bs.take (bs.length - k)).drop i).map V.str)) := by
    rw [upd_same, Lb, hb, cut_mid _ _ _ (by omega) (by rw [Lb]; omega), List.map_drop, List.map_take]
  generalize upd H3 l2 (.lst (cutV (bs.map V.str) (some (i : Int)) (some (((bs.map V.str).length : Int) - (k : Int))))) = H4 at *
  exact mk_edI (e := ⟨i, as.length - k, (bs.take (bs.length - k)).drop i⟩) rfl ha (.inl (SqL.of c2)) ok fun H' x s4 hx hE => q H' x _ ((s12.trans s3).trans s4) (fresh_of (s12.trans s3) hx) hE
    (shr_of (by omega) (by omega) hti htk hfs)
end
end E5

end
section
set_option Elab.async false
set_option linter.all false
set_option maxRecDepth 100000
set_option maxHeartbeats 4000000
namespace E5
open PySem PySem.Spec PyProof.Rows L2
/-! ### comprehensions that draw: what holds of the list so far -/
theorem lc_inv {J : It} {g : TG} {tt : TT} {te : TE} {vs : List Nat} {σ : L2.St} {H1 : Hp} {D : Addr} {Qd : Hp → Prop} (n : Nat) (hn : n ≤ 1000) (P : Nat → List V → Hp → Prop)
    (h0 : P 0 [] (upd H1 D (.lst [])))
    (step : ∀ (i : Nat) (acc : List V) (H : Hp) (Ny : VK) (Nx : Hp → Prop), i < n → H D = some (.lst acc) → P i acc H →
      (∀ y H4, H4 D = some (.lst acc) → P (i + 1) (acc ++ [y]) (upd H4 D (.lst (acc ++ [y]))) → Ny y H4) → (∀ H3, H3 D = some (.lst acc) → P (i + 1) acc H3 → Nx H3) →
      J.go i H ∧ ∀ x H', J.yld i H x H' → g x (wipe σ vs) H' fun σ2 H2 => wipe σ2 vs = wipe σ vs ∧ tt σ2 H2 fun b H3 => if b = true then te σ2 H3 Ny else Nx H3)
    (stop : ∀ acc H, H D = some (.lst acc) → P n acc H → J.stop n H ∧ Qd H) :
    ∃ W : Nat → Nat → Hp → Prop, (∃ m, W 0 m (upd H1 D (.lst []))) ∧ ∀ i m H, W i m H →
      (J.stop i H ∧ Qd H) ∨ (J.go i H ∧ ∃ Nx : Hp → Prop, (∀ H', Nx H' → ∃ m', m' < m ∧ W (i + 1) m' H') ∧ ∀ x H', J.yld i H x H' → g x (wipe σ vs) H' fun σ2 H2 => wipe σ2 vs = wipe σ vs ∧ tt σ2 H2 fun b H3 =>
        if b = true then te σ2 H3 fun y H4 => ∃ acc, H4 D = some (.lst acc) ∧ acc.length < sizeLine ∧ Nx (upd H4 D (.lst (acc ++ [y]))) else Nx H3) := by
  refine ⟨fun i m H => m = n - i ∧ i ≤ n ∧ ∃ acc, H D = some (.lst acc) ∧ acc.length ≤ i ∧ P i acc H, ⟨n, by omega, Nat.zero_le _, [], upd_same, Nat.le_refl _, h0⟩, ?_⟩
  rintro i m H ⟨rfl, hi, acc, hD, hl, hP⟩
  by_cases hlt : i < n
  · have z := step i acc H (fun y H4 => ∃ acc, H4 D = some (.lst acc) ∧ acc.length < sizeLine ∧ (∃ acc', upd H4 D (.lst (acc ++ [y])) D = some (.lst acc') ∧ acc'.length ≤ i + 1 ∧ P (i + 1) acc' (upd H4 D (.lst (acc ++ [y])))))
      (fun H3 => ∃ acc', H3 D = some (.lst acc') ∧ acc'.length ≤ i + 1 ∧ P (i + 1) acc' H3) hlt hD hP (fun y H4 h p => ⟨acc, h, small1000 (by omega), _, upd_same, by rw [List.length_append]; show acc.length + 1 ≤ i + 1; omega, p⟩) (fun H3 h p => ⟨acc, h, by omega, p⟩)
    exact .inr ⟨z.1, fun H' => ∃ acc', H' D = some (.lst acc') ∧ acc'.length ≤ i + 1 ∧ P (i + 1) acc' H', fun H' p' => ⟨n - (i + 1), by omega, rfl, hlt, p'⟩, z.2⟩
  · have e : i = n := by omega
    subst e
    exact .inl (stop acc H hD hP)
theorem DrwS.upd {H : Hp} {d sa D : Addr} {o : HO} (h : DrwS H d sa) (h1 : D ≠ d) (h2 : D ≠ sa) : DrwS (upd H D o) d sa := by
  obtain ⟨ns, n, e1, e2, e3⟩ := h
  exact ⟨ns, n, by rw [upd_ne (Ne.symm h1)]; exact e1, by rw [upd_ne (Ne.symm h2)]; exact e2, e3⟩
theorem DrwS.same {H H' : Hp} {d sa : Addr} (h : DrwS H d sa) (s : Same H H') : DrwS H' d sa := by
  obtain ⟨ns, n, e1, e2, e3⟩ := h
  exact ⟨ns, n, s _ _ e1, s _ _ e2, e3⟩
theorem DrwS.new {H : Hp} {d sa D : Addr} (h : DrwS H d sa) (hD : H D = none) : D ≠ d ∧ D ≠ sa := by
  obtain ⟨ns, n, e1, e2, e3⟩ := h
  exact ⟨fun e => (by rw [e, e1] at hD; cases hD), fun e => (by rw [e, e2] at hD; cases hD)⟩
theorem Aft.put {H H' : Hp} {d D : Addr} {o : HO} (s : Aft H H' d) (hn : H' D = none) : Aft H (upd H' D o) d := fun x u hx hu => by
  have z := s x u hx hu
  rw [upd_ne (ne_of_none z hn)]
  exact z
/-- the list that is made is written: all but it stays -/
theorem Aft.acc {H1 H : Hp} {d D : Addr} {o : HO} (hD : H1 D = none) (s : Aft H1 H d) : Aft H1 (upd H D o) d := fun x u hx hu => by
  rw [upd_ne (ne_of_none hu hD)]
  exact s x u hx hu
structure Cal (P : Program) (w : World) (K : PySem.W.Frag) (mg : Str → Option Value) (base : Heap) (x : Str) (ps : List Str) (sp : Sp) : Prop where
  ex : ∃ f fd, FnOk P w K mg base CX0 8 f fd ps sp ∧ Binds K fd ps [] ∧ PySem.W.keepIn K (.ref f) = true ∧ mg x = some (.ref f)
theorem pe_cal {X : Cx} {x : Str} {ps : List Str} {sp : Sp} {e : Expr} {es : List Expr} {t : TA} {p pos : Pos} (C : Cal X.prog X.w X.K X.mg X.base x ps sp) (hr : Room 8 X.A) (ha : PA X (e :: es) t) (hg : Gl X x := by rfl)
    (hdb : (x == ("__debug__" : Str)) = false := by decide) (he : starEach (e :: es) X.env = (false, eval e X.env) :: starEach es X.env := by rfl) (hpl : (backTo pos (starEach es X.env)).any (·.1) = false := by rfl) :
    PE X (.Call (.Name x p) (e :: es) [] pos) (tCall sp [] E0 t) := by
  obtain ⟨f, fd, G, b, k, m⟩ := C.ex
  exact pe_call G hr hg m k b .nil pass0 ha hdb he hpl

/-- a list of marks of the heap's own -/
structure LsH (H : Hp) (l : Addr) (ws : List Str) : Prop where
  at_ : H l = some (.lst (ws.map V.str))
  mrk : ∀ x ∈ ws, x ∈ MRK
  sm : ws.length ≤ 200
theorem LsH.wsl {K : PySem.W.Frag} {H : Hp} {l : Addr} {ws : List Str} (h : LsH H l ws) : WsL K H l ws := ⟨SqL.of h.at_, h.mrk, h.sm⟩
theorem LsH.same {H H' : Hp} {l : Addr} {ws : List Str} (s : Same H H') (h : LsH H l ws) : LsH H' l ws := ⟨s _ _ h.at_, h.mrk, h.sm⟩
theorem strs_nd {ws : List Str} : ∀ (sa : Addr) (n : Int), HO.lst (ws.map V.str) ≠ .lst [.ref sa, .int 0, .int n] := fun sa n z => by
  cases ws with
  | nil => cases z
  | cons => cases z
theorem LsH.ne {H : Hp} {l d sa : Addr} {ws : List Str} (h : LsH H l ws) (hd : DrwS H d sa) : l ≠ d := hd.drw.ne h.at_ strs_nd
theorem LsH.aft {H H' : Hp} {l d sa : Addr} {ws : List Str} (hd : DrwS H d sa) (s : Aft H H' d) (h : LsH H l ws) : LsH H' l ws := ⟨s _ _ (h.ne hd) h.at_, h.mrk, h.sm⟩
theorem EdH.aft {K : PySem.W.Frag} {CE p d sa : Addr} {H H' : Hp} {e : Ed} (hd : DrwS H d sa) (s : Aft H H' d) (h : EdH K CE H p e) : EdH K CE H' p e := by
  obtain ⟨dx, t, h1, h2, h3⟩ := h
  exact ⟨dx, t, s _ _ (hd.drw.ne h1 fun _ _ z => by cases z) h1, Aft.tup hd.drw s h2, h3⟩
theorem mrk_get {l : List Str} {j : Nat} {x : V} (hl : ∀ z ∈ l, z ∈ MRK) (h : (l.map V.str)[j]? = some x) : ∃ z, x = .str z ∧ z ∈ MRK := by
  rw [List.getElem?_map] at h
  cases e : l[j]? with
  | none => rw [e] at h; cases h
  | some z =>
    rw [e] at h
    cases h
    exact ⟨z, rfl, hl z (List.mem_of_getElem? e)⟩
def PK5 : List Str := ["x", "p", ".", ";", "f"]
theorem pk5 : ∀ z ∈ PK5, z ∈ MRK := by decide +kernel
section
variable {P : Program} {w : World} {K : PySem.W.Frag} {mg : Str → Option Value} {base : Heap} {aN aS CE : Addr}
abbrev sLE : Stmt := tp 25
abbrev NE : List Str := ["draw", "words", "first", "last", "turn"]
theorem scLE : FnScope NE ["draw", "words"] (defScope sLE) := ⟨rfl, rfl, rfl, by decide +kernel, rfl, by decide +kernel, by decide +kernel⟩
def spLE (K : PySem.W.Frag) (CE : Addr) : Sp := fun vs H Q _ => ∃ (d sa l : Addr) (ws : List Str), vs = [.ref d, .ref l] ∧ DrwS H d sa ∧ LsH H l ws ∧
  ∀ H' x e, Aft H H' d → DrwS H' d sa → EdH K CE H' x e → e.b ≤ ws.length → e.ws.length ≤ 2 → Q (.ref x) H'
theorem ok_le {f fN fP fI : Addr} {fd fdN fdP fdI : FuncData} (F : Fun K "_law_edit" "_law_edit" sLE f fd) (T : KC K mg aN aS) (mMin : mg "min" = none) (mR : mg "range" = none) (J : MkE P w K mg base CE fI fdI)
    (GN : FnOk P w K mg base CX0 3 fN fdN ["draw", "bound"] spNext) (bN : Binds K fdN ["draw", "bound"] []) (kN : PySem.W.keepIn K (.ref fN) = true) (mN : mg "_law_next" = some (.ref fN))
    (GP : FnOk P w K mg base CX0 4 fP fdP ["draw", "things"] (spPick K)) (bP : Binds K fdP ["draw", "things"] []) (kP : PySem.W.keepIn K (.ref fP) = true) (mP : mg "_law_pick" = some (.ref fP)) : FnOk P w K mg base CX0 6 f fd ["draw", "words"] (spLE K CE) := by
  refine F.ok scLE (fun vs H Q E h => ?_) (fun cdv A outer s H vs Q E hr h => ?_)
  · obtain ⟨_, _, _, _, rfl, _⟩ := h
    rfl
  obtain ⟨d, sa, l, ws, rfl, hd, hl, q⟩ := h
  have hr3 := hr.mono (show 3 ≤ 5 by decide)
  have hr4 := hr.mono (show 4 ≤ 5 by decide)
  refine ⟨_, pss_cons (ps_set (i := 2) scLE.nd rfl (Or.inl rfl) (pe_call GN hr3 rfl mN kN bN .nil pass0 (pa_cons (pv 0) (pa_cons (pe_op op_add (pe_callB call_len_seq rfl T.len PySem.boot_len (pa_cons (pv 1) pa_nil)) pe_int) pa_nil))))
    (pss_cons (ps_set (i := 3) scLE.nd rfl (Or.inl rfl) (pe_op op_add (pv 2) (pe_call GN hr3 rfl mN kN bN .nil pass0 (pa_cons (pv 0) (pa_cons (pe_op op_add
        (pe_callB (cr_min rfl) rfl mMin (by decide +kernel) (pa_cons (pe_lst (pa_cons pe_int (pa_cons (pe_op op_sub (pe_callB call_len_seq rfl T.len PySem.boot_len (pa_cons (pv 1) pa_nil)) (pv 2)) pa_nil))) pa_nil)) pe_int) pa_nil)))))
    (pss_one (ps_ret (pe_make J.M J.F hr rfl J.m J.b .nil pass0 (pa_cons (pv 2) (pa_cons (pv 3) (pa_cons
      (pe_lc (own := [("turn", 4)]) (g := gName 4) rfl scLE.nd (pi_range1 rfl mR (pa_cons (pe_call GN hr3 rfl mN kN bN .nil pass0 (pa_cons (pv 0) (pa_cons pe_int pa_nil))) pa_nil))
        (blkOk_by (N := NE) (sc := defScope sLE) (by decide +kernel)) (fun _ _ _ _ _ => pg_name (i := 4) scLE.nd rfl (Or.inl rfl)) (fun _ _ _ _ _ => pts_nil)
        (fun _ _ _ _ _ => pe_call GP hr4 rfl mP kP bP .nil pass0 (pa_cons (pv 0) (pa_cons (pe_lst (pa_cons pe_str (pa_cons pe_str (pa_cons pe_str (pa_cons pe_str (pa_cons pe_str pa_nil)))))) pa_nil)))) pa_nil))))))), ?_⟩
  have L : (ws.map V.str).length = ws.length := List.length_map ..
  have hsm := hl.sm
  refine ⟨_, rfl, _, rfl, l, _, rfl, .inl (SqL.of hl.at_), _, _, rfl, rfl, d, sa, _, rfl, hd, by omega, fun r1 H1 r10 r11 a1 d1 => ?_⟩
  rw [L] at r11
  obtain ⟨na, rfl⟩ : ∃ n : Nat, r1 = n := ⟨r1.toNat, by omega⟩
  have hl1 := hl.aft hd a1
  refine ⟨_, rfl, _, rfl, _, rfl, l, _, rfl, .inl (SqL.of hl1.at_), _, rfl, _, _, rfl, rfl, (by show 2 ≤ sizeLine; decide), fun p hp => ?_⟩
  have s2 := Same.new hp (.lst [.int 3, .int (((ws.map V.str).length : Int) - (na : Int))])
  have hp2 : upd H1 p (.lst [.int 3, .int (((ws.map V.str).length : Int) - (na : Int))]) p = some (.lst ([3, ((ws.map V.str).length : Int) - (na : Int)].map V.int)) := upd_same
  have d2 := d1.same s2
  have hl2 := hl1.same s2
  generalize upd H1 p (.lst [.int 3, .int (((ws.map V.str).length : Int) - (na : Int))]) = H2 at *
  refine ⟨p, [3, ((ws.map V.str).length : Int) - (na : Int)], rfl, SqL.of hp2, (by show 0 < 2; decide), fun m hm hle => ?_⟩
  have m0 : 0 ≤ m := by
    rcases List.mem_cons.mp hm with e | e
    · omega
    · have := List.mem_singleton.mp e
      rw [L] at this
      omega
  have m1 := hle (((ws.map V.str).length : Int) - (na : Int)) (List.mem_cons_of_mem _ (List.mem_singleton.mpr rfl))
  rw [L] at m1
  refine ⟨_, _, rfl, rfl, d, sa, _, rfl, d2, by omega, fun r2 H3 r20 r21 a3 d3 => ?_⟩
  obtain ⟨nb, rfl⟩ : ∃ n : Nat, r2 = n := ⟨r2.toNat, by omega⟩
  have hl3 := hl2.aft d2 a3
  refine ⟨_, _, rfl, rfl, _, rfl, _, rfl, _, rfl, d, sa, _, rfl, d3, by decide, fun r3 H4 r30 r31 a4 d4 => ⟨r3, rfl, by omega, by omega, fun D hD => ?_⟩⟩
  obtain ⟨nc, rfl⟩ : ∃ n : Nat, r3 = n := ⟨r3.toNat, by omega⟩
  have nD := d4.new hD
  have a14 : Aft H H4 d := (a1.trans (Aft.of s2)).trans (a3.trans a4)
  refine lc_inv nc (by omega) (fun i acc H' => Aft H4 H' d ∧ DrwS H' d sa ∧ ∃ us : List Str, acc = us.map V.str ∧ us.length ≤ i ∧ ∀ z ∈ us, z ∈ MRK)
    ⟨Aft.of (Same.new hD _), d4.upd nD.1 nD.2, [], rfl, Nat.le_refl _, fun z hz => (nomatch hz)⟩
    (fun i acc H5 Ny Nx hi hacc ⟨a5, d5, us, ea, hul, hum⟩ qy qx => ?_) (fun acc H5 hacc ⟨a5, d5, us, ea, hul, hum⟩ => ?_)
  · refine ⟨hi, fun x H6 yl => ?_⟩
    obtain ⟨e6, ex⟩ := yl
    subst H6
    refine ⟨rfl, _, rfl, (by show 5 ≤ sizeLine; decide), fun p5 hp5 => ?_⟩
    have s6 := Same.new hp5 (.lst (PK5.map V.str))
    have h6 : LsH (upd H5 p5 (.lst (PK5.map V.str))) p5 PK5 := ⟨upd_same, pk5, by decide⟩
    have d6 := d5.same s6
    have hacc6 := s6 _ _ hacc
    refine ⟨d, sa, p5, PK5.map V.str, rfl, d6, SqL.of h6.at_, h6.ne d6, (by decide), fun j x1 H7 hx1 a7 d7 => ?_⟩
    obtain ⟨z, rfl, hz⟩ := mrk_get pk5 hx1
    have hacc7 := a7 _ _ nD.1 hacc6
    refine qy _ _ hacc7 ⟨Aft.acc hD ((a5.trans (Aft.of s6)).trans a7), d7.upd nD.1 nD.2, us ++ [z], by rw [ea, List.map_append]; rfl, by rw [List.length_append]; show us.length + 1 ≤ i + 1; omega, fun y hy => ?_⟩
    rcases List.mem_append.mp hy with h | h
    · exact hum y h
    · cases List.mem_singleton.mp h
      exact hz
  · refine ⟨Nat.le_refl _, ?_⟩
    subst ea
    have ok : (⟨na, na + nb, us⟩ : Ed).Ok := ⟨by show na ≤ na + nb; omega, hum, by show us.length ≤ 200; omega, by show na + nb ≤ 400; omega⟩
    exact mk_edI (e := ⟨na, na + nb, us⟩) rfl (by show (na : Int) + (nb : Int) = ((na + nb : Nat) : Int); omega) (.inl (SqL.of hacc)) ok fun H' x s8 hx hE => q H' x _ ((a14.trans a5).trans (Aft.of s8)) (d5.same s8) hE (by show na + nb ≤ ws.length; omega) (by show us.length ≤ 2; omega)
end
end E5

end
section
set_option Elab.async false
set_option linter.all false
set_option maxRecDepth 100000
set_option maxHeartbeats 4000000
namespace E5
open PySem PySem.Spec PyProof.Rows L2
/-! ### the law: what it calls -/
abbrev sLaw : Stmt := tp 26
abbrev NL : List Str := ["script", "draw", "turn", "words", "now", "back", "edit", "gap", "last", "one", "two", "mine", "yours", "three"]
theorem scLaw : FnScope NL ["script"] (defScope sLaw) := ⟨rfl, rfl, rfl, by decide +kernel, rfl, by decide +kernel, by decide +kernel⟩
abbrev stL (i : Nat) : Stmt := (defBody sLaw).getD i (.Pass ⟨0, 0, 0, 0⟩)
abbrev XL (P : Program) (w : World) (K : PySem.W.Frag) (mg : Str → Option Value) (base : Heap) (fL : Addr) (cdv : Value) (A : Around) (outer : List Env) (s : Shared) (H : Hp) (E : XK) : Cx :=
  (cxOf CX0 P w K mg base NL "law" (defScope sLaw) fL cdv A outer s H E).nox
/-- a method of edits -/
structure Mth (P : Program) (w : World) (K : PySem.W.Frag) (mg : Str → Option Value) (base : Heap) (CE : Addr) (m : Str) (ps : List Str) (sp : Sp) : Prop where
  ex : ∃ f fd, Meth K CE m f ∧ FnOk P w K mg base CX0 6 f fd ps sp ∧ L2.Binds K fd ps []
/-- edits are called -/
structure ClO (P : Program) (w : World) (K : PySem.W.Frag) (mg : Str → Option Value) (base : Heap) (CE : Addr) : Prop where
  ex : ∃ f, StX.CallO K CE f ∧ FnR P w K mg base CX0 6 f (fun vs H Q E => spCallM K CE (vs ++ []) H Q E)
structure CK (P : Program) (w : World) (K : PySem.W.Frag) (mg : Str → Option Value) (base : Heap) (CE : Addr) : Prop where
  next : Cal P w K mg base "_law_next" ["draw", "bound"] spNext
  pick : Cal P w K mg base "_law_pick" ["draw", "things"] (spPick K)
  le : Cal P w K mg base "_law_edit" ["draw", "words"] (spLE K CE)
  shr : Cal P w K mg base "shrunk" ["words", "more"] (spShr K CE)
  car : Cal P w K mg base "carried" ["one", "other"] (spCar K CE)
  und : Mth P w K mg base CE "undone" ["self", "words"] (spUnd K CE)
  grow : Mth P w K mg base CE "growth" ["self"] (spGrow K CE)
  call : ClO P w K mg base CE
  made : ∃ fI fdI, MkE P w K mg base CE fI fdI
  cl : EC K CE
  range : mg "range" = none
  len : mg "len" = none
  bool : mg "bool" = none
/-! ### the edits that lead back -/
def Back : List Ed → List Str → List Str → Prop
  | [], N, W => N = W
  | r :: rs, N, W => r.b ≤ N.length ∧ N.length ≤ 100 ∧ (∀ x ∈ N, x ∈ MRK) ∧ Back rs (app r N) W
def EdsH (K : PySem.W.Frag) (CE : Addr) (H : Hp) : List Addr → List Ed → Prop
  | [], [] => True
  | c :: cs, e :: es => EdH K CE H c e ∧ EdsH K CE H cs es
  | _, _ => False
theorem EdsH.imp {K : PySem.W.Frag} {CE : Addr} {H H' : Hp} (f : ∀ c e, EdH K CE H c e → EdH K CE H' c e) : ∀ {cs : List Addr} {es : List Ed}, EdsH K CE H cs es → EdsH K CE H' cs es
  | [], [], _ => trivial
  | c :: cs, e :: es, h => ⟨f c e h.1, EdsH.imp f h.2⟩
  | [], e :: es, h => h.elim
  | c :: cs, [], h => h.elim
theorem EdsH.len {K : PySem.W.Frag} {CE : Addr} {H : Hp} : ∀ {cs : List Addr} {es : List Ed}, EdsH K CE H cs es → cs.length = es.length
  | [], [], _ => rfl
  | c :: cs, e :: es, h => congrArg (· + 1) (EdsH.len h.2)
  | [], e :: es, h => h.elim
  | c :: cs, [], h => h.elim
theorem EdsH.get {K : PySem.W.Frag} {CE : Addr} {H : Hp} : ∀ {cs : List Addr} {es : List Ed} {i : Nat} {c : Addr}, EdsH K CE H cs es → cs[i]? = some c → ∃ e, es[i]? = some e ∧ EdH K CE H c e
  | c :: cs, e :: es, 0, _, h, q => by
    cases q
    exact ⟨e, rfl, h.1⟩
  | c :: cs, e :: es, i + 1, c', h, q => by
    obtain ⟨e', h1, h2⟩ := EdsH.get (i := i) h.2 (by simpa using q)
    exact ⟨e', by simpa using h1, h2⟩
  | [], [], i, _, _, q => by simp at q
  | [], e :: es, _, _, h, _ => h.elim
  | c :: cs, [], _, _, h, _ => h.elim
theorem app_len {e : Ed} {l : List Str} (h : e.b ≤ l.length) (h2 : e.a ≤ e.b) : (app e l).length + e.b = l.length + e.a + e.ws.length := by
  unfold app
  rw [List.length_append, List.length_append, List.length_take, List.length_drop]
  omega
theorem app_mrk {e : Ed} {l : List Str} (h1 : ∀ x ∈ e.ws, x ∈ MRK) (h2 : ∀ x ∈ l, x ∈ MRK) : ∀ x ∈ app e l, x ∈ MRK := fun x hx => by
  unfold app at hx
  rcases List.mem_append.mp hx with h | h
  · rcases List.mem_append.mp h with h | h
    · exact h2 x (List.mem_of_mem_take h)
    · exact h1 x h
  · exact h2 x (List.mem_of_mem_drop h)
theorem app_und {e : Ed} {l : List Str} (h : e.b ≤ l.length) (h2 : e.a ≤ e.b) : app (und e l) (app e l) = l := by
  have la : (l.take e.a).length = e.a := by rw [List.length_take]; omega
  have lw : (l.take e.a ++ e.ws).length = e.a + e.ws.length := by rw [List.length_append, la]
  show (app e l).take e.a ++ (l.take e.b).drop e.a ++ (app e l).drop (e.a + e.ws.length) = l
  have t1 : (app e l).take e.a = l.take e.a := by
    unfold app
    rw [List.append_assoc, List.take_append_of_le_length (by omega), List.take_of_length_le (by omega)]
  have t2 : (app e l).drop (e.a + e.ws.length) = l.drop e.b := by
    unfold app
    rw [← lw, List.drop_left]
  rw [t1, t2]
  have t3 : l.take e.a = (l.take e.b).take e.a := by rw [List.take_take, Nat.min_eq_left h2]
  rw [t3, List.take_append_drop, List.take_append_drop]
section
variable {P : Program} {w : World} {K : PySem.W.Frag} {mg : Str → Option Value} {base : Heap} {fL CE : Addr} {cdv : Value} {A : Around} {outer : List Env} {s : Shared} {H0 : Hp} {E : XK}
theorem law0 : ∃ t, PS (XL P w K mg base fL cdv A outer s H0 E) (stL 0) t ∧ ∀ (D : Ends) (a : Addr) (ns : List Int) (H : Hp), SqL K H a (ns.map V.int) → ns.length ≤ 63 →
    (∀ d sa H', DrwS H' d sa → D.nx [some (.ref a), some (.ref d), none, none, none, none, none, none, none, none, none, none, none, none] H') → t D (L2.start NL [.ref a]) H := by
  refine ⟨_, ps_set (i := 1) scLaw.nd rfl (Or.inr rfl) (pe_lst (pa_cons (pe_slice (r := rSlL K) sl_list (pv 0) po_none (po_some pe_int)) (pa_cons pe_int (pa_cons pe_int pa_nil)))), ?_⟩
  intro D a ns H hS hl q
  refine ⟨_, rfl, _, rfl, a, _, rfl, hS, fun p hp => ⟨(by show 3 ≤ sizeLine; decide), fun d hd => ?_⟩⟩
  have s1 := Same.new hp (.lst (cutV (ns.map V.int) none (some 63)))
  have s2 := Same.new hd (.lst [.ref p, .int 0, .int 0])
  refine q d p _ ⟨ns.take 63, 0, upd_same, s2 _ _ ?_, by rw [List.length_take]; omega, Int.le_refl _⟩
  rw [upd_same]
  unfold cutV
  rw [show HT.sIx (ns.map V.int).length 0 none = 0 from rfl, show (some (63 : Int)) = some ((63 : Nat) : Int) from rfl, six0, List.drop_zero, Nat.sub_zero, List.map_take]
  by_cases h : 63 ≤ (ns.map V.int).length
  · rw [Nat.min_eq_left h]
  · rw [Nat.min_eq_right (by omega), List.take_of_length_le (Nat.le_refl _), List.take_of_length_le (by omega)]
theorem law1 (hr : Room 8 (XL P w K mg base fL cdv A outer s H0 E).A) (C : CK P w K mg base CE) : ∃ t, PS (XL P w K mg base fL cdv A outer s H0 E) (stL 1) t ∧ ∀ (D : Ends) (a d sa : Addr) (H : Hp), DrwS H d sa →
    (∀ l W H', DrwS H' d sa → LsH H' l W → W.length ≤ 8 → D.nx [some (.ref a), some (.ref d), none, some (.ref l), none, none, none, none, none, none, none, none, none, none] H') →
    t D [some (.ref a), some (.ref d), none, none, none, none, none, none, none, none, none, none, none, none] H := by
  refine ⟨_, ps_setLc (i := 3) (own := [("turn", 2)]) (g := gName 2) rfl scLaw.nd rfl rfl (sw_true rfl rfl rfl (by decide +kernel)) (pi_range1 rfl C.range (pa_cons (pe_cal C.next hr (pa_cons (pv 1) (pa_cons pe_int pa_nil))) pa_nil))
    (blkOk_by (N := NL) (sc := defScope sLaw) (by decide +kernel)) (fun _ _ _ _ _ => pg_name (i := 2) scLaw.nd rfl (Or.inl rfl)) (fun _ _ _ _ _ => pts_nil)
    (fun _ _ _ _ _ => pe_cal C.pick hr (pa_cons (pv 1) (pa_cons (pe_lst (pa_cons pe_str (pa_cons pe_str (pa_cons pe_str (pa_cons pe_str (pa_cons pe_str (pa_cons pe_str pa_nil))))))) pa_nil))), ?_⟩
  intro D a d sa H hd q
  refine ⟨_, rfl, d, sa, 9, rfl, hd, by decide, fun r3 H4 r30 r31 a4 d4 => ⟨r3, rfl, by omega, by omega, fun D2 hD => ?_⟩⟩
  obtain ⟨nc, rfl⟩ : ∃ n : Nat, r3 = n := ⟨r3.toNat, by omega⟩
  have nD := d4.new hD
  refine lc_inv nc (by omega) (fun i acc H' => Aft H4 H' d ∧ DrwS H' d sa ∧ ∃ us : List Str, acc = us.map V.str ∧ us.length ≤ i ∧ ∀ z ∈ us, z ∈ MRK)
    ⟨Aft.of (Same.new hD _), d4.upd nD.1 nD.2, [], rfl, Nat.le_refl _, fun z hz => (nomatch hz)⟩
    (fun i acc H5 Ny Nx hi hacc ⟨a5, d5, us, ea, hul, hum⟩ qy qx => ?_) (fun acc H5 hacc ⟨a5, d5, us, ea, hul, hum⟩ => ?_)
  · refine ⟨hi, fun x H6 yl => ?_⟩
    obtain ⟨e6, ex⟩ := yl
    subst H6
    refine ⟨rfl, _, rfl, (by show 6 ≤ sizeLine; decide), fun p5 hp5 => ?_⟩
    have s6 := Same.new hp5 (.lst (MRK.map V.str))
    have h6 : LsH (upd H5 p5 (.lst (MRK.map V.str))) p5 MRK := ⟨upd_same, fun z hz => hz, by decide⟩
    have d6 := d5.same s6
    have hacc6 := s6 _ _ hacc
    refine ⟨d, sa, p5, MRK.map V.str, rfl, d6, SqL.of h6.at_, h6.ne d6, (by decide), fun j x1 H7 hx1 a7 d7 => ?_⟩
    obtain ⟨z, rfl, hz⟩ := mrk_get (fun z hz => hz) hx1
    have hacc7 := a7 _ _ nD.1 hacc6
    refine qy _ _ hacc7 ⟨Aft.acc hD ((a5.trans (Aft.of s6)).trans a7), d7.upd nD.1 nD.2, us ++ [z], by rw [ea, List.map_append]; rfl, by rw [List.length_append]; show us.length + 1 ≤ i + 1; omega, fun y hy => ?_⟩
    rcases List.mem_append.mp hy with h | h
    · exact hum y h
    · cases List.mem_singleton.mp h
      exact hz
  · refine ⟨Nat.le_refl _, ?_⟩
    subst ea
    exact q D2 us H5 d5 ⟨hacc, hum, by omega⟩ (by omega)
theorem law2 : ∃ t, PS (XL P w K mg base fL cdv A outer s H0 E) (stL 2) t ∧ ∀ (D : Ends) (a d sa l : Addr) (W : List Str) (H : Hp), DrwS H d sa → LsH H l W →
    (∀ b H', DrwS H' d sa → LsH H' l W → H' b = some (.lst []) → b ≠ d → b ≠ sa → l ≠ b → D.nx [some (.ref a), some (.ref d), none, some (.ref l), some (.ref l), some (.ref b), none, none, none, none, none, none, none, none] H') →
    t D [some (.ref a), some (.ref d), none, some (.ref l), none, none, none, none, none, none, none, none, none, none] H := by
  refine ⟨_, ps_par (i := 4) (j := 5) rfl scLaw.nd rfl rfl (by decide) rfl rfl (pa_cons (pv 3) (pa_cons (pe_lst pa_nil) pa_nil)) rfl, ?_⟩
  intro D a d sa l W H hd hl q
  refine ⟨_, rfl, (by show 0 ≤ sizeLine; decide), fun b hb => ⟨_, _, rfl, ?_⟩⟩
  have s1 := Same.new hb (.lst [])
  exact q b _ (hd.same s1) (hl.same s1) upd_same (hd.new hb).1 (hd.new hb).2 (ne_of_none hl.at_ hb)
end
end E5

end
section
set_option Elab.async false
set_option linter.all false
set_option maxRecDepth 100000
set_option maxHeartbeats 4000000
namespace E5
open PySem PySem.Spec PyProof.Rows L2
theorem refs_nd {cs : List Addr} : ∀ (sa : Addr) (n : Int), HO.lst (cs.map V.ref) ≠ .lst [.ref sa, .int 0, .int n] := fun sa n z => by
  cases cs with
  | nil => cases z
  | cons c r =>
    cases r with
    | nil => cases z
    | cons => cases z
theorem SqT.put {K : PySem.W.Frag} {H : Hp} {p a : Addr} {ys zs xs : List V} (hp : H p = some (.lst ys)) (h : SqT K H a xs) : SqT K (upd H p (.lst zs)) a xs := by
  rcases h with (h | ⟨o, h⟩) | h
  · exact .inl (.inl (by rw [upd_ne (fun e => by rw [e, hp] at h; cases h)]; exact h))
  · exact .inl (.inr ⟨o, by rw [upd_ne (fun e => by rw [e, hp] at h; cases h)]; exact h⟩)
  · exact .inr h
theorem EdH.put {K : PySem.W.Frag} {CE p q : Addr} {H : Hp} {e : Ed} {ys zs : List V} (hp : H p = some (.lst ys)) (h : EdH K CE H q e) : EdH K CE (upd H p (.lst zs)) q e := by
  obtain ⟨dx, t, h1, h2, h3⟩ := h
  exact ⟨dx, t, by rw [upd_ne (fun z => by rw [z, hp] at h1; cases h1)]; exact h1, SqT.put hp h2, h3⟩
theorem LsH.put {p l : Addr} {H : Hp} {ws : List Str} {o : HO} (hn : l ≠ p) (h : LsH H l ws) : LsH (upd H p o) l ws := ⟨by rw [upd_ne hn]; exact h.at_, h.mrk, h.sm⟩
/-- how it stands between the turns -/
structure LInv (K : PySem.W.Frag) (CE : Addr) (H : Hp) (d sa lw bk nw : Addr) (W N : List Str) (rs : List Ed) (cs : List Addr) : Prop where
  dr : DrwS H d sa
  fw : LsH H lw W
  fn : LsH H nw N
  fb : H bk = some (.lst (cs.map V.ref))
  n1 : bk ≠ d
  n2 : bk ≠ sa
  n3 : lw ≠ bk
  n4 : nw ≠ bk
  es : EdsH K CE H cs.reverse rs
  ch : Back rs N W
theorem LInv.same {K : PySem.W.Frag} {CE : Addr} {H H' : Hp} {d sa lw bk nw : Addr} {W N : List Str} {rs : List Ed} {cs : List Addr} (s : Same H H') (h : LInv K CE H d sa lw bk nw W N rs cs) : LInv K CE H' d sa lw bk nw W N rs cs :=
  ⟨h.dr.same s, h.fw.same s, h.fn.same s, s _ _ h.fb, h.n1, h.n2, h.n3, h.n4, h.es.imp fun _ _ q => q.same s, h.ch⟩
theorem LInv.aft {K : PySem.W.Frag} {CE : Addr} {H H' : Hp} {d sa lw bk nw : Addr} {W N : List Str} {rs : List Ed} {cs : List Addr} (d' : DrwS H' d sa) (s : Aft H H' d) (h : LInv K CE H d sa lw bk nw W N rs cs) : LInv K CE H' d sa lw bk nw W N rs cs :=
  ⟨d', h.fw.aft h.dr s, h.fn.aft h.dr s, s _ _ h.n1 h.fb, h.n1, h.n2, h.n3, h.n4, h.es.imp fun _ _ q => q.aft h.dr s, h.ch⟩
section
variable {P : Program} {w : World} {K : PySem.W.Frag} {mg : Str → Option Value} {base : Heap} {fL CE : Addr} {cdv : Value} {A : Around} {outer : List Env} {s : Shared} {H0 : Hp} {E : XK}
theorem law3 (hr : Room 8 (XL P w K mg base fL cdv A outer s H0 E).A) (C : CK P w K mg base CE) : ∃ t, PS (XL P w K mg base fL cdv A outer s H0 E) (stL 3) t ∧ ∀ (D : Ends) (a d sa lw bk : Addr) (W : List Str) (H : Hp), DrwS H d sa → LsH H lw W → W.length ≤ 8 →
    H bk = some (.lst []) → bk ≠ d → bk ≠ sa → lw ≠ bk →
    (∀ nw N rs cs tn ed H', LInv K CE H' d sa lw bk nw W N rs cs → N.length ≤ 16 → rs.length ≤ 4 → D.nx [some (.ref a), some (.ref d), tn, some (.ref lw), some (.ref nw), some (.ref bk), ed, none, none, none, none, none, none, none] H') →
    t D [some (.ref a), some (.ref d), none, some (.ref lw), some (.ref lw), some (.ref bk), none, none, none, none, none, none, none, none] H := by
  have hr6 := hr.mono (show 6 ≤ 8 by decide)
  obtain ⟨fU, fdU, MU, GU, bU⟩ := C.und.ex
  obtain ⟨fC, cC, GC⟩ := C.call.ex
  refine ⟨_, ps_for PassesOwn.never rfl (pi_range1 rfl C.range (pa_cons pe_int pa_nil)) (pg_name (i := 2) scLaw.nd rfl (Or.inl rfl))
    (pss_cons (ps_set (i := 6) scLaw.nd rfl (Or.inl rfl) (pe_cal C.le hr (pa_cons (pv 1) (pa_cons (pv 4) pa_nil))))
    (pss_cons (ps_expr (pe_bm PySem.F.plainAttrs_list PySem.F.slot_list_append PySem.F.type_list_append mt_append (pv 5) (pa_cons (pe_meth (pv 6) C.cl.cl MU GU hr6 bU .nil pass0 (pa_cons (pv 4) pa_nil)) pa_nil)))
    (pss_one (ps_set (i := 4) scLaw.nd rfl (Or.inl rfl) (StX.pe_callO (pv 6) cC GC hr6 pass0 (pa_cons (pv 4) pa_nil)))))), ?_⟩
  intro D a d sa lw bk W H hd hw hW hb n1 n2 n3 q
  refine ⟨4, rfl, by decide, by decide, ?_⟩
  refine for_range (n := 4) (fun i σ H' => ∃ nw N rs cs tn ed, LInv K CE H' d sa lw bk nw W N rs cs ∧ N.length ≤ 8 + 2 * i ∧ rs.length = i ∧ σ = [some (.ref a), some (.ref d), tn, some (.ref lw), some (.ref nw), some (.ref bk), ed, none, none, none, none, none, none, none])
    ⟨lw, W, [], [], none, none, ⟨hd, hw, hw, hb, n1, n2, n3, n3, trivial, rfl⟩, by omega, rfl, rfl⟩ ?_ ?_
  · rintro i σ H1 hi ⟨nw, N, rs, cs, tn, ed, L, hN, hrs, rfl⟩
    refine ⟨_, rfl, _, rfl, d, sa, nw, N, rfl, L.dr, L.fn, fun H2 x e a2 d2 hx heb hew => ?_⟩
    have La := L.aft d2 a2
    obtain ⟨dx, t, hxi, hxt, hxo⟩ := id hx
    refine ⟨_, rfl, .inl ⟨rfl, _, .inl (.inl La.fb)⟩, _, rfl, x, dx, _, rfl, hxi, rfl, _, rfl, x, nw, e, N, rfl, hx, La.fn.wsl, heb, fun H3 y s3 hy hye => ?_⟩
    have L3 := La.same s3
    have hcl : cs.length ≤ 4 := by have := L3.es.len; rw [List.length_reverse] at this; omega
    refine ⟨bk, _, .ref y, rfl, rfl, L3.fb, small1000 (by rw [List.length_map]; omega), ?_⟩
    have hx3 := (hx.same s3).put (zs := cs.map V.ref ++ [.ref y]) L3.fb
    have hn3 := L3.fn.put (o := .lst (cs.map V.ref ++ [.ref y])) L3.n4
    refine ⟨_, rfl, x, rfl, _, rfl, .inr ?_, x, nw, e, N, rfl, hx3, hn3.wsl, heb, fun H5 n5 s5 hn5 hl5 => ?_⟩
    · obtain ⟨dx3, t3, hx3i, _⟩ := hx3
      exact ⟨dx3, _, hx3i⟩
    have hle := hxo.le
    have hal := app_len heb hxo.le
    have hm5 := app_mrk hxo.mrk L.fn.mrk
    refine ⟨n5, app e N, und e N :: rs, cs ++ [y], _, _, ⟨(L3.dr.upd L3.n1 L3.n2).same s5, (L3.fw.put L3.n3).same s5, ⟨hl5, hm5, by omega⟩, ?_, n1, n2, n3, ?_, ?_, ?_⟩, by have := hxo.le; omega, by show rs.length + 1 = i + 1; omega, rfl⟩
    · have z := s5 _ _ (upd_same (H := H3) (a := bk) (o := .lst (cs.map V.ref ++ [.ref y])))
      rw [z, List.map_append]
      rfl
    · exact fun z => by
        rw [z] at hn5
        rw [upd_same] at hn5
        cases hn5
    · rw [List.reverse_append]
      exact ⟨(hye.put L3.fb).same s5, L3.es.imp fun c e' q' => (q'.put L3.fb).same s5⟩
    · refine ⟨?_, by have := hxo.le; omega, hm5, ?_⟩
      · show e.a + e.ws.length ≤ (app e N).length
        omega
      · rw [app_und heb hxo.le]
        exact L.ch
  · rintro σ H1 ⟨nw, N, rs, cs, tn, ed, L, hN, hrs, rfl⟩
    exact q nw N rs cs tn ed H1 L (by omega) (by omega)
end
end E5

end
section
set_option Elab.async false
set_option linter.all false
set_option maxRecDepth 100000
set_option maxHeartbeats 4000000
namespace E5
open PySem PySem.Spec PyProof.Rows L2
theorem Back.sm : ∀ {rs : List Ed} {N W : List Str}, Back rs N W → W.length ≤ 100 → N.length ≤ 100
  | [], _, _, h, hW => by
    have e : _ = _ := h
    rw [e]
    exact hW
  | r :: rs, _, _, h, _ => h.2.1
theorem Back.drop {rs : List Ed} {L W : List Str} {i : Nat} {r : Ed} (h : Back (rs.drop i) L W) (hr : rs[i]? = some r) : r.b ≤ L.length ∧ Back (rs.drop (i + 1)) (app r L) W := by
  have hlt : i < rs.length := by
    by_cases z : i < rs.length
    · exact z
    · rw [List.getElem?_eq_none (by omega)] at hr
      cases hr
  rw [List.drop_eq_getElem_cons hlt] at h
  rw [List.getElem?_eq_getElem hlt] at hr
  cases hr
  exact ⟨h.1, h.2.2.2⟩
section
variable {P : Program} {w : World} {K : PySem.W.Frag} {mg : Str → Option Value} {base : Heap} {fL CE : Addr} {cdv : Value} {A : Around} {outer : List Env} {s : Shared} {H0 : Hp} {E : XK}
theorem law4 (hr : Room 8 (XL P w K mg base fL cdv A outer s H0 E).A) (C : CK P w K mg base CE) : ∃ t, PS (XL P w K mg base fL cdv A outer s H0 E) (stL 4) t ∧ ∀ (D : Ends) (a d lw bk nw : Addr) (W N : List Str) (tn ed : Option V) (H : Hp), LsH H lw W → LsH H nw N →
    (∀ g eg H', Same H H' → EdH K CE H' g eg → Shr eg W N → D.nx [some (.ref a), some (.ref d), tn, some (.ref lw), some (.ref nw), some (.ref bk), ed, some (.ref g), some (.ref nw), none, none, none, none, none] H') →
    t D [some (.ref a), some (.ref d), tn, some (.ref lw), some (.ref nw), some (.ref bk), ed, none, none, none, none, none, none, none] H := by
  refine ⟨_, ps_par (i := 7) (j := 8) rfl scLaw.nd rfl rfl (by decide) rfl rfl (pa_cons (pe_cal C.shr hr (pa_cons (pv 3) (pa_cons (pv 4) pa_nil))) (pa_cons (pv 4) pa_nil)) rfl, ?_⟩
  intro D a d lw bk nw W N tn ed H hw hn q
  exact ⟨_, rfl, _, rfl, lw, nw, W, N, rfl, hw.wsl, hn.wsl, fun H' g eg s1 hg hE hS => ⟨_, rfl, _, _, rfl, q g eg H' s1 hE hS⟩⟩
theorem law5 (hr : Room 8 (XL P w K mg base fL cdv A outer s H0 E).A) (C : CK P w K mg base CE) : ∃ t, PS (XL P w K mg base fL cdv A outer s H0 E) (stL 5) t ∧ ∀ (D : Ends) (a d lw bk nw g : Addr) (W N : List Str) (rs : List Ed) (cs : List Addr) (tn ed : Option V) (H : Hp),
    LsH H nw N → W.length ≤ 8 → H bk = some (.lst (cs.map V.ref)) → EdsH K CE H cs.reverse rs → Back rs N W →
    (∀ lz ed' H', Same H H' → LsH H' lz W → D.nx [some (.ref a), some (.ref d), tn, some (.ref lw), some (.ref nw), some (.ref bk), ed', some (.ref g), some (.ref lz), none, none, none, none, none] H') →
    t D [some (.ref a), some (.ref d), tn, some (.ref lw), some (.ref nw), some (.ref bk), ed, some (.ref g), some (.ref nw), none, none, none, none, none] H := by
  have hr6 := hr.mono (show 6 ≤ 8 by decide)
  obtain ⟨fC, cC, GC⟩ := C.call.ex
  refine ⟨_, ps_for PassesOwn.never rfl (pi_list (pe_revL (pv 5))) (pg_name (i := 6) scLaw.nd rfl (Or.inl rfl))
    (pss_one (ps_set (i := 8) scLaw.nd rfl (Or.inl rfl) (StX.pe_callO (pv 6) cC GC hr6 pass0 (pa_cons (pv 8) pa_nil)))), ?_⟩
  intro D a d lw bk nw g W N rs cs tn ed H hn hW hb hes hch q
  refine ⟨_, rfl, bk, _, rfl, SqL.of hb, fun p hp => ?_⟩
  have s1 := Same.new hp (.lst (cs.map V.ref).reverse)
  have hp1 : upd H p (.lst (cs.map V.ref).reverse) p = some (.lst (cs.reverse.map V.ref)) := by rw [upd_same, List.map_reverse]
  generalize upd H p (.lst (cs.map V.ref).reverse) = H1 at *
  have hl : (cs.reverse.map V.ref).length = rs.length := by rw [List.length_map]; exact hes.len
  refine ⟨p, rfl, ⟨_, SqL.of hp1⟩, ?_⟩
  refine for_list (xs := cs.reverse.map V.ref) (fun i σ H' => Same H1 H' ∧ ∃ lz L ed', LsH H' lz L ∧ Back (rs.drop i) L W ∧ σ = [some (.ref a), some (.ref d), tn, some (.ref lw), some (.ref nw), some (.ref bk), ed', some (.ref g), some (.ref lz), none, none, none, none, none])
    ⟨Same.refl _, nw, N, ed, hn.same s1, hch, rfl⟩ (fun i σ H' _ ⟨s2, _⟩ => SqL.of (s2 _ _ hp1)) ?_ ?_
  · rintro i x σ H2 hx ⟨s2, lz, L, ed', hL, hB, rfl⟩
    rw [List.getElem?_map] at hx
    cases ec : cs.reverse[i]? with
    | none => rw [ec] at hx; cases hx
    | some c =>
      rw [ec] at hx
      cases hx
      obtain ⟨r, hrr, hE⟩ := hes.get ec
      have hE2 := (hE.same s1).same s2
      obtain ⟨hb1, hB2⟩ := hB.drop hrr
      obtain ⟨dx, t, hi, _, ho⟩ := id hE2
      refine ⟨_, rfl, c, rfl, _, rfl, .inr ⟨dx, _, hi⟩, c, lz, r, L, rfl, hE2, hL.wsl, hb1, fun H3 n3 s3 hn3 hl3 => ?_⟩
      have hm := app_mrk ho.mrk hL.mrk
      exact ⟨s2.trans s3, n3, app r L, _, ⟨hl3, hm, by have := hB2.sm (by omega); omega⟩, hB2, rfl⟩
  · rintro σ H2 ⟨s2, lz, L, ed', hL, hB, rfl⟩
    rw [hl, List.drop_of_length_le (Nat.le_refl _)] at hB
    have e : L = W := hB
    subst e
    exact q lz ed' H2 (s1.trans s2) hL
end
end E5

end
section
set_option Elab.async false
set_option linter.all false
set_option maxRecDepth 100000
set_option maxHeartbeats 4000000
namespace E5
open PySem PySem.Spec PyProof.Rows L2
/-- what == , len and bool of edits ask -/
structure OwnK (P : Program) (w : World) (K : PySem.W.Frag) (mg : Str → Option Value) (base : Heap) (CE : Addr) : Prop where
  eq : ∃ f fd, PySem.W.findIn K (.ref CE) "__eq__" = some (some (.ref f)) ∧ PySem.W.isFn K (.ref f) = true ∧ FnOk P w K mg base CX0 1 f fd ["self", "other"] (spEqM K CE) ∧ L2.Binds K fd ["self", "other"] []
  ne : PySem.W.findIn K (.ref CE) "__ne__" = some (some (.builtin "object.__ne__"))
  ob : PySem.W.subIn K (.ref CE) (.type "object") = some true
  len : ∃ f fd, PySem.W.findIn K (.ref CE) "__len__" = some (some (.ref f)) ∧ PySem.W.isFn K (.ref f) = true ∧ FnOk P w K mg base CX0 1 f fd ["self"] (spLenM K CE) ∧ L2.Binds K fd ["self"] []
  bool : ∃ f fd, PySem.W.findIn K (.ref CE) "__bool__" = some (some (.ref f)) ∧ PySem.W.isFn K (.ref f) = true ∧ FnOk P w K mg base CX0 1 f fd ["self"] (spBoolM K CE) ∧ L2.Binds K fd ["self"] []
theorem mk_edV {K : PySem.W.Frag} {CE : Addr} {Q : Addr → Hp → Prop} {E : XK} {l : Addr} {i j : Int} {e : Ed} {H : Hp} (hi : i = e.a) (hj : j = e.b) (hS : SqE K H l (e.ws.map V.str)) (he : e.Ok) (q : ∀ H' x, Same H H' → H x = none → EdH K CE H' x e → Q x H') :
    ∀ x dx, H x = none → H dx = none → dx ≠ x → spInit K CE (.ref x :: ([.int i, .int j, .ref l] ++ [])) (upd (upd H dx (.own x)) x (.ins CE dx [])) (fun v H2 => v = .non ∧ Q x H2) E := by
  subst hi hj
  intro x dx hx hdx hne
  have s1 : Same H (upd (upd H dx (.own x)) x (.ins CE dx [])) := (Same.new hdx _).trans (Same.new (by rw [upd_ne (Ne.symm hne)]; exact hx) _)
  refine ⟨x, dx, l, e, rfl, upd_same, hS.same s1, he, fun H' hB hE => ⟨rfl, q H' x (fun b o hb => hB _ _ (fun z => ?_) (s1 _ _ hb)) hx hE⟩⟩
  rw [z, hx] at hb
  cases hb
theorem EdH.ins {K : PySem.W.Frag} {CE p : Addr} {H : Hp} {e : Ed} (h : EdH K CE H p e) : InsI H p CE := by
  obtain ⟨dx, t, h1, _⟩ := h
  exact ⟨dx, _, h1⟩
theorem EdH.insC {X : Cx} {K : PySem.W.Frag} {CE p : Addr} {H : Hp} {e : Ed} (h : EdH K CE H p e) : StX.InsC X H p CE := by
  obtain ⟨dx, t, h1, _⟩ := h
  exact .inr ⟨dx, _, h1⟩
theorem edB_of {e : Ed} {W N : List Str} (h : Shr e W N) (hle : e.a ≤ e.b) : edB e = !decide (W = N) := by
  by_cases c : W = N
  · rw [h.same c, decide_eq_true c]
    unfold edB
    simp
  · rw [decide_eq_false c]
    cases hb : edB e with
    | true => rfl
    | false =>
      exfalso
      unfold edB at hb
      rw [Bool.or_eq_false_iff] at hb
      have h1 : e.ws = [] := by
        cases hw : e.ws with
        | nil => rfl
        | cons x xs => rw [hw] at hb; simp at hb
      have h2 : ¬ e.a < e.b := of_decide_eq_false hb.2
      have h3 : e.b = e.a := by omega
      refine c (h.app ▸ ?_)
      unfold app
      rw [h1, h3, List.append_nil, List.take_append_drop]
section
variable {P : Program} {w : World} {K : PySem.W.Frag} {mg : Str → Option Value} {base : Heap} {fL CE : Addr} {cdv : Value} {A : Around} {outer : List Env} {s : Shared} {H0 : Hp} {E : XK}
abbrev sg (a d : Addr) (tn : Option V) (lw nw bk : Addr) (ed : Option V) (g lz : Addr) : L2.St := [some (.ref a), some (.ref d), tn, some (.ref lw), some (.ref nw), some (.ref bk), ed, some (.ref g), some (.ref lz), none, none, none, none, none]
theorem law6 (hr : Room 8 (XL P w K mg base fL cdv A outer s H0 E).A) (C : CK P w K mg base CE) (O : OwnK P w K mg base CE) : ∃ t, PS (XL P w K mg base fL cdv A outer s H0 E) (stL 6) t ∧ ∀ (D : Ends) (a d lw bk nw g lz : Addr) (W N : List Str) (eg : Ed) (tn ed : Option V) (H : Hp),
    LsH H lw W → LsH H nw N → LsH H lz W → EdH K CE H g eg → Shr eg W N → W.length ≤ 8 → N.length ≤ 16 →
    (∀ H', Same H H' → D.nx (sg a d tn lw nw bk ed g lz) H') → t D (sg a d tn lw nw bk ed g lz) H := by
  have hr6 := hr.mono (show 6 ≤ 8 by decide)
  obtain ⟨fC, cC, GC⟩ := C.call.ex
  obtain ⟨fU, fdU, MU, GU, bU⟩ := C.und.ex
  obtain ⟨fQ, fdQ, hQ1, hQ2, GQ, bQ⟩ := O.eq
  obtain ⟨fI, fdI, J⟩ := C.made
  have hu := hu64 hr
  refine ⟨_, ps_if (PW.pt (pw_or (pt_cmpR (op_neW hu) (pv 8) (pv 3) (nomark _))
    (pw_or (pt_cmpR (op_neW hu) (StX.pe_callO (pv 7) cC GC hr6 pass0 (pa_cons (pv 3) pa_nil)) (pv 4) (nomark _))
    (pw_or (pt_cmpR (op_neW hu) (StX.pe_callO (pe_meth (pv 7) C.cl.cl MU GU hr6 bU .nil pass0 (pa_cons (pv 3) pa_nil)) cC GC hr6 pass0 (pa_cons (pv 4) pa_nil)) (pv 3) (nomark _))
    (pw_or1 (pt_cmpR (op_neI hQ1 hQ2 O.ne O.ob GQ bQ (hr.mono (by decide))) (pe_cal C.shr hr (pa_cons (pv 3) (pa_cons (pv 3) pa_nil)))
      (pe_make (E := E0) J.M J.F (hr.mono (by decide)) rfl J.m J.b .nil pass0 (pa_cons (pe_callB call_len_seq rfl C.len PySem.boot_len (pa_cons (pv 3) pa_nil)) (pa_cons (pe_callB call_len_seq rfl C.len PySem.boot_len (pa_cons (pv 3) pa_nil)) (pa_cons (pe_lst pa_nil) pa_nil)))) (nomark _))))))) (pss_one ps_never) pss_nil, ?_⟩
  intro D a d lw bk nw g lz W N eg tn ed H hw hn hz hE hS lW lN q
  obtain ⟨dx, t, hi, ht, ho⟩ := id hE
  refine ⟨_, rfl, _, rfl, lz, lw, W, W, rfl, rfl, hz.wsl.at_, hw.wsl.at_, hw.mrk, hw.mrk, _, rfl, iteFF (by rw [decide_eq_true rfl]; rfl) ?_⟩
  refine ⟨_, rfl, g, rfl, _, rfl, hE.insC, g, lw, eg, W, rfl, hE, hw.wsl, hS.le, fun H1 n1 s1 hn1 hl1 => ?_⟩
  rw [hS.app] at hl1
  refine ⟨_, rfl, n1, nw, N, N, rfl, rfl, SqL.of hl1, (hn.same s1).wsl.at_, hn.mrk, hn.mrk, _, rfl, iteFF (by rw [decide_eq_true rfl]; rfl) ?_⟩
  have hE1 := hE.same s1
  refine ⟨_, rfl, g, dx, _, rfl, s1 _ _ hi, rfl, _, rfl, g, lw, eg, W, rfl, hE1, (hw.same s1).wsl, hS.le, fun H2 u s2 hu2 hEu => ?_⟩
  have s12 := s1.trans s2
  have hub : (und eg W).b ≤ N.length := by
    have z := app_len hS.le ho.le
    rw [hS.app] at z
    show eg.a + eg.ws.length ≤ N.length
    have := hS.le
    omega
  refine ⟨u, rfl, _, rfl, hEu.insC, u, nw, und eg W, N, rfl, hEu, (hn.same s12).wsl, hub, fun H3 n3 s3 hn3 hl3 => ?_⟩
  have s13 := s12.trans s3
  have e3 : app (und eg W) N = W := by
    have z := app_und hS.le ho.le
    rw [hS.app] at z
    exact z
  rw [e3] at hl3
  refine ⟨_, rfl, n3, lw, W, W, rfl, rfl, SqL.of hl3, (hw.same s13).wsl.at_, hw.mrk, hw.mrk, _, rfl, iteFF (by rw [decide_eq_true rfl]; rfl) ?_⟩
  have hw3 := hw.same s13
  refine ⟨_, rfl, _, rfl, lw, lw, W, W, rfl, hw3.wsl, hw3.wsl, fun H4 x e s4 hx hEx hSx => ?_⟩
  have hw4 := hw3.same s4
  have ee := hSx.same rfl
  subst ee
  refine ⟨_, rfl, lw, _, rfl, .inl hw4.wsl.at_, _, rfl, lw, _, rfl, .inl hw4.wsl.at_, (by show 0 ≤ sizeLine; decide), fun p hp => ?_⟩
  have s5 := Same.new hp (.lst [])
  have c5 : upd H4 p (.lst []) p = some (.lst (([] : List Str).map V.str)) := upd_same
  generalize upd H4 p (.lst []) = H5 at *
  have L : (W.map V.str).length = W.length := List.length_map ..
  have ok : (⟨W.length, W.length, []⟩ : Ed).Ok := ⟨Nat.le_refl _, fun x hx => (nomatch hx), Nat.zero_le _, by show W.length ≤ 400; omega⟩
  have el : (((W.map V.str).length : Nat) : Int) = ((W.length : Nat) : Int) := by rw [L]
  refine mk_edV (i := (((W.map V.str).length : Nat) : Int)) (j := (((W.map V.str).length : Nat) : Int)) (e := ⟨W.length, W.length, []⟩) el el (.inl (SqL.of c5)) ok fun H6 y s6 hy hEy => ?_
  have hEx6 := (hEx.same s5).same s6
  refine ⟨x, y, rfl, rfl, hEx6.ins, hEy.ins, x, y, _, rfl, hEx6, hEy, true, rfl, _, rfl, iteF ?_⟩
  exact q H6 (((s13.trans s4).trans s5).trans s6)
theorem law7 (hr : Room 8 (XL P w K mg base fL cdv A outer s H0 E).A) (C : CK P w K mg base CE) (O : OwnK P w K mg base CE) : ∃ t, PS (XL P w K mg base fL cdv A outer s H0 E) (stL 7) t ∧ ∀ (D : Ends) (a d lw bk nw g lz : Addr) (W N : List Str) (eg : Ed) (tn ed : Option V) (H : Hp),
    LsH H lw W → LsH H nw N → EdH K CE H g eg → Shr eg W N → W.length ≤ 8 → N.length ≤ 16 →
    (∀ H', Same H H' → D.nx (sg a d tn lw nw bk ed g lz) H') → t D (sg a d tn lw nw bk ed g lz) H := by
  obtain ⟨fN, fdN, hN1, hN2, GN, bN⟩ := O.len
  obtain ⟨fB, fdB, hB1, hB2, GB, bB⟩ := O.bool
  have hu := hu64 hr
  refine ⟨_, ps_if (PW.pt (pw_or (pt_cmpR op_gt (pe_op op_sub (pe_op op_add (pe_callB (call_lenI hN1 hN2 GN bN (hr.mono (by decide))) rfl C.len PySem.boot_len (pa_cons (pv 7) pa_nil)) (pe_fld (pv 7) rfl)) (pe_fld (pv 7) rfl))
      (pe_op op_add (pe_callB call_len_seq rfl C.len PySem.boot_len (pa_cons (pv 3) pa_nil)) (pe_callB call_len_seq rfl C.len PySem.boot_len (pa_cons (pv 4) pa_nil))) (nomark _))
    (pw_or (pt_cmpR op_ne (pe_callTy (call_boolI hB1 hB2 GB bB (hr.mono (by decide))) rfl C.bool (by decide +kernel) (pa_cons (pv 7) pa_nil)) (pe_cmpR (op_neW hu) (pv 3) (pv 4) (nomark _)) (nomark _))
    (pw_or1 (pt_cmpR op_ne (pe_callTy (call_boolI hB1 hB2 GB bB (hr.mono (by decide))) rfl C.bool (by decide +kernel) (pa_cons (pe_cal C.shr hr (pa_cons (pv 4) (pa_cons (pv 3) pa_nil))) pa_nil)) (pe_cmpR (op_neW hu) (pv 3) (pv 4) (nomark _)) (nomark _)))))) (pss_one ps_never) pss_nil, ?_⟩
  intro D a d lw bk nw g lz W N eg tn ed H hw hn hE hS lW lN q
  obtain ⟨dx, t, hi, ht, ho⟩ := id hE
  have LW : (W.map V.str).length = W.length := List.length_map ..
  have LN : (N.map V.str).length = N.length := List.length_map ..
  have hf := hS.few
  have hle := ho.le
  have hsm := ho.sm
  refine ⟨_, rfl, g, rfl, hE.ins, g, eg, rfl, hE, eg.ws.length, rfl, by omega, ?_⟩
  refine ⟨_, rfl, g, CE, dx, _, .int eg.b, rfl, hi, C.cl.cl, C.cl.nL, rfl, _, _, rfl, rfl, _, rfl, g, CE, dx, _, .int eg.a, rfl, hi, C.cl.cl, C.cl.nF, rfl, _, _, rfl, rfl, ?_⟩
  refine ⟨_, rfl, lw, _, rfl, .inl hw.wsl.at_, _, rfl, nw, _, rfl, .inl hn.wsl.at_, _, _, rfl, rfl, _, _, rfl, rfl, _, rfl, iteFF (decide_eq_false (by rw [LW, LN]; omega)) ?_⟩
  refine ⟨_, rfl, g, rfl, hE.ins, g, eg, rfl, hE, edB eg, rfl, _, rfl, _, rfl, lw, nw, W, N, rfl, rfl, hw.wsl.at_, hn.wsl.at_, hw.mrk, hn.mrk, rfl, _, rfl, ?_⟩
  rw [edB_of hS hle]
  refine iteFF (by rw [decide_eq_true rfl]; rfl) ?_
  refine ⟨_, rfl, _, rfl, nw, lw, N, W, rfl, hn.wsl, hw.wsl, fun H1 x e s1 hx hEx hSx => ?_⟩
  obtain ⟨dx2, t2, hi2, _, ho2⟩ := id hEx
  refine ⟨x, rfl, hEx.ins, x, e, rfl, hEx, edB e, rfl, _, rfl, _, rfl, lw, nw, W, N, rfl, rfl, (hw.same s1).wsl.at_, (hn.same s1).wsl.at_, hw.mrk, hn.mrk, rfl, _, rfl, ?_⟩
  rw [edB_of hSx ho2.le]
  have ec : decide (N = W) = decide (W = N) := by
    by_cases c : W = N
    · rw [decide_eq_true c, decide_eq_true c.symm]
    · rw [decide_eq_false c, decide_eq_false fun z => c z.symm]
  rw [ec]
  exact iteFF (by rw [decide_eq_true rfl]; rfl) (q H1 s1)
end
end E5

end
section
set_option Elab.async false
set_option linter.all false
set_option maxRecDepth 100000
set_option maxHeartbeats 4000000
namespace E5
open PySem PySem.Spec PyProof.Rows L2
/-! ### two edits apart -/
theorem app_apart {e f : Ed} {l : List Str} (he : e.a ≤ e.b) (hf : f.a ≤ f.b) (h : e.b ≤ f.a) (hl : f.b ≤ l.length) : app e (app f l) = app (mv f e) (app e l) := by
  have la : (l.take e.a).length = e.a := by rw [List.length_take]; omega
  have lf : (l.take f.a).length = f.a := by rw [List.length_take]; omega
  have lw : (l.take e.a ++ e.ws).length = e.a + e.ws.length := by rw [List.length_append, la]
  have l1 : (app f l).take e.a = l.take e.a := by
    unfold app
    rw [List.append_assoc, List.take_append_of_le_length (by omega), List.take_take, Nat.min_eq_left (by omega)]
  have l2 : (app f l).drop e.b = (l.drop e.b).take (f.a - e.b) ++ f.ws ++ l.drop f.b := by
    unfold app
    rw [List.append_assoc, List.drop_append_of_le_length (by omega), List.drop_take, List.append_assoc]
  have r1 : (app e l).take (mv f e).a = l.take e.a ++ e.ws ++ (l.drop e.b).take (f.a - e.b) := by
    show (l.take e.a ++ e.ws ++ l.drop e.b).take (f.a + e.ws.length - (e.b - e.a)) = _
    rw [List.take_append, List.take_of_length_le (by omega), lw]
    congr 2
    omega
  have r2 : (app e l).drop (mv f e).b = l.drop f.b := by
    show (l.take e.a ++ e.ws ++ l.drop e.b).drop (f.b + e.ws.length - (e.b - e.a)) = _
    rw [List.drop_append, List.drop_of_length_le (by omega), lw, List.nil_append, List.drop_drop]
    congr 1
    omega
  show (app f l).take e.a ++ e.ws ++ (app f l).drop e.b = (app e l).take (mv f e).a ++ f.ws ++ (app e l).drop (mv f e).b
  rw [l1, l2, r1, r2]
  simp only [List.append_assoc]
theorem grow_mv {e f : Ed} (he : e.a ≤ e.b) (hf : f.a ≤ f.b) (h : f.b ≤ e.a) : grow (mv e f) = grow e := by
  show (e.ws.length : Int) - (((e.b + f.ws.length - (f.b - f.a) : Nat) : Int) - ((e.a + f.ws.length - (f.b - f.a) : Nat) : Int)) = (e.ws.length : Int) - ((e.b : Int) - (e.a : Int))
  omega
theorem car_lo {e f : Ed} (he : e.a ≤ e.b) (hf : f.a ≤ f.b) (h : e.b < f.a) : car e f = some e := by
  unfold car
  rw [if_neg (by omega), if_pos (by omega)]
theorem car_hi {e f : Ed} (h : f.b ≤ e.a) : car e f = some (mv e f) := by
  unfold car
  rw [if_pos h]
/-- what the law asks of two edits apart -/
structure Apart (e1 e2 m y : Ed) (W : List Str) : Prop where
  cm : car e1 e2 = some m
  cy : car e2 e1 = some y
  eq : app m (app e2 W) = app y (app e1 W)
  ws : m.ws = e1.ws
  b1 : m.b ≤ (app e2 W).length
  b2 : y.b ≤ (app e1 W).length
  g : grow m = grow e1
theorem apart_of {e1 e2 : Ed} {W : List Str} (o1 : e1.Ok) (o2 : e2.Ok) (h1 : e1.b ≤ W.length) (h2 : e2.b ≤ W.length) (h : e1.b < e2.a ∨ e2.b < e1.a) : ∃ m y, Apart e1 e2 m y W := by
  have l1 := o1.le
  have l2 := o2.le
  have a1 := app_len h1 l1
  have a2 := app_len h2 l2
  rcases h with h | h
  · refine ⟨e1, mv e2 e1, car_lo l1 l2 h, car_hi (by omega), app_apart l1 l2 (by omega) h2, rfl, by omega, ?_, rfl⟩
    show e2.b + e1.ws.length - (e1.b - e1.a) ≤ (app e1 W).length
    omega
  · refine ⟨mv e1 e2, e2, car_hi (by omega), car_lo l2 l1 h, (app_apart l2 l1 (by omega) h1).symm, rfl, ?_, by omega, grow_mv l1 l2 (by omega)⟩
    show e1.b + e2.ws.length - (e2.b - e2.a) ≤ (app e2 W).length
    omega
theorem car_nul (m : Ed) : car m ⟨0, 0, []⟩ = some m := by
  rw [car_hi (Nat.zero_le _)]
  show some (⟨m.a + 0 - (0 - 0), m.b + 0 - (0 - 0), m.ws⟩ : Ed) = some m
  simp
theorem car_not {e1 e2 : Ed} (h1 : e1.a < e2.b) (h2 : e2.a < e1.b) : car e1 e2 = none := by
  unfold car
  rw [if_neg (by omega), if_neg (by omega)]
/-- what is carried has the same words and growth -/
theorem car_same {e1 e2 m : Ed} (l1 : e1.a ≤ e1.b) (l2 : e2.a ≤ e2.b) (h : car e1 e2 = some m) : m.ws = e1.ws ∧ grow m = grow e1 := by
  unfold car at h
  by_cases c : e2.b ≤ e1.a
  · rw [if_pos c] at h
    cases h
    exact ⟨rfl, grow_mv l1 l2 c⟩
  · rw [if_neg c] at h
    by_cases c2 : e1.b ≤ e2.a
    · rw [if_pos c2] at h
      cases h
      exact ⟨rfl, rfl⟩
    · rw [if_neg c2] at h
      cases h
end E5

end
section
set_option Elab.async false
set_option linter.all false
set_option maxRecDepth 100000
set_option maxHeartbeats 4000000
namespace E5
open PySem PySem.Spec PyProof.Rows L2
theorem or_one {t u : TT} {σ : L2.St} {H : Hp} {Q : Bool → Hp → Prop} {c d : Prop} [Decidable c] [Decidable d] (ht : ∀ Q' : Bool → Hp → Prop, Q' (decide c) H → t σ H Q') (hu : ¬ c → ∀ Q' : Bool → Hp → Prop, Q' (decide d) H → u σ H Q')
    (q : Q (decide (c ∨ d)) H) : tOr t u σ H Q := by
  unfold tOr
  refine ht _ ?_
  by_cases hc : c
  · rw [decide_eq_true hc]
    refine iteT ?_
    rw [decide_eq_true (Or.inl hc)] at q
    exact q
  · rw [decide_eq_false hc]
    refine iteF (hu hc _ ?_)
    have e : decide (c ∨ d) = decide d := by
      by_cases hd : d
      · rw [decide_eq_true hd, decide_eq_true (Or.inr hd)]
      · rw [decide_eq_false hd, decide_eq_false fun z => z.elim hc hd]
    rw [← e]
    exact q
section
variable {P : Program} {w : World} {K : PySem.W.Frag} {mg : Str → Option Value} {base : Heap} {fL CE : Addr} {cdv : Value} {A : Around} {outer : List Env} {s : Shared} {H0 : Hp} {E : XK}
abbrev s8 (a d : Addr) (tn : Option V) (lw nw bk : Addr) (ed : Option V) (g lz x1 x2 : Addr) : L2.St := [some (.ref a), some (.ref d), tn, some (.ref lw), some (.ref nw), some (.ref bk), ed, some (.ref g), some (.ref lz), some (.ref x1), some (.ref x2), none, none, none]
abbrev s9 (a d : Addr) (tn : Option V) (lw nw bk : Addr) (ed : Option V) (g lz x1 x2 : Addr) (u v : V) : L2.St := [some (.ref a), some (.ref d), tn, some (.ref lw), some (.ref nw), some (.ref bk), ed, some (.ref g), some (.ref lz), some (.ref x1), some (.ref x2), some u, some v, none]
theorem law8 (hr : Room 8 (XL P w K mg base fL cdv A outer s H0 E).A) (C : CK P w K mg base CE) : ∃ t, PS (XL P w K mg base fL cdv A outer s H0 E) (stL 8) t ∧ ∀ (D : Ends) (a d sa lw bk nw g lz : Addr) (W : List Str) (tn ed : Option V) (H : Hp), DrwS H d sa → LsH H lw W →
    (∀ x1 x2 e1 e2 H', LsH H' lw W → EdH K CE H' x1 e1 → EdH K CE H' x2 e2 → e1.b ≤ W.length → e2.b ≤ W.length → e1.ws.length ≤ 2 → e2.ws.length ≤ 2 → D.nx (s8 a d tn lw nw bk ed g lz x1 x2) H') → t D (sg a d tn lw nw bk ed g lz) H := by
  refine ⟨_, ps_par (i := 9) (j := 10) rfl scLaw.nd rfl rfl (by decide) rfl rfl (pa_cons (pe_cal C.le hr (pa_cons (pv 1) (pa_cons (pv 3) pa_nil))) (pa_cons (pe_cal C.le hr (pa_cons (pv 1) (pa_cons (pv 3) pa_nil))) pa_nil)) rfl, ?_⟩
  intro D a d sa lw bk nw g lz W tn ed H hd hw q
  refine ⟨_, rfl, _, rfl, d, sa, lw, W, rfl, hd, hw, fun H1 x1 e1 a1 d1 h1 b1 w1 => ?_⟩
  have hw1 := hw.aft hd a1
  refine ⟨_, rfl, _, rfl, d, sa, lw, W, rfl, d1, hw1, fun H2 x2 e2 a2 d2 h2 b2 w2 => ⟨_, _, rfl, ?_⟩⟩
  exact q x1 x2 e1 e2 H2 (hw1.aft d1 a2) (h1.aft d1 a2) h2 b1 b2 w1 w2
theorem law9 (hr : Room 8 (XL P w K mg base fL cdv A outer s H0 E).A) (C : CK P w K mg base CE) : ∃ t, PS (XL P w K mg base fL cdv A outer s H0 E) (stL 9) t ∧ ∀ (D : Ends) (a d lw bk nw g lz x1 x2 : Addr) (W : List Str) (e1 e2 : Ed) (tn ed : Option V) (H : Hp), LsH H lw W → EdH K CE H x1 e1 → EdH K CE H x2 e2 →
    e1.b ≤ W.length → e2.b ≤ W.length → e1.ws.length ≤ 2 → e2.ws.length ≤ 2 → W.length ≤ 8 →
    (∀ u v H', Same H H' → OpH K CE H' u (car e1 e2) → OpH K CE H' v (car e2 e1) → D.nx (s9 a d tn lw nw bk ed g lz x1 x2 u v) H') → t D (s8 a d tn lw nw bk ed g lz x1 x2) H := by
  refine ⟨_, ps_par (i := 11) (j := 12) rfl scLaw.nd rfl rfl (by decide) rfl rfl (pa_cons (pe_cal C.car hr (pa_cons (pv 9) (pa_cons (pv 10) pa_nil))) (pa_cons (pe_cal C.car hr (pa_cons (pv 10) (pa_cons (pv 9) pa_nil))) pa_nil)) rfl, ?_⟩
  intro D a d lw bk nw g lz x1 x2 W e1 e2 tn ed H hw h1 h2 b1 b2 w1 w2 lW q
  refine ⟨_, rfl, _, rfl, x1, x2, e1, e2, rfl, h1, h2, by omega, fun H1 u s1 hu => ?_⟩
  refine ⟨_, rfl, _, rfl, x2, x1, e2, e1, rfl, h2.same s1, h1.same s1, by omega, fun H2 v s2 hv => ⟨_, _, rfl, ?_⟩⟩
  exact q u v H2 (s1.trans s2) (hu.same s2) hv
theorem law10 (hr : Room 8 (XL P w K mg base fL cdv A outer s H0 E).A) (C : CK P w K mg base CE) : ∃ t, PS (XL P w K mg base fL cdv A outer s H0 E) (stL 10) t ∧ ∀ (D : Ends) (a d lw bk nw g lz x1 x2 : Addr) (W : List Str) (e1 e2 : Ed) (u v : V) (tn ed : Option V) (H : Hp), LsH H lw W → EdH K CE H x1 e1 → EdH K CE H x2 e2 →
    e1.b ≤ W.length → e2.b ≤ W.length → e1.ws.length ≤ 2 → e2.ws.length ≤ 2 → W.length ≤ 8 → OpH K CE H u (car e1 e2) → OpH K CE H v (car e2 e1) →
    (∀ H', D.rt (.bl true) H') → (¬ (e1.b < e2.a ∨ e2.b < e1.a) → D.nx (s9 a d tn lw nw bk ed g lz x1 x2 u v) H) → t D (s9 a d tn lw nw bk ed g lz x1 x2 u v) H := by
  have hr6 := hr.mono (show 6 ≤ 8 by decide)
  obtain ⟨fC, cC, GC⟩ := C.call.ex
  obtain ⟨fG, fdG, MG, GG, bG⟩ := C.grow.ex
  obtain ⟨fI, fdI, J⟩ := C.made
  have hu := hu64 hr
  refine ⟨_, ps_if (PW.pt (pw_or (pt_cmpR op_lt (pe_fld (pv 9) rfl) (pe_fld (pv 10) rfl) (nomark _)) (pw_or1 (pt_cmpR op_lt (pe_fld (pv 10) rfl) (pe_fld (pv 9) rfl) (nomark _)))))
    (pss_cons (ps_if (PW.pt (pw_or (pt_cmp (pc_isN (pv 11))) (pw_or (pt_cmp (pc_isN (pv 12)))
      (pw_or (pt_cmpR (op_neW hu) (StX.pe_callO (pv 11) cC GC hr6 pass0 (pa_cons (StX.pe_callO (pv 10) cC GC hr6 pass0 (pa_cons (pv 3) pa_nil)) pa_nil)) (StX.pe_callO (pv 12) cC GC hr6 pass0 (pa_cons (StX.pe_callO (pv 9) cC GC hr6 pass0 (pa_cons (pv 3) pa_nil)) pa_nil)) (nomark _))
      (pw_or1 (pt_cmpR (op_neTW hu) (pe_fld (pv 11) rfl) (pe_fld (pv 9) rfl) (nomark _))))))) (pss_one ps_never) pss_nil)
    (pss_cons (ps_set (i := 13) scLaw.nd rfl (Or.inl rfl) (pe_cal C.car hr (pa_cons (pe_cal C.car hr (pa_cons (pv 9) (pa_cons (pv 10) pa_nil))) (pa_cons (pe_make (E := E0) J.M J.F (hr.mono (by decide)) rfl J.m J.b .nil pass0 (pa_cons pe_int (pa_cons pe_int (pa_cons (pe_lst pa_nil) pa_nil)))) pa_nil))))
    (pss_one (ps_ret (pe_and (pe_cmpR (op_eqW hu) (StX.pe_callO (pv 13) cC GC hr6 pass0 (pa_cons (StX.pe_callO (pv 10) cC GC hr6 pass0 (pa_cons (pv 3) pa_nil)) pa_nil)) (StX.pe_callO (pv 11) cC GC hr6 pass0 (pa_cons (StX.pe_callO (pv 10) cC GC hr6 pass0 (pa_cons (pv 3) pa_nil)) pa_nil)) (nomark _))
      (pe_one (pe_cmpR op_eq (pe_meth0 (pv 11) C.cl.cl MG GG hr6 bG .nil pass0) (pe_meth0 (pv 9) C.cl.cl MG GG hr6 bG .nil pass0) (nomark _)))))))) pss_nil, ?_⟩
  intro D a d lw bk nw g lz x1 x2 W e1 e2 u v tn ed H hw h1 h2 b1 b2 w1 w2 lW ou ov q qn
  obtain ⟨dx1, t1, hi1, ht1, ho1⟩ := id h1
  obtain ⟨dx2, t2, hi2, ht2, ho2⟩ := id h2
  refine or_one (c := (e1.b : Int) < (e2.a : Int)) (d := (e2.b : Int) < (e1.a : Int))
    (fun Q' q' => ⟨_, rfl, x1, CE, dx1, _, .int e1.b, rfl, hi1, C.cl.cl, C.cl.nL, rfl, _, rfl, x2, CE, dx2, _, .int e2.a, rfl, hi2, C.cl.cl, C.cl.nF, rfl, _, _, rfl, rfl, _, rfl, q'⟩)
    (fun _ Q' q' => ⟨_, rfl, x2, CE, dx2, _, .int e2.b, rfl, hi2, C.cl.cl, C.cl.nL, rfl, _, rfl, x1, CE, dx1, _, .int e1.a, rfl, hi1, C.cl.cl, C.cl.nF, rfl, _, _, rfl, rfl, _, rfl, q'⟩) (ite2d (fun c => ?_) (fun c => qn fun z => c (z.imp (fun _ => by omega) fun _ => by omega)))
  obtain ⟨m, y, B⟩ := apart_of ho1 ho2 b1 b2 (c.imp (fun z => by omega) fun z => by omega)
  rw [B.cm] at ou
  rw [B.cy] at ov
  obtain ⟨xm, rfl, hm⟩ := ou
  obtain ⟨xy, rfl, hy⟩ := ov
  have l1 := ho1.le
  have l2 := ho2.le
  have la1 := app_len b1 l1
  have la2 := app_len b2 l2
  have ww1 : ∀ {H' : Hp} {n : Addr}, H' n = some (.lst ((app e1 W).map V.str)) → WsL K H' n (app e1 W) := fun h => ⟨SqL.of h, app_mrk ho1.mrk hw.mrk, by omega⟩
  have ww2 : ∀ {H' : Hp} {n : Addr}, H' n = some (.lst ((app e2 W).map V.str)) → WsL K H' n (app e2 W) := fun h => ⟨SqL.of h, app_mrk ho2.mrk hw.mrk, by omega⟩
  obtain ⟨dxm, tm, him, htm, hom⟩ := id hm
  have mm := app_mrk hom.mrk (app_mrk ho2.mrk hw.mrk)
  refine ⟨_, rfl, _, rfl, iteFF (decide_eq_false fun z => nomatch z) ?_⟩
  refine ⟨_, rfl, _, rfl, iteFF (decide_eq_false fun z => nomatch z) ?_⟩
  refine ⟨_, rfl, xm, rfl, _, rfl, x2, rfl, _, rfl, h2.insC, x2, lw, e2, W, rfl, h2, hw.wsl, b2, fun H1 n1 s1 hn1 hl1 => ?_⟩
  have hm1 := hm.same s1
  refine ⟨hm1.insC, xm, n1, m, app e2 W, rfl, hm1, ww2 hl1, B.b1, fun H2 n2 s2 hn2 hl2 => ?_⟩
  have s12 := s1.trans s2
  refine ⟨_, rfl, xy, rfl, _, rfl, x1, rfl, _, rfl, (h1.same s12).insC, x1, lw, e1, W, rfl, h1.same s12, (hw.same s12).wsl, b1, fun H3 n3 s3 hn3 hl3 => ?_⟩
  have s13 := s12.trans s3
  refine ⟨(hy.same s13).insC, xy, n3, y, app e1 W, rfl, hy.same s13, ww1 hl3, B.b2, fun H4 n4 s4 hn4 hl4 => ?_⟩
  have s14 := s13.trans s4
  rw [← B.eq] at hl4
  refine ⟨n2, n4, app m (app e2 W), app m (app e2 W), rfl, rfl, SqL.of ((s3.trans s4) _ _ hl2), SqL.of hl4, mm, mm, _, rfl, iteFF (by rw [decide_eq_true rfl]; rfl) ?_⟩
  have hm4 := hm.same s14
  have h14 := h1.same s14
  have h24 := h2.same s14
  have hw4 := hw.same s14
  obtain ⟨dm, um, im, jm, _⟩ := id hm4
  obtain ⟨d1, u1, i1, j1, _⟩ := id h14
  refine ⟨_, rfl, xm, CE, dm, _, .ref um, rfl, im, C.cl.cl, C.cl.nW, rfl, _, rfl, x1, CE, d1, _, .ref u1, rfl, i1, C.cl.cl, C.cl.nW, rfl, um, u1, m.ws, e1.ws, rfl, rfl, jm, j1, hom.mrk, ho1.mrk, _, rfl, iteFF (by rw [decide_eq_true B.ws]; rfl) ?_⟩
  refine ⟨_, rfl, _, rfl, x1, x2, e1, e2, rfl, h14, h24, by omega, fun H5 z s5 hz => ?_⟩
  rw [B.cm] at hz
  obtain ⟨xz, rfl, hxz⟩ := hz
  refine ⟨(by show 0 ≤ sizeLine; decide), fun p hp => ?_⟩
  have s6 := Same.new hp (.lst [])
  have c6 : upd H5 p (.lst []) p = some (.lst (([] : List Str).map V.str)) := upd_same
  generalize upd H5 p (.lst []) = H6 at *
  refine mk_edV (i := 0) (j := 0) (e := ⟨0, 0, []⟩) rfl rfl (.inl (SqL.of c6)) ⟨Nat.le_refl _, fun x hx => (nomatch hx), Nat.zero_le _, Nat.zero_le _⟩ fun H7 x0 s7 hx0 hE0 => ?_
  have s57 := (s5.trans s6).trans s7
  have hxz7 := hxz.same (s6.trans s7)
  refine ⟨xz, x0, m, ⟨0, 0, []⟩, rfl, hxz7, hE0, by show m.b + 0 ≤ 400; have := hom.pl; omega, fun H8 z3 s8' hz3 => ?_⟩
  rw [car_nul] at hz3
  obtain ⟨x3, rfl, h3⟩ := hz3
  have s48 := s57.trans s8'
  have h28 := h24.same s48
  have hw8 := hw4.same s48
  refine ⟨_, rfl, x3, rfl, _, rfl, x2, rfl, _, rfl, h28.insC, x2, lw, e2, W, rfl, h28, hw8.wsl, b2, fun H9 n9 s9' hn9 hl9 => ?_⟩
  refine ⟨(h3.same s9').insC, x3, n9, m, app e2 W, rfl, h3.same s9', ww2 hl9, B.b1, fun H10 n10 s10 hn10 hl10 => ?_⟩
  have s8t := s9'.trans s10
  have h2t := h28.same s8t
  refine ⟨_, rfl, xm, rfl, _, rfl, x2, rfl, _, rfl, h2t.insC, x2, lw, e2, W, rfl, h2t, (hw8.same s8t).wsl, b2, fun H11 n11 s11 hn11 hl11 => ?_⟩
  have s4e := (s48.trans s8t).trans s11
  refine ⟨(hm4.same s4e).insC, xm, n11, m, app e2 W, rfl, hm4.same s4e, ww2 hl11, B.b1, fun H12 n12 s12' hn12 hl12 => ?_⟩
  refine ⟨n10, n12, app m (app e2 W), app m (app e2 W), rfl, rfl, SqL.of ((s11.trans s12') _ _ hl10), SqL.of hl12, mm, mm, _, rfl, iteTT (decide_eq_true rfl) ?_⟩
  have hme := (hm4.same s4e).same s12'
  have h1e := (h14.same s4e).same s12'
  obtain ⟨dm', um', im', _⟩ := id hme
  obtain ⟨d1', u1', i1', _⟩ := id h1e
  refine ⟨_, rfl, xm, dm', _, rfl, im', rfl, xm, m, rfl, hme, _, rfl, x1, d1', _, rfl, i1', rfl, x1, e1, rfl, h1e, rfl, ?_⟩
  have z : decide (V.int (grow m) = V.int (grow e1)) = true := decide_eq_true (by rw [B.g])
  rw [z]
  exact q H12
theorem law11 : ∃ t, PS (XL P w K mg base fL cdv A outer s H0 E) (stL 11) t ∧ ∀ (_ : EC K CE) (D : Ends) (a d lw bk nw g lz x1 x2 : Addr) (e1 e2 : Ed) (u v : V) (tn ed : Option V) (H : Hp), EdH K CE H x1 e1 → EdH K CE H x2 e2 →
    OpH K CE H u (car e1 e2) → OpH K CE H v (car e2 e1) → (∀ H', D.rt (.bl true) H') → D.nx (s9 a d tn lw nw bk ed g lz x1 x2 u v) H → t D (s9 a d tn lw nw bk ed g lz x1 x2 u v) H := by
  refine ⟨_, ps_if (PW.pt (pw_and (pt_cmpR op_lt (pe_fld (pv 9) rfl) (pe_fld (pv 10) rfl) (nomark _)) (pw_and1 (pt_cmpR op_lt (pe_fld (pv 10) rfl) (pe_fld (pv 9) rfl) (nomark _)))))
    (pss_one (ps_ret (pe_and (pe_cmp (pc_isN (pv 11))) (pe_one (pe_cmp (pc_isN (pv 12))))))) pss_nil, ?_⟩
  intro cl D a d lw bk nw g lz x1 x2 e1 e2 u v tn ed H h1 h2 ou ov q qn
  obtain ⟨dx1, t1, hi1, ht1, ho1⟩ := id h1
  obtain ⟨dx2, t2, hi2, ht2, ho2⟩ := id h2
  refine and_one (c := (e1.a : Int) < (e2.b : Int)) (d := (e2.a : Int) < (e1.b : Int))
    (fun Q' q' => ⟨_, rfl, x1, CE, dx1, _, .int e1.a, rfl, hi1, cl.cl, cl.nF, rfl, _, rfl, x2, CE, dx2, _, .int e2.b, rfl, hi2, cl.cl, cl.nL, rfl, _, _, rfl, rfl, _, rfl, q'⟩)
    (fun _ Q' q' => ⟨_, rfl, x2, CE, dx2, _, .int e2.a, rfl, hi2, cl.cl, cl.nF, rfl, _, rfl, x1, CE, dx1, _, .int e1.b, rfl, hi1, cl.cl, cl.nL, rfl, _, _, rfl, rfl, _, rfl, q'⟩) (ite2d (fun c => ?_) (fun _ => qn))
  have c1 : e1.a < e2.b := by have := c.1; omega
  have c2 : e2.a < e1.b := by have := c.2; omega
  rw [car_not c1 c2] at ou
  rw [car_not c2 c1] at ov
  have eu : u = .non := ou
  have ev : v = .non := ov
  subst eu ev
  refine ⟨_, rfl, _, rfl, iteTT (decide_eq_true rfl) ⟨_, rfl, ?_⟩⟩
  show D.rt (.bl (decide (V.non = V.non))) H
  have z : decide (V.non = V.non) = true := decide_eq_true rfl
  rw [z]
  exact q H
theorem law12 (hr : Room 8 (XL P w K mg base fL cdv A outer s H0 E).A) (C : CK P w K mg base CE) : ∃ t, PS (XL P w K mg base fL cdv A outer s H0 E) (stL 12) t ∧ ∀ (D : Ends) (a d lw bk nw g lz x1 x2 : Addr) (e1 e2 : Ed) (u v : V) (tn ed : Option V) (H : Hp), EdH K CE H x1 e1 → EdH K CE H x2 e2 →
    OpH K CE H u (car e1 e2) → (∀ H', D.rt (.bl true) H') → t D (s9 a d tn lw nw bk ed g lz x1 x2 u v) H := by
  have hr6 := hr.mono (show 6 ≤ 8 by decide)
  obtain ⟨fG, fdG, MG, GG, bG⟩ := C.grow.ex
  have hu := hu64 hr
  refine ⟨_, ps_ret (pe_or (pe_cmp (pc_isN (pv 11))) (pe_one (pe_and (pe_cmpR (op_eqTW hu) (pe_fld (pv 11) rfl) (pe_fld (pv 9) rfl) (nomark _))
      (pe_one (pe_cmpR op_eq (pe_meth0 (pv 11) C.cl.cl MG GG hr6 bG .nil pass0) (pe_meth0 (pv 9) C.cl.cl MG GG hr6 bG .nil pass0) (nomark _)))))), ?_⟩
  intro D a d lw bk nw g lz x1 x2 e1 e2 u v tn ed H h1 h2 ou q
  obtain ⟨d1, u1, i1, j1, ho1⟩ := id h1
  obtain ⟨dx2, t2, hi2, ht2, ho2⟩ := id h2
  cases ec : car e1 e2 with
  | none =>
    rw [ec] at ou
    have eu : u = .non := ou
    subst eu
    exact ⟨_, rfl, _, rfl, iteTT (decide_eq_true rfl) (q H)⟩
  | some m =>
    rw [ec] at ou
    obtain ⟨xm, rfl, hm⟩ := ou
    obtain ⟨dm, um, im, jm, hom⟩ := id hm
    obtain ⟨e1w, e1g⟩ := car_same ho1.le ho2.le ec
    refine ⟨_, rfl, _, rfl, iteFF (decide_eq_false fun z => nomatch z) ?_⟩
    refine ⟨_, rfl, xm, CE, dm, _, .ref um, rfl, im, C.cl.cl, C.cl.nW, rfl, _, rfl, x1, CE, d1, _, .ref u1, rfl, i1, C.cl.cl, C.cl.nW, rfl, um, u1, m.ws, e1.ws, rfl, rfl, jm, j1, hom.mrk, ho1.mrk, _, rfl, iteTT (by rw [decide_eq_true e1w]; rfl) ?_⟩
    refine ⟨_, rfl, xm, dm, _, rfl, im, rfl, xm, m, rfl, hm, _, rfl, x1, d1, _, rfl, i1, rfl, x1, e1, rfl, h1, rfl, ?_⟩
    have z : decide (V.int (grow m) = V.int (grow e1)) = true := decide_eq_true (by rw [e1g])
    rw [z]
    exact q H
end
end E5

end
section
set_option Elab.async false
set_option linter.all false
set_option maxRecDepth 100000
set_option maxHeartbeats 4000000
namespace E5
open PySem PySem.Spec PyProof.Rows L2
def spLaw (K : PySem.W.Frag) : Sp := fun vs H Q _ => ∃ (a : Addr) (ns : List Int), vs = [.ref a] ∧ SqL K H a (ns.map V.int) ∧ ns.length ≤ 63 ∧ ∀ H', Q (.bl true) H'
section
variable {P : Program} {w : World} {K : PySem.W.Frag} {mg : Str → Option Value} {base : Heap} {fL CE : Addr}
theorem ok_law {fd : FuncData} (F : Fun K "law" "law" sLaw fL fd) (C : CK P w K mg base CE) (O : OwnK P w K mg base CE) : FnOk P w K mg base CX0 9 fL fd ["script"] (spLaw K) := by
  refine F.ok scLaw (fun vs H Q E h => ?_) (fun cdv A outer s H vs Q E hr h => ?_)
  · obtain ⟨_, _, rfl, _⟩ := h
    rfl
  obtain ⟨a, ns, rfl, hS, hl, q⟩ := h
  have hr8 : Room 8 (XL P w K mg base fL cdv A outer s H E).A := hr
  obtain ⟨t0, p0, h0⟩ := law0 (P := P) (w := w) (K := K) (mg := mg) (base := base) (fL := fL) (cdv := cdv) (A := A) (outer := outer) (s := s) (H0 := H) (E := E)
  obtain ⟨t1, p1, h1⟩ := law1 hr8 C
  obtain ⟨t2, p2, h2⟩ := law2 (P := P) (w := w) (K := K) (mg := mg) (base := base) (fL := fL) (cdv := cdv) (A := A) (outer := outer) (s := s) (H0 := H) (E := E)
  obtain ⟨t3, p3, h3⟩ := law3 hr8 C
  obtain ⟨t4, p4, h4⟩ := law4 hr8 C
  obtain ⟨t5, p5, h5⟩ := law5 hr8 C
  obtain ⟨t6, p6, h6⟩ := law6 hr8 C O
  obtain ⟨t7, p7, h7⟩ := law7 hr8 C O
  obtain ⟨t8, p8, h8⟩ := law8 hr8 C
  obtain ⟨t9, p9, h9⟩ := law9 hr8 C
  obtain ⟨t10, p10, h10⟩ := law10 hr8 C
  obtain ⟨t11, p11, h11⟩ := law11 (P := P) (w := w) (K := K) (mg := mg) (base := base) (fL := fL) (CE := CE) (cdv := cdv) (A := A) (outer := outer) (s := s) (H0 := H) (E := E)
  obtain ⟨t12, p12, h12⟩ := law12 hr8 C
  have all : PSs (XL P w K mg base fL cdv A outer s H E) (defBody sLaw) _ := pss_cons p0 (pss_cons p1 (pss_cons p2 (pss_cons p3 (pss_cons p4 (pss_cons p5 (pss_cons p6 (pss_cons p7 (pss_cons p8 (pss_cons p9 (pss_cons p10 (pss_cons p11 (pss_one p12))))))))))))
  refine ⟨_, all, ?_⟩
  refine h0 _ a ns H hS hl fun d sa H1 d1 => ?_
  refine h1 _ a d sa H1 d1 fun lw W H2 d2 w2 hW => ?_
  refine h2 _ a d sa lw W H2 d2 w2 fun bk H3 d3 w3 b3 n1 n2 n3 => ?_
  refine h3 _ a d sa lw bk W H3 d3 w3 hW b3 n1 n2 n3 fun nw N rs cs tn ed H4 I hN hrs => ?_
  refine h4 _ a d lw bk nw W N tn ed H4 I.fw I.fn fun g eg H5 s5 hE hSh => ?_
  have I5 := I.same s5
  refine h5 _ a d lw bk nw g W N rs cs tn ed H5 I5.fn hW I5.fb I5.es I5.ch fun lz ed' H6 s6 hz => ?_
  have I6 := I5.same s6
  refine h6 _ a d lw bk nw g lz W N eg tn ed' H6 I6.fw I6.fn hz (hE.same s6) hSh hW hN fun H7 s7 => ?_
  have I7 := I6.same s7
  refine h7 _ a d lw bk nw g lz W N eg tn ed' H7 I7.fw I7.fn ((hE.same s6).same s7) hSh hW hN fun H8 s8' => ?_
  have I8 := I7.same s8'
  refine h8 _ a d sa lw bk nw g lz W tn ed' H8 I8.dr I8.fw fun x1 x2 e1 e2 H9 hw9 k1 k2 b1 b2 w1 w2 => ?_
  refine h9 _ a d lw bk nw g lz x1 x2 W e1 e2 tn ed' H9 hw9 k1 k2 b1 b2 w1 w2 hW fun u v H10 s10 ou ov => ?_
  have k1' := k1.same s10
  have k2' := k2.same s10
  refine h10 _ a d lw bk nw g lz x1 x2 W e1 e2 u v tn ed' H10 (hw9.same s10) k1' k2' b1 b2 w1 w2 hW ou ov q fun _ => ?_
  refine h11 C.cl _ a d lw bk nw g lz x1 x2 e1 e2 u v tn ed' H10 k1' k2' ou ov q ?_
  exact h12 _ a d lw bk nw g lz x1 x2 e1 e2 u v tn ed' H10 k1' k2' ou q
end
end E5

end
section
set_option Elab.async false
set_option linter.all false
set_option maxRecDepth 100000
set_option maxHeartbeats 4000000
namespace E5
open PySem PySem.Spec PyProof.Rows L2
theorem all_mk {l : PySem.W.OpenLaw} {w : World} {K : PySem.W.Frag} {h : Heap} {mg : Str → Option Value} {fa CE aN aS : Addr} {f1 f2 f3 f4 f5 f6 f7 f8 f9 f10 f11 f12 f13 f14 f15 f16 f17 f18 f19 f20 f21 f22 f23 : Addr} {od1 an1 od2 an2 od3 an3 od4 an4 od5 an5 od6 an6 od7 an7 od8 an8 od9 an9 od10 an10 od11 an11 od12 an12 od13 an13 od14 an14 od15 an15 od16 an16 od17 an17 od18 an18 od19 an19 od20 an20 od21 an21 od22 an22 od23 an23 dA2 dA3 : Option Addr} {sl1 sl2 sl3 sl4 sl5 sl6 sl7 sl8 sl9 sl10 sl11 sl12 sl13 sl14 sl15 sl16 sl17 sl18 sl19 sl20 sl21 sl22 sl23 sA2 sA3 : Array (Option Value)} {nA2 nA3 : Nat} {tA1 tA2 tA3 tS0 tS1 tS2 tS3 tS4 tS5 tS6 tS7 tS8 tgL tgM : Tok} {foI roI : Option Value}
    {oc1 kV1 dc1 pm1 ct1 cd1 oc2 kV2 dc2 pm2 ct2 cd2 oc3 kV3 dc3 pm3 ct3 cd3 oc4 kV4 dc4 pm4 ct4 cd4 oc5 kV5 dc5 pm5 ct5 cd5 oc6 kV6 dc6 pm6 ct6 cd6 oc7 kV7 dc7 pm7 ct7 cd7 oc8 kV8 dc8 pm8 ct8 cd8 oc9 kV9 dc9 pm9 ct9 cd9 oc10 kV10 dc10 pm10 ct10 cd10 oc11 kV11 dc11 pm11 ct11 cd11 oc12 kV12 dc12 pm12 ct12 cd12 oc13 kV13 dc13 pm13 ct13 cd13 oc14 kV14 dc14 pm14 ct14 cd14 oc15 kV15 dc15 pm15 ct15 cd15 oc16 kV16 dc16 pm16 ct16 cd16 oc17 kV17 dc17 pm17 ct17 cd17 oc18 kV18 dc18 pm18 ct18 cd18 oc19 kV19 dc19 pm19 ct19 cd19 oc20 kV20 dc20 pm20 ct20 cd20 oc21 kV21 dc21 pm21 ct21 cd21 oc22 kV22 dc22 pm22 ct22 cd22 oc23 kV23 dc23 pm23 ct23 cd23 : Value}
    (X : K.In h) (G : h.Ns mainGlobals mg) (hfa : mg "law" = some (.ref fa))
    (a1 : PySem.W.nsIn K mainGlobals "is_small" = some (some (.ref f1)))
    (l1 : K.lookup f1 = some ⟨oc1, od1, .func (PySem.W.fnOf "is_small" "is_small" (defArgs sSmall) (defBody sSmall) (defScope sSmall) .none kV1 dc1 pm1 an1 cd1 ct1), sl1⟩)
    (c1 : PySem.W.codeIn K cd1 "is_small" = true)
    (k1 : PySem.W.keepIn K (.ref f1) = true)
    (a2 : PySem.W.nsIn K mainGlobals "is_word" = some (some (.ref f2)))
    (l2 : K.lookup f2 = some ⟨oc2, od2, .func (PySem.W.fnOf "is_word" "is_word" (defArgs sWord) (defBody sWord) (defScope sWord) .none kV2 dc2 pm2 an2 cd2 ct2), sl2⟩)
    (c2 : PySem.W.codeIn K cd2 "is_word" = true)
    (k2 : PySem.W.keepIn K (.ref f2) = true)
    (a3 : PySem.W.nsIn K mainGlobals "is_whole" = some (some (.ref f3)))
    (l3 : K.lookup f3 = some ⟨oc3, od3, .func (PySem.W.fnOf "is_whole" "is_whole" (defArgs sWhole) (defBody sWhole) (defScope sWhole) .none kV3 dc3 pm3 an3 cd3 ct3), sl3⟩)
    (c3 : PySem.W.codeIn K cd3 "is_whole" = true)
    (k3 : PySem.W.keepIn K (.ref f3) = true)
    (a4 : PySem.W.nsIn K mainGlobals "is_mark" = some (some (.ref f4)))
    (l4 : K.lookup f4 = some ⟨oc4, od4, .func (PySem.W.fnOf "is_mark" "is_mark" (defArgs sMark) (defBody sMark) (defScope sMark) .none kV4 dc4 pm4 an4 cd4 ct4), sl4⟩)
    (c4 : PySem.W.codeIn K cd4 "is_mark" = true)
    (k4 : PySem.W.keepIn K (.ref f4) = true)
    (a5 : PySem.W.nsIn K mainGlobals "checked_words" = some (some (.ref f5)))
    (l5 : K.lookup f5 = some ⟨oc5, od5, .func (PySem.W.fnOf "checked_words" "checked_words" (defArgs sChk) (defBody sChk) (defScope sChk) .none kV5 dc5 pm5 an5 cd5 ct5), sl5⟩)
    (c5 : PySem.W.codeIn K cd5 "checked_words" = true)
    (k5 : PySem.W.keepIn K (.ref f5) = true)
    (a6 : PySem.W.nsIn K mainGlobals "carried" = some (some (.ref f6)))
    (l6 : K.lookup f6 = some ⟨oc6, od6, .func (PySem.W.fnOf "carried" "carried" (defArgs sCar) (defBody sCar) (defScope sCar) .none kV6 dc6 pm6 an6 cd6 ct6), sl6⟩)
    (c6 : PySem.W.codeIn K cd6 "carried" = true)
    (k6 : PySem.W.keepIn K (.ref f6) = true)
    (a7 : PySem.W.nsIn K mainGlobals "shrunk" = some (some (.ref f7)))
    (l7 : K.lookup f7 = some ⟨oc7, od7, .func (PySem.W.fnOf "shrunk" "shrunk" (defArgs sShr) (defBody sShr) (defScope sShr) .none kV7 dc7 pm7 an7 cd7 ct7), sl7⟩)
    (c7 : PySem.W.codeIn K cd7 "shrunk" = true)
    (k7 : PySem.W.keepIn K (.ref f7) = true)
    (a8 : PySem.W.nsIn K mainGlobals "_law_cell_at" = some (some (.ref f8)))
    (l8 : K.lookup f8 = some ⟨oc8, od8, .func (PySem.W.fnOf "_law_cell_at" "_law_cell_at" (defArgs sCell) (defBody sCell) (defScope sCell) .none kV8 dc8 pm8 an8 cd8 ct8), sl8⟩)
    (c8 : PySem.W.codeIn K cd8 "_law_cell_at" = true)
    (k8 : PySem.W.keepIn K (.ref f8) = true)
    (a9 : PySem.W.nsIn K mainGlobals "_law_draw" = some (some (.ref f9)))
    (l9 : K.lookup f9 = some ⟨oc9, od9, .func (PySem.W.fnOf "_law_draw" "_law_draw" (defArgs sDraw) (defBody sDraw) (defScope sDraw) .none kV9 dc9 pm9 an9 cd9 ct9), sl9⟩)
    (c9 : PySem.W.codeIn K cd9 "_law_draw" = true)
    (k9 : PySem.W.keepIn K (.ref f9) = true)
    (a10 : PySem.W.nsIn K mainGlobals "_law_number" = some (some (.ref f10)))
    (l10 : K.lookup f10 = some ⟨oc10, od10, .func (PySem.W.fnOf "_law_number" "_law_number" (defArgs sNum) (defBody sNum) (defScope sNum) .none kV10 dc10 pm10 an10 cd10 ct10), sl10⟩)
    (c10 : PySem.W.codeIn K cd10 "_law_number" = true)
    (k10 : PySem.W.keepIn K (.ref f10) = true)
    (a11 : PySem.W.nsIn K mainGlobals "_law_next" = some (some (.ref f11)))
    (l11 : K.lookup f11 = some ⟨oc11, od11, .func (PySem.W.fnOf "_law_next" "_law_next" (defArgs sNext) (defBody sNext) (defScope sNext) .none kV11 dc11 pm11 an11 cd11 ct11), sl11⟩)
    (c11 : PySem.W.codeIn K cd11 "_law_next" = true)
    (k11 : PySem.W.keepIn K (.ref f11) = true)
    (a12 : PySem.W.nsIn K mainGlobals "_law_pick" = some (some (.ref f12)))
    (l12 : K.lookup f12 = some ⟨oc12, od12, .func (PySem.W.fnOf "_law_pick" "_law_pick" (defArgs sPick) (defBody sPick) (defScope sPick) .none kV12 dc12 pm12 an12 cd12 ct12), sl12⟩)
    (c12 : PySem.W.codeIn K cd12 "_law_pick" = true)
    (k12 : PySem.W.keepIn K (.ref f12) = true)
    (a13 : PySem.W.nsIn K mainGlobals "_law_edit" = some (some (.ref f13)))
    (l13 : K.lookup f13 = some ⟨oc13, od13, .func (PySem.W.fnOf "_law_edit" "_law_edit" (defArgs sLE) (defBody sLE) (defScope sLE) .none kV13 dc13 pm13 an13 cd13 ct13), sl13⟩)
    (c13 : PySem.W.codeIn K cd13 "_law_edit" = true)
    (k13 : PySem.W.keepIn K (.ref f13) = true)
    (a14 : PySem.W.nsIn K mainGlobals "law" = some (some (.ref f14)))
    (l14 : K.lookup f14 = some ⟨oc14, od14, .func (PySem.W.fnOf "law" "law" (defArgs sLaw) (defBody sLaw) (defScope sLaw) .none kV14 dc14 pm14 an14 cd14 ct14), sl14⟩)
    (c14 : PySem.W.codeIn K cd14 "law" = true)
    (k14 : PySem.W.keepIn K (.ref f14) = true)
    (a15 : PySem.W.findIn K (.ref CE) "__init__" = some (some (.ref f15)))
    (i15 : PySem.W.isFn K (.ref f15) = true)
    (l15 : K.lookup f15 = some ⟨oc15, od15, .func (PySem.W.fnOf "__init__" "Edit.__init__" (defArgs sInit) (defBody sInit) (defScope sInit) .none kV15 dc15 pm15 an15 cd15 ct15), sl15⟩)
    (c15 : PySem.W.codeIn K cd15 "Edit.__init__" = true)
    (k15 : PySem.W.keepIn K (.ref f15) = true)
    (a16 : PySem.W.findIn K (.ref CE) "__eq__" = some (some (.ref f16)))
    (i16 : PySem.W.isFn K (.ref f16) = true)
    (l16 : K.lookup f16 = some ⟨oc16, od16, .func (PySem.W.fnOf "__eq__" "Edit.__eq__" (defArgs sEqM) (defBody sEqM) (defScope sEqM) .none kV16 dc16 pm16 an16 cd16 ct16), sl16⟩)
    (c16 : PySem.W.codeIn K cd16 "Edit.__eq__" = true)
    (k16 : PySem.W.keepIn K (.ref f16) = true)
    (a17 : PySem.W.findIn K (.ref CE) "__len__" = some (some (.ref f17)))
    (i17 : PySem.W.isFn K (.ref f17) = true)
    (l17 : K.lookup f17 = some ⟨oc17, od17, .func (PySem.W.fnOf "__len__" "Edit.__len__" (defArgs sLenM) (defBody sLenM) (defScope sLenM) .none kV17 dc17 pm17 an17 cd17 ct17), sl17⟩)
    (c17 : PySem.W.codeIn K cd17 "Edit.__len__" = true)
    (k17 : PySem.W.keepIn K (.ref f17) = true)
    (a18 : PySem.W.findIn K (.ref CE) "__bool__" = some (some (.ref f18)))
    (i18 : PySem.W.isFn K (.ref f18) = true)
    (l18 : K.lookup f18 = some ⟨oc18, od18, .func (PySem.W.fnOf "__bool__" "Edit.__bool__" (defArgs sBoolM) (defBody sBoolM) (defScope sBoolM) .none kV18 dc18 pm18 an18 cd18 ct18), sl18⟩)
    (c18 : PySem.W.codeIn K cd18 "Edit.__bool__" = true)
    (k18 : PySem.W.keepIn K (.ref f18) = true)
    (a19 : PySem.W.findIn K (.ref CE) "__call__" = some (some (.ref f19)))
    (i19 : PySem.W.isFn K (.ref f19) = true)
    (l19 : K.lookup f19 = some ⟨oc19, od19, .func (PySem.W.fnOf "__call__" "Edit.__call__" (defArgs sCallM) (defBody sCallM) (defScope sCallM) .none kV19 dc19 pm19 an19 cd19 ct19), sl19⟩)
    (c19 : PySem.W.codeIn K cd19 "Edit.__call__" = true)
    (k19 : PySem.W.keepIn K (.ref f19) = true)
    (a20 : PySem.W.findIn K (.ref CE) "__add__" = some (some (.ref f20)))
    (i20 : PySem.W.isFn K (.ref f20) = true)
    (l20 : K.lookup f20 = some ⟨oc20, od20, .func (PySem.W.fnOf "__add__" "Edit.__add__" (defArgs sAddM) (defBody sAddM) (defScope sAddM) .none kV20 dc20 pm20 an20 cd20 ct20), sl20⟩)
    (c20 : PySem.W.codeIn K cd20 "Edit.__add__" = true)
    (k20 : PySem.W.keepIn K (.ref f20) = true)
    (a21 : PySem.W.findIn K (.ref CE) "growth" = some (some (.ref f21)))
    (i21 : PySem.W.isFn K (.ref f21) = true)
    (l21 : K.lookup f21 = some ⟨oc21, od21, .func (PySem.W.fnOf "growth" "Edit.growth" (defArgs sGrow) (defBody sGrow) (defScope sGrow) .none kV21 dc21 pm21 an21 cd21 ct21), sl21⟩)
    (c21 : PySem.W.codeIn K cd21 "Edit.growth" = true)
    (k21 : PySem.W.keepIn K (.ref f21) = true)
    (a22 : PySem.W.findIn K (.ref CE) "undone" = some (some (.ref f22)))
    (i22 : PySem.W.isFn K (.ref f22) = true)
    (l22 : K.lookup f22 = some ⟨oc22, od22, .func (PySem.W.fnOf "undone" "Edit.undone" (defArgs sUnd) (defBody sUnd) (defScope sUnd) .none kV22 dc22 pm22 an22 cd22 ct22), sl22⟩)
    (c22 : PySem.W.codeIn K cd22 "Edit.undone" = true)
    (k22 : PySem.W.keepIn K (.ref f22) = true)
    (a23 : PySem.W.findIn K (.ref CE) "_fitting" = some (some (.ref f23)))
    (i23 : PySem.W.isFn K (.ref f23) = true)
    (l23 : K.lookup f23 = some ⟨oc23, od23, .func (PySem.W.fnOf "_fitting" "Edit._fitting" (defArgs sFit) (defBody sFit) (defScope sFit) .none kV23 dc23 pm23 an23 cd23 ct23), sl23⟩)
    (c23 : PySem.W.codeIn K cd23 "Edit._fitting" = true)
    (k23 : PySem.W.keepIn K (.ref f23) = true)
    (aC : PySem.W.nsIn K mainGlobals "Edit" = some (some (.ref CE)))
    (pg : PySem.W.plainGet K CE Str.empty = true)
    (hd : PySem.W.hasDictIn K CE = true)
    (po : PySem.W.plainOver K CE = true)
    (sa : PySem.W.findIn K (.ref CE) "__setattr__" = some (some (.builtin "object.__setattr__")))
    (mk : PySem.W.makesIn K CE = true)
    (kc : PySem.W.keepIn K (.ref CE) = true)
    (nF : PySem.W.findIn K (.ref CE) "first" = some none)
    (nL : PySem.W.findIn K (.ref CE) "last" = some none)
    (nW : PySem.W.findIn K (.ref CE) "words" = some none)
    (rha : PySem.W.findIn K (.ref CE) "__class__" = some (some (.builtin "object.__class__")))
    (rhn : PySem.W.specialIn K (.builtin "object.__class__") "__get__" = some (some (.builtin "getset_descriptor.__get__")))
    (rht : PySem.W.takesIn K (.builtin "object.__class__") = some true)
    (rhm : PySem.W.mroIn K CE (.type "object") = some true)
    (rkit : PySem.W.kitOne K (.ref CE) (.ref CE) = some true)
    (qhn : PySem.W.findIn K (.ref CE) "__ne__" = some (some (.builtin "object.__ne__")))
    (qhob : PySem.W.subIn K (.ref CE) (.type "object") = some true)
    (asf : PySem.W.selfFirst K CE = true)
    (aR : PySem.W.findIn K (.ref CE) "__radd__" = some none)
    (ia : PySem.W.findIn K (.type "int") "__add__" = some foI)
    (ir : PySem.W.findIn K (.type "int") "__radd__" = some roI)
    (isb : PySem.W.subIn K (.type "int") (.ref CE) = some false)
    (fnI : PySem.W.fnIn K f19 = true)
    (gN : PySem.W.nsIn K mainGlobals "NO_WORDS" = some (some (.ref aN)))
    (oN : K.lookup aN = some ⟨.type "tuple", dA2, .seq #[.str "any" tA1, .str "give" tA2, .str "let" tA3] nA2, sA2⟩)
    (gS : PySem.W.nsIn K mainGlobals "SIGNS" = some (some (.ref aS)))
    (oS : K.lookup aS = some ⟨.type "tuple", dA3, .seq #[.str "=" tS0, .str ";" tS1, .str "(" tS2, .str ")" tS3, .str "{" tS4, .str "}" tS5, .str "," tS6, .str ":" tS7, .str "." tS8] nA3, sA3⟩)
    (gL : PySem.W.nsIn K mainGlobals "LONGEST" = some (some (.int 10 tgL)))
    (gM : PySem.W.nsIn K mainGlobals "MOST_WORDS" = some (some (.int 200 tgM)))
    (z_len : PySem.W.nsIn K mainGlobals "len" = some none)
    (z_all : PySem.W.nsIn K mainGlobals "all" = some none)
    (z_isinstance : PySem.W.nsIn K mainGlobals "isinstance" = some none)
    (z_str : PySem.W.nsIn K mainGlobals "str" = some none)
    (z_tuple : PySem.W.nsIn K mainGlobals "tuple" = some none)
    (z_list : PySem.W.nsIn K mainGlobals "list" = some none)
    (z_int : PySem.W.nsIn K mainGlobals "int" = some none)
    (z_bool : PySem.W.nsIn K mainGlobals "bool" = some none)
    (z_min : PySem.W.nsIn K mainGlobals "min" = some none)
    (z_range : PySem.W.nsIn K mainGlobals "range" = some none)
    : ∃ fd : FuncData, (∀ (s : Shared) (v : Value), BindsTo s fd ⟨[v], []⟩ [("script", v)]) ∧ ∀ base : Heap, K.In base → base.Ns mainGlobals mg → FnOk l.prog w K mg base CX0 9 fa fd ["script"] (spLaw K) := by
  have e := hfa.symm.trans (PySem.W.mg_of X G a14)
  cases e
  have F1 := fun_mk (st := sSmall) l1 c1 k1
  have F2 := fun_mk (st := sWord) l2 c2 k2
  have F3 := fun_mk (st := sWhole) l3 c3 k3
  have F4 := fun_mk (st := sMark) l4 c4 k4
  have F5 := fun_mk (st := sChk) l5 c5 k5
  have F6 := fun_mk (st := sCar) l6 c6 k6
  have F7 := fun_mk (st := sShr) l7 c7 k7
  have F8 := fun_mk (st := sCell) l8 c8 k8
  have F9 := fun_mk (st := sDraw) l9 c9 k9
  have F10 := fun_mk (st := sNum) l10 c10 k10
  have F11 := fun_mk (st := sNext) l11 c11 k11
  have F12 := fun_mk (st := sPick) l12 c12 k12
  have F13 := fun_mk (st := sLE) l13 c13 k13
  have F14 := fun_mk (st := sLaw) l14 c14 k14
  have F15 := fun_mk (st := sInit) l15 c15 k15
  have F16 := fun_mk (st := sEqM) l16 c16 k16
  have F17 := fun_mk (st := sLenM) l17 c17 k17
  have F18 := fun_mk (st := sBoolM) l18 c18 k18
  have F19 := fun_mk (st := sCallM) l19 c19 k19
  have F20 := fun_mk (st := sAddM) l20 c20 k20
  have F21 := fun_mk (st := sGrow) l21 c21 k21
  have F22 := fun_mk (st := sUnd) l22 c22 k22
  have F23 := fun_mk (st := sFit) l23 c23 k23
  have b1 := F1.binds (ps := ["letter"]) fun _ _ _ _ _ _ us hl => match us, hl with | [_], _ => rfl
  have b2 := F2.binds (ps := ["thing"]) fun _ _ _ _ _ _ us hl => match us, hl with | [_], _ => rfl
  have b3 := F3.binds (ps := ["thing"]) fun _ _ _ _ _ _ us hl => match us, hl with | [_], _ => rfl
  have b4 := F4.binds (ps := ["thing"]) fun _ _ _ _ _ _ us hl => match us, hl with | [_], _ => rfl
  have b5 := F5.binds (ps := ["words"]) fun _ _ _ _ _ _ us hl => match us, hl with | [_], _ => rfl
  have b6 := F6.binds (ps := ["one", "other"]) fun _ _ _ _ _ _ us hl => match us, hl with | [_, _], _ => rfl
  have b7 := F7.binds (ps := ["words", "more"]) fun _ _ _ _ _ _ us hl => match us, hl with | [_, _], _ => rfl
  have b8 := F8.binds (ps := ["script", "k"]) fun _ _ _ _ _ _ us hl => match us, hl with | [_, _], _ => rfl
  have b9 := F9.binds (ps := ["cell", "k", "bound"]) fun _ _ _ _ _ _ us hl => match us, hl with | [_, _, _], _ => rfl
  have b10 := F10.binds (ps := ["cell", "k", "bound"]) fun _ _ _ _ _ _ us hl => match us, hl with | [_, _, _], _ => rfl
  have b11 := F11.binds (ps := ["draw", "bound"]) fun _ _ _ _ _ _ us hl => match us, hl with | [_, _], _ => rfl
  have b12 := F12.binds (ps := ["draw", "things"]) fun _ _ _ _ _ _ us hl => match us, hl with | [_, _], _ => rfl
  have b13 := F13.binds (ps := ["draw", "words"]) fun _ _ _ _ _ _ us hl => match us, hl with | [_, _], _ => rfl
  have b15 := F15.binds (ps := ["self", "first", "last", "words"]) fun _ _ _ _ _ _ us hl => match us, hl with | [_, _, _, _], _ => rfl
  have b16 := F16.binds (ps := ["self", "other"]) fun _ _ _ _ _ _ us hl => match us, hl with | [_, _], _ => rfl
  have b17 := F17.binds (ps := ["self"]) fun _ _ _ _ _ _ us hl => match us, hl with | [_], _ => rfl
  have b18 := F18.binds (ps := ["self"]) fun _ _ _ _ _ _ us hl => match us, hl with | [_], _ => rfl
  have b19 := F19.binds (ps := ["self", "words"]) fun _ _ _ _ _ _ us hl => match us, hl with | [_, _], _ => rfl
  have b20 := F20.binds (ps := ["self", "other"]) fun _ _ _ _ _ _ us hl => match us, hl with | [_, _], _ => rfl
  have b21 := F21.binds (ps := ["self"]) fun _ _ _ _ _ _ us hl => match us, hl with | [_], _ => rfl
  have b22 := F22.binds (ps := ["self", "words"]) fun _ _ _ _ _ _ us hl => match us, hl with | [_, _], _ => rfl
  have b23 := F23.binds (ps := ["self", "words"]) fun _ _ _ _ _ _ us hl => match us, hl with | [_, _], _ => rfl
  have m1 := PySem.W.mg_of X G a1
  have m2 := PySem.W.mg_of X G a2
  have m3 := PySem.W.mg_of X G a3
  have m4 := PySem.W.mg_of X G a4
  have m5 := PySem.W.mg_of X G a5
  have m6 := PySem.W.mg_of X G a6
  have m7 := PySem.W.mg_of X G a7
  have m8 := PySem.W.mg_of X G a8
  have m9 := PySem.W.mg_of X G a9
  have m10 := PySem.W.mg_of X G a10
  have m11 := PySem.W.mg_of X G a11
  have m12 := PySem.W.mg_of X G a12
  have m13 := PySem.W.mg_of X G a13
  have m14 := PySem.W.mg_of X G a14
  have y_len := PySem.W.mg_none_of X G z_len
  have y_all := PySem.W.mg_none_of X G z_all
  have y_isinstance := PySem.W.mg_none_of X G z_isinstance
  have y_str := PySem.W.mg_none_of X G z_str
  have y_tuple := PySem.W.mg_none_of X G z_tuple
  have y_list := PySem.W.mg_none_of X G z_list
  have y_int := PySem.W.mg_none_of X G z_int
  have y_bool := PySem.W.mg_none_of X G z_bool
  have y_min := PySem.W.mg_none_of X G z_min
  have y_range := PySem.W.mg_none_of X G z_range
  have mCE := PySem.W.mg_of X G aC
  have EE : EC K CE := ⟨⟨pg, hd, po, sa⟩, nF, nL, nW⟩
  have KCC : KC K mg aN aS := ⟨PySem.W.mg_of X G gN, fun H => .inr ⟨_, _, _, oN, rfl, rfl, (by show 3 ≤ sizeLine; decide), .cons ⟨_, rfl⟩ (.cons ⟨_, rfl⟩ (.cons ⟨_, rfl⟩ .nil))⟩, PySem.W.mg_of X G gS, fun H => .inr ⟨_, _, _, oS, rfl, rfl, (by show 9 ≤ sizeLine; decide), (.cons ⟨_, rfl⟩ (.cons ⟨_, rfl⟩ (.cons ⟨_, rfl⟩ (.cons ⟨_, rfl⟩ (.cons ⟨_, rfl⟩ (.cons ⟨_, rfl⟩ (.cons ⟨_, rfl⟩ (.cons ⟨_, rfl⟩ (.cons ⟨_, rfl⟩ .nil)))))))))⟩, ⟨_, PySem.W.mg_of X G gL⟩, ⟨_, PySem.W.mg_of X G gM⟩, y_len, y_all, y_isinstance, y_str, y_list, y_tuple, y_int, y_bool⟩
  have RR : RI K mg CE := ⟨mCE, rha, rhn, rht, rhm, rkit⟩
  refine ⟨PySem.W.fnOf "law" "law" (defArgs sLaw) (defBody sLaw) (defScope sLaw) .none kV14 dc14 pm14 an14 cd14 ct14, fun s v => .of_eq rfl, fun base _ _ => ?_⟩
  have o1 := ok_small (P := l.prog) (w := w) (mg := mg) (base := base) F1
  have o2 := ok_word (P := l.prog) (w := w) (mg := mg) (base := base) F2 KCC o1 b1 k1 m1
  have o3 := ok_whole (P := l.prog) (w := w) (mg := mg) (base := base) F3 KCC
  have o4 := ok_mark (P := l.prog) (w := w) (mg := mg) (base := base) F4 KCC o2 b2 k2 m2
  have o5 := ok_chk (P := l.prog) (w := w) (mg := mg) (base := base) F5 KCC o4 b4 k4 m4
  have oi := ok_init (P := l.prog) (w := w) (mg := mg) (base := base) F15 KCC EE o3 b3 k3 m3 o4 b4 k4 m4
  have J : MkE l.prog w K mg base CE f15 _ := ⟨⟨mk, a15, i15, kc⟩, oi, b15, mCE⟩
  have ol := ok_lenm (P := l.prog) (w := w) (mg := mg) (base := base) F17 KCC EE
  have ob := ok_boolm (P := l.prog) (w := w) (mg := mg) (base := base) F18 KCC EE
  have og := ok_grow (P := l.prog) (w := w) (mg := mg) (base := base) F21 KCC EE
  have oq := ok_eqm (P := l.prog) (w := w) (mg := mg) (base := base) F16 y_isinstance EE RR
  have of := ok_fit (P := l.prog) (w := w) (mg := mg) (base := base) F23 KCC EE o5 b5 k5 m5
  have oc := ok_callm (P := l.prog) (w := w) (mg := mg) (base := base) F19 KCC EE ⟨a23, i23, k23⟩ of b23
  have ou := ok_und (P := l.prog) (w := w) (mg := mg) (base := base) F22 KCC EE J ⟨a23, i23, k23⟩ of b23
  have oa := ok_addm (P := l.prog) (w := w) (mg := mg) (base := base) F20 EE J o3 b3 k3 m3
  have AK : AddK K CE f20 := ⟨asf, a20, i20, aR, ⟨_, ia⟩, ⟨_, ir⟩, isb⟩
  have ocar := ok_car (P := l.prog) (w := w) (mg := mg) (base := base) F6 EE ⟨a21, i21, k21⟩ og b21 AK oa b20
  have oshr := ok_shr (P := l.prog) (w := w) (mg := mg) (base := base) F7 KCC y_min J o5 b5 k5 m5
  have ocell := ok_cell (P := l.prog) (w := w) (mg := mg) (base := base) F8 y_len
  have odraw := ok_draw (P := l.prog) (w := w) (mg := mg) (base := base) F9 y_int
  have onum := ok_num (P := l.prog) (w := w) (mg := mg) (base := base) F10 y_int y_range odraw b9 k9 m9
  have onext := ok_next (P := l.prog) (w := w) (mg := mg) (base := base) F11 y_int ocell b8 k8 m8 onum b10 k10 m10
  have opick := ok_pick (P := l.prog) (w := w) (mg := mg) (base := base) F12 y_len onext b11 k11 m11
  have ole := ok_le (P := l.prog) (w := w) (mg := mg) (base := base) F13 KCC y_min y_range J onext b11 k11 m11 opick b12 k12 m12
  have CC : CK l.prog w K mg base CE := ⟨⟨⟨_, _, (onext).mono (by decide), b11, k11, m11⟩⟩, ⟨⟨_, _, (opick).mono (by decide), b12, k12, m12⟩⟩, ⟨⟨_, _, (ole).mono (by decide), b13, k13, m13⟩⟩, ⟨⟨_, _, (oshr).mono (by decide), b7, k7, m7⟩⟩, ⟨⟨_, _, (ocar).mono (by decide), b6, k6, m6⟩⟩, ⟨_, _, ⟨a22, i22, k22⟩, ou, b22⟩, ⟨_, _, ⟨a21, i21, k21⟩, og.mono (by decide), b21⟩, ⟨_, ⟨a19, i19, fnI⟩, oc.raw b19 .nil⟩, ⟨_, _, J⟩, EE, y_range, y_len, y_bool⟩
  have OO : OwnK l.prog w K mg base CE := ⟨⟨_, _, a16, i16, oq, b16⟩, qhn, qhob, ⟨_, _, a17, i17, ol, b17⟩, ⟨_, _, a18, i18, ob, b18⟩⟩
  exact ok_law F14 CC OO
theorem walk {l : PySem.W.OpenLaw} {q : Program} {loose : List Str} {XP : (Str → Option Value) → Heap → Prop} {YP : World → Heap → Prop} {d : DefRec} {K : Params → PySem.W.Frag} (hn : l.most = some 63) (hdf : d.params.defaults = [])
    (hY : ∀ (w : World) (h : Heap), YP w h → (K w.params).In h)
    (F : ∀ (w : World) (mg : Str → Option Value) (fa : Addr) (h : Heap), (K w.params).In h → h.Ns mainGlobals mg → mg d.name = some (.ref fa) →
      ∃ fd : FuncData, (∀ (s : Shared) (u : Value), BindsTo s fd ⟨[u], []⟩ [("script", u)]) ∧ ∀ base : Heap, (K w.params).In base → base.Ns mainGlobals mg → FnOk l.prog w (K w.params) mg base CX0 9 fa fd ["script"] (spLaw (K w.params))) :
    PySem.W.WalkO q loose XP YP l.row.toRowW d [] (fun f vs => PySem.call f vs) :=
  L2.walk_of (n := 63) (k := 9) (x := "script") (CX := fun _ => CX0) (sp := fun w => spLaw (K w.params)) hn (by decide) hdf ⟨rfl, by decide, by decide⟩ hY F (fun _ _ a ns hl _ hS => ⟨a, ns, rfl, hS, hl, fun _ => rfl⟩) fun _ _ _ _ _ z => z
end E5

end
section
set_option Elab.async false
open PySem PySem.W PyProof.Rows
set_option maxRecDepth 100000 in
set_option maxHeartbeats 0 in
theorem PySem.Challenge.cw_typingroom_k35_whole_edit_rows_holds : PySem.Challenge.rw_typingroom_k35_whole_edit_rows.Holds := by
  w_on; o_law; k_head; (case hw => w_witness2)
  k_fill
  refine E5.walk (l := PySem.Challenge.rw_typingroom_k35_whole_edit_rows) rfl rfl (fun w h Y => PySem.W.kIn_of Y) ?F
  case F =>
    intro w mg fa h KX G hmg
    refine' E5.all_mk KX G hmg ?a1 ?l1 ?c1 ?k1 ?a2 ?l2 ?c2 ?k2 ?a3 ?l3 ?c3 ?k3 ?a4 ?l4 ?c4 ?k4 ?a5 ?l5 ?c5 ?k5 ?a6 ?l6 ?c6 ?k6 ?a7 ?l7 ?c7 ?k7 ?a8 ?l8 ?c8 ?k8 ?a9 ?l9 ?c9 ?k9 ?a10 ?l10 ?c10 ?k10 ?a11 ?l11 ?c11 ?k11 ?a12 ?l12 ?c12 ?k12 ?a13 ?l13 ?c13 ?k13 ?a14 ?l14 ?c14 ?k14 ?a15 ?i15 ?l15 ?c15 ?k15 ?a16 ?i16 ?l16 ?c16 ?k16 ?a17 ?i17 ?l17 ?c17 ?k17 ?a18 ?i18 ?l18 ?c18 ?k18 ?a19 ?i19 ?l19 ?c19 ?k19 ?a20 ?i20 ?l20 ?c20 ?k20 ?a21 ?i21 ?l21 ?c21 ?k21 ?a22 ?i22 ?l22 ?c22 ?k22 ?a23 ?i23 ?l23 ?c23 ?k23 ?aC ?pg ?hd ?po ?sa ?mk ?kc ?nF ?nL ?nW ?rha ?rhn ?rht ?rhm ?rkit ?qhn ?qhob ?asf ?aR ?ia ?ir ?isb ?fnI ?gN ?oN ?gS ?oS ?gL ?gM ?z_len ?z_all ?z_isinstance ?z_str ?z_tuple ?z_list ?z_int ?z_bool ?z_min ?z_range
    (case aC => k_is)
    (case a1 => k_is)
    (case l1 => k_is)
    (case c1 => k_is)
    (case k1 => k_is)
    (case a2 => k_is)
    (case l2 => k_is)
    (case c2 => k_is)
    (case k2 => k_is)
    (case a3 => k_is)
    (case l3 => k_is)
    (case c3 => k_is)
    (case k3 => k_is)
    (case a4 => k_is)
    (case l4 => k_is)
    (case c4 => k_is)
    (case k4 => k_is)
    (case a5 => k_is)
    (case l5 => k_is)
    (case c5 => k_is)
    (case k5 => k_is)
    (case a6 => k_is)
    (case l6 => k_is)
    (case c6 => k_is)
    (case k6 => k_is)
    (case a7 => k_is)
    (case l7 => k_is)
    (case c7 => k_is)
    (case k7 => k_is)
    (case a8 => k_is)
    (case l8 => k_is)
    (case c8 => k_is)
    (case k8 => k_is)
    (case a9 => k_is)
    (case l9 => k_is)
    (case c9 => k_is)
    (case k9 => k_is)
    (case a10 => k_is)
    (case l10 => k_is)
    (case c10 => k_is)
    (case k10 => k_is)
    (case a11 => k_is)
    (case l11 => k_is)
    (case c11 => k_is)
    (case k11 => k_is)
    (case a12 => k_is)
    (case l12 => k_is)
    (case c12 => k_is)
    (case k12 => k_is)
    (case a13 => k_is)
    (case l13 => k_is)
    (case c13 => k_is)
    (case k13 => k_is)
    (case a14 => k_is)
    (case l14 => k_is)
    (case c14 => k_is)
    (case k14 => k_is)
    (case a15 => k_is)
    (case i15 => k_is)
    (case l15 => k_is)
    (case c15 => k_is)
    (case k15 => k_is)
    (case a16 => k_is)
    (case i16 => k_is)
    (case l16 => k_is)
    (case c16 => k_is)
    (case k16 => k_is)
    (case a17 => k_is)
    (case i17 => k_is)
    (case l17 => k_is)
    (case c17 => k_is)
    (case k17 => k_is)
    (case a18 => k_is)
    (case i18 => k_is)
    (case l18 => k_is)
    (case c18 => k_is)
    (case k18 => k_is)
    (case a19 => k_is)
    (case i19 => k_is)
    (case l19 => k_is)
    (case c19 => k_is)
    (case k19 => k_is)
    (case a20 => k_is)
    (case i20 => k_is)
    (case l20 => k_is)
    (case c20 => k_is)
    (case k20 => k_is)
    (case a21 => k_is)
    (case i21 => k_is)
    (case l21 => k_is)
    (case c21 => k_is)
    (case k21 => k_is)
    (case a22 => k_is)
    (case i22 => k_is)
    (case l22 => k_is)
    (case c22 => k_is)
    (case k22 => k_is)
    (case a23 => k_is)
    (case i23 => k_is)
    (case l23 => k_is)
    (case c23 => k_is)
    (case k23 => k_is)
    (case pg => k_is)
    (case hd => k_is)
    (case po => k_is)
    (case sa => k_is)
    (case mk => k_is)
    (case kc => k_is)
    (case nF => k_is)
    (case nL => k_is)
    (case nW => k_is)
    (case rha => k_is)
    (case rhn => k_is)
    (case rht => k_is)
    (case rhm => k_is)
    (case rkit => first | kernel_rfl | rfl | decide +kernel)
    (case qhn => k_is)
    (case qhob => k_is)
    (case asf => k_is)
    (case aR => k_is)
    (case ia => k_is)
    (case ir => k_is)
    (case isb => k_is)
    (case fnI => k_is)
    (case gN => k_is)
    (case oN => k_is)
    (case gS => k_is)
    (case oS => k_is)
    (case gL => k_is)
    (case gM => k_is)
    (case z_len => k_is)
    (case z_all => k_is)
    (case z_isinstance => k_is)
    (case z_str => k_is)
    (case z_tuple => k_is)
    (case z_list => k_is)
    (case z_int => k_is)
    (case z_bool => k_is)
    (case z_min => k_is)
    (case z_range => k_is)

end
