import PyProof.Rows.All
import Wide.All
import OpenK.AllK
import Wide.FinOn
import HandS.Words
import HandS.List
import HandS.Comp
import HandS.Text
import HandS.Iter
import PySem.Challenge.RW_typingroom_k50_whole_patches
import HandS.Wide
import HandS.IsInst
import HandS.TupAny
import HandS.OwnEq
import HandS.Star
import HandS.Conv
import HandS.MapObj
import KE.KTupTruth
import KE.KOpsOwn
import OpenK.KOps
import PyProof.StrBlock2
import HandS.Style
import HandS.WordsExc
import HandS.TryOnly
import HandS.SuiteRaise
import HandS.Walk
import HandS.TryMany
import HandS.ExcInitHot
import HandS.HotCalls
import KE.KRevSl
import HandS.OwnIter
import HandS.IterVal
import HandS.SortKw
import KE.DataMinMax
import HandS.Zip
import HandS.ExcCtx
section
set_option Elab.async false
set_option linter.all false
set_option maxRecDepth 100000
set_option maxHeartbeats 4000000
namespace P5
open PySem L2
def tp (i : Nat) : Stmt := PySem.Challenge.pw_typingroom_k50_whole_patches.main.body.getD i (.Pass ⟨0, 0, 0, 0⟩)
theorem Same.tup {K : PySem.W.Frag} {H H' : Hp} {a : Addr} {xs : List V} (e : Same H H') (h : SqT K H a xs) : SqT K H' a xs := by
  rcases h with (h | ⟨o, h⟩) | h
  · exact .inl (.inl (e _ _ h))
  · exact .inl (.inr ⟨o, e _ _ h⟩)
  · exact .inr h
theorem Same.new {H : Hp} {p : Addr} (h : H p = none) (o : HO) : Same H (upd H p o) := fun b u q => by rw [upd_ne (ne_of_none q h)]; exact q
theorem SqT.of {K : PySem.W.Frag} {H : Hp} {a : Addr} {xs : List V} (h : H a = some (.tup xs)) : SqT K H a xs := .inl (.inl h)
theorem pgl {X : Cx} {x : Str} {a : Addr} {pos : Pos} (hm : X.mg x = some (.ref a)) (hg : Gl X x := by rfl) (hd : (x == ("__debug__" : Str)) = false := by decide) : PE X (.Name x pos) (tC (.ref a)) := pe_glob hg hm rfl hd
def smallS (x : Str) : Bool := !decide (x.cps.toList < ("a" : Str).cps.toList) && !decide (("z" : Str).cps.toList < x.cps.toList)
def signs (x : Str) : List Str := x.cps.toList.map fun c => (⟨#[c]⟩ : Str)
def noWord (x : Str) : Bool := [("any" : Str), "give", "let"].any fun y => y == x
def wordB (x : Str) : Bool := decide (1 ≤ x.length) && decide (x.length ≤ 10) && !noWord x && ((signs x).map smallS).all id
section
variable {P : Program} {w : World} {K : PySem.W.Frag} {mg : Str → Option Value} {base : Heap}
abbrev sSmall : Stmt := tp 8
theorem scSmall : FnScope ["letter"] ["letter"] (defScope sSmall) := ⟨rfl, rfl, rfl, by decide +kernel, rfl, by decide +kernel, by decide +kernel⟩
def spSmall : Sp := fun vs H Q _ => ∃ x : Str, vs = [.str x] ∧ Q (.bl (smallS x)) H
theorem ok_small {f : Addr} {fd : FuncData} (F : Fun K "is_small" "is_small" sSmall f fd) : FnOk P w K mg base CX0 1 f fd ["letter"] spSmall := by
  refine F.ok scSmall (fun vs H Q E h => ?_) (fun cdv A outer s H vs Q E hr h => ?_)
  · obtain ⟨x, rfl, _⟩ := h
    rfl
  obtain ⟨x, rfl, q⟩ := h
  refine ⟨_, pss_one (ps_ret (pe_chain op_le_str op_le_str pe_str (pv 0) pe_str)), ?_⟩
  refine ⟨_, rfl, _, _, rfl, rfl, _, rfl, ite2 (fun c => ?_) (fun c => ?_)⟩
  · refine ⟨_, _, rfl, rfl, ?_⟩
    have e : smallS x = !decide (("z" : Str).cps.toList < x.cps.toList) := by
      unfold smallS
      rw [c, Bool.true_and]
    rw [← e]
    exact q
  · have e : smallS x = false := by
      unfold smallS
      rw [Bool.eq_false_iff.mpr c, Bool.false_and]
    rw [← e]
    exact q
end
/-! ### comprehensions whose items are known values: ys, one a turn -/
theorem same_acc {H H4 : Hp} {D : Addr} {o : HO} (hn : H D = none) (s : Same H H4) : Same H (upd H4 D o) := fun b u q => by
  rw [upd_ne (ne_of_none q hn)]
  exact s b u q
theorem take_more {α : Type} : ∀ {l : List α} {i : Nat} {x : α}, l[i]? = some x → l.take (i + 1) = l.take i ++ [x]
  | [], i, x, h => by simp at h
  | a :: l, 0, x, h => by
    have e : a = x := Option.some.inj h
    subst e
    rfl
  | a :: l, i + 1, x, h => by
    have ih := take_more (l := l) (i := i) (x := x) h
    show a :: l.take (i + 1) = a :: l.take i ++ [x]
    rw [ih]
    rfl
theorem small_le {n : Nat} (h : n ≤ 1000) : n ≤ sizeLine := Nat.le_of_lt (small1000 h)
/-- n turns; R tells what a turn is given; what was there at the start stays -/
theorem lc_go {J : It} {g : TG} {te : TE} {vs : List Nat} {σ : St} {H1 : Hp} {D : Addr} {Qd : Hp → Prop} (n : Nat) (R : Nat → V → Hp → Prop) (ys : List V) (hl : ys.length = n) (hz : n ≤ 1000) (hD : H1 D = none)
    (go : ∀ i H', i < n → Same H1 H' → J.go i H') (yld : ∀ i x H' H'', i < n → Same H1 H' → J.yld i H' x H'' → Same H' H'' ∧ R i x H'') (stop : ∀ H', Same H1 H' → J.stop n H')
    (turn : ∀ (i : Nat) (y x : V) (H' : Hp) (Q : VK), ys[i]? = some y → Same H1 H' → R i x H' → (∀ H4, Same H' H4 → Q y H4) → g x (wipe σ vs) H' fun σ2 H2 => wipe σ2 vs = wipe σ vs ∧ te σ2 H2 Q)
    (hd : ∀ H', Same H1 H' → H' D = some (.lst ys) → Qd H') :
    ∃ W : Nat → Nat → Hp → Prop, (∃ m, W 0 m (upd H1 D (.lst []))) ∧ ∀ i m H, W i m H →
      (J.stop i H ∧ Qd H) ∨ (J.go i H ∧ ∃ Nx : Hp → Prop, (∀ H', Nx H' → ∃ m', m' < m ∧ W (i + 1) m' H') ∧ ∀ x H', J.yld i H x H' → g x (wipe σ vs) H' fun σ2 H2 => wipe σ2 vs = wipe σ vs ∧ tYes σ2 H2 fun b H3 =>
        if b = true then te σ2 H3 fun y H4 => ∃ acc, H4 D = some (.lst acc) ∧ acc.length < sizeLine ∧ Nx (upd H4 D (.lst (acc ++ [y]))) else Nx H3) := by
  refine ⟨fun i m H => m = n - i ∧ i ≤ n ∧ Same H1 H ∧ H D = some (.lst (ys.take i)), ⟨n, by omega, Nat.zero_le _, same_acc hD (Same.refl _), upd_same⟩, ?_⟩
  rintro i m H ⟨rfl, hi, s, hL⟩
  by_cases hlt : i < n
  · refine .inr ⟨go i H hlt s, fun H' => Same H1 H' ∧ H' D = some (.lst (ys.take (i + 1))), fun H' p' => ⟨n - (i + 1), by omega, rfl, hlt, p'⟩, fun x H' y => ?_⟩
    obtain ⟨s2, r⟩ := yld i x H H' hlt s y
    have hy : ys[i]? = some ys[i] := List.getElem?_eq_getElem (by omega)
    refine turn i ys[i] x H' _ hy (s.trans s2) r fun H4 s4 => ?_
    refine ⟨ys.take i, s4 _ _ (s2 _ _ hL), small1000 (by rw [List.length_take]; omega), same_acc hD ((s.trans s2).trans s4), ?_⟩
    rw [upd_same, take_more hy]
  · have e : i = n := by omega
    subst e
    refine .inl ⟨stop H s, hd H s ?_⟩
    rw [hL, List.take_of_length_le (by omega)]
theorem lcT {K : PySem.W.Frag} {a : Addr} {xs : List V} {g : TG} {te : TE} {vs : List Nat} {σ : St} {H1 : Hp} {D : Addr} {Qd : Hp → Prop} (ys : List V) (hl : ys.length = xs.length) (hz : xs.length ≤ 1000) (hS : SqT K H1 a xs) (hD : H1 D = none)
    (turn : ∀ (i : Nat) (y x : V) (H' : Hp) (Q : VK), xs[i]? = some x → ys[i]? = some y → Same H1 H' → (∀ H4, Same H' H4 → Q y H4) → g x (wipe σ vs) H' fun σ2 H2 => wipe σ2 vs = wipe σ vs ∧ te σ2 H2 Q)
    (hd : ∀ H', Same H1 H' → H' D = some (.lst ys) → Qd H') :
    ∃ W : Nat → Nat → Hp → Prop, (∃ m, W 0 m (upd H1 D (.lst []))) ∧ ∀ i m H, W i m H →
      ((Itt K a).stop i H ∧ Qd H) ∨ ((Itt K a).go i H ∧ ∃ Nx : Hp → Prop, (∀ H', Nx H' → ∃ m', m' < m ∧ W (i + 1) m' H') ∧ ∀ x H', (Itt K a).yld i H x H' → g x (wipe σ vs) H' fun σ2 H2 => wipe σ2 vs = wipe σ vs ∧ tYes σ2 H2 fun b H3 =>
        if b = true then te σ2 H3 fun y H4 => ∃ acc, H4 D = some (.lst acc) ∧ acc.length < sizeLine ∧ Nx (upd H4 D (.lst (acc ++ [y]))) else Nx H3) :=
  lc_go xs.length (fun i x _ => xs[i]? = some x) ys hl hz hD (fun i H' hi s => ⟨xs, xs[i], Same.tup s hS, List.getElem?_eq_getElem hi⟩)
    (fun i x H' H'' hi s q => by obtain ⟨e, q⟩ := q; rw [e]; exact ⟨Same.refl _, q xs (Same.tup s hS)⟩) (fun H' s => ⟨xs, Same.tup s hS, Nat.le_refl _⟩) (fun i y x H' Q hy s hx k => turn i y x H' Q hx hy s k) hd
theorem lcL {K : PySem.W.Frag} {a : Addr} {xs : List V} {g : TG} {te : TE} {vs : List Nat} {σ : St} {H1 : Hp} {D : Addr} {Qd : Hp → Prop} (ys : List V) (hl : ys.length = xs.length) (hz : xs.length ≤ 1000) (hS : SqL K H1 a xs) (hD : H1 D = none)
    (turn : ∀ (i : Nat) (y x : V) (H' : Hp) (Q : VK), xs[i]? = some x → ys[i]? = some y → Same H1 H' → (∀ H4, Same H' H4 → Q y H4) → g x (wipe σ vs) H' fun σ2 H2 => wipe σ2 vs = wipe σ vs ∧ te σ2 H2 Q)
    (hd : ∀ H', Same H1 H' → H' D = some (.lst ys) → Qd H') :
    ∃ W : Nat → Nat → Hp → Prop, (∃ m, W 0 m (upd H1 D (.lst []))) ∧ ∀ i m H, W i m H →
      ((Itl K a).stop i H ∧ Qd H) ∨ ((Itl K a).go i H ∧ ∃ Nx : Hp → Prop, (∀ H', Nx H' → ∃ m', m' < m ∧ W (i + 1) m' H') ∧ ∀ x H', (Itl K a).yld i H x H' → g x (wipe σ vs) H' fun σ2 H2 => wipe σ2 vs = wipe σ vs ∧ tYes σ2 H2 fun b H3 =>
        if b = true then te σ2 H3 fun y H4 => ∃ acc, H4 D = some (.lst acc) ∧ acc.length < sizeLine ∧ Nx (upd H4 D (.lst (acc ++ [y]))) else Nx H3) :=
  lc_go xs.length (fun i x _ => xs[i]? = some x) ys hl hz hD (fun i H' hi s => ⟨xs, xs[i], s.seq hS, List.getElem?_eq_getElem hi⟩)
    (fun i x H' H'' hi s q => by obtain ⟨e, q⟩ := q; rw [e]; exact ⟨Same.refl _, q xs (s.seq hS)⟩) (fun H' s => ⟨xs, s.seq hS, Nat.le_refl _⟩) (fun i y x H' Q hy s hx k => turn i y x H' Q hx hy s k) hd
theorem lcS {z : Str} {g : TG} {te : TE} {vs : List Nat} {σ : St} {H1 : Hp} {D : Addr} {Qd : Hp → Prop} (ys : List V) (hl : ys.length = z.length) (hz : z.length ≤ 1000) (hD : H1 D = none)
    (turn : ∀ (i : Nat) (y : V) (c : Nat) (H' : Hp) (Q : VK), z.cps.toList[i]? = some c → ys[i]? = some y → Same H1 H' → (∀ H4, Same H' H4 → Q y H4) → g (.str ⟨#[c]⟩) (wipe σ vs) H' fun σ2 H2 => wipe σ2 vs = wipe σ vs ∧ te σ2 H2 Q)
    (hd : ∀ H', Same H1 H' → H' D = some (.lst ys) → Qd H') :
    ∃ W : Nat → Nat → Hp → Prop, (∃ m, W 0 m (upd H1 D (.lst []))) ∧ ∀ i m H, W i m H →
      ((Its z).stop i H ∧ Qd H) ∨ ((Its z).go i H ∧ ∃ Nx : Hp → Prop, (∀ H', Nx H' → ∃ m', m' < m ∧ W (i + 1) m' H') ∧ ∀ x H', (Its z).yld i H x H' → g x (wipe σ vs) H' fun σ2 H2 => wipe σ2 vs = wipe σ vs ∧ tYes σ2 H2 fun b H3 =>
        if b = true then te σ2 H3 fun y H4 => ∃ acc, H4 D = some (.lst acc) ∧ acc.length < sizeLine ∧ Nx (upd H4 D (.lst (acc ++ [y]))) else Nx H3) :=
  lc_go z.cps.size (fun i x _ => ∃ c, z.cps.toList[i]? = some c ∧ x = .str ⟨#[c]⟩) ys hl hz hD (fun i H' hi s => hi)
    (fun i x H' H'' hi s q => by obtain ⟨e, c, h1, h2⟩ := q; rw [e]; exact ⟨Same.refl _, c, by rw [Array.getElem?_toList]; exact h1, h2⟩) (fun H' s => Nat.le_refl _)
    (fun i y x H' Q hy s hx k => by obtain ⟨c, h1, h2⟩ := hx; subst h2; exact turn i y c H' Q h1 hy s k) hd
end P5

end
section
set_option Elab.async false
set_option linter.all false
set_option maxRecDepth 100000
set_option maxHeartbeats 4000000
namespace P5
open PySem L2
/-! ### the draws: any number below the bound -/
/-- the drawing list at d: what is drawn from, 0, how many were drawn -/
def Drw (H : Hp) (d : Addr) : Prop := ∃ (sa : Addr) (ns : List Int) (n : Int), H d = some (.lst [.ref sa, .int 0, .int n]) ∧ H sa = some (.lst (ns.map V.int)) ∧ ns.length ≤ 63 ∧ 0 ≤ n
/-- all that was there stays, but the drawing list -/
def Aft (H H' : Hp) (d : Addr) : Prop := ∀ x o, x ≠ d → H x = some o → H' x = some o
theorem Aft.refl (H : Hp) (d : Addr) : Aft H H d := fun _ _ _ h => h
theorem Aft.trans {H H1 H2 : Hp} {d : Addr} (a : Aft H H1 d) (b : Aft H1 H2 d) : Aft H H2 d := fun x o n h => b x o n (a x o n h)
theorem Aft.of {H H' : Hp} {d : Addr} (s : Same H H') : Aft H H' d := fun x o _ h => s x o h
theorem Drw.same {H H' : Hp} {d : Addr} (h : Drw H d) (s : Same H H') : Drw H' d := by
  obtain ⟨sa, ns, n, h1, h2, h3⟩ := h
  exact ⟨sa, ns, n, s _ _ h1, s _ _ h2, h3⟩
theorem Drw.ne {H : Hp} {d x : Addr} {o : HO} (h : Drw H d) (hx : H x = some o) (hn : ∀ sa n, o ≠ .lst [.ref sa, .int 0, .int n]) : x ≠ d := fun e => by
  obtain ⟨sa, ns, n, h1, _⟩ := h
  rw [e, h1] at hx
  exact hn sa n (Option.some.inj hx).symm
theorem Aft.tup {K : PySem.W.Frag} {H H' : Hp} {d a : Addr} {xs : List V} (hd : Drw H d) (e : Aft H H' d) (h : SqT K H a xs) : SqT K H' a xs := by
  rcases h with (h | ⟨o, h⟩) | h
  · exact .inl (.inl (e _ _ (hd.ne h fun _ _ z => by cases z) h))
  · exact .inl (.inr ⟨o, e _ _ (hd.ne h fun _ _ z => by cases z) h⟩)
  · exact .inr h
theorem Aft.seq {K : PySem.W.Frag} {H H' : Hp} {d a : Addr} {xs : List V} (hn : a ≠ d) (e : Aft H H' d) (h : SqL K H a xs) : SqL K H' a xs := by
  rcases h with (h | ⟨o, h⟩) | h
  · exact .inl (.inl (e _ _ hn h))
  · exact .inl (.inr ⟨o, e _ _ hn h⟩)
  · exact .inr h
theorem at_list {xs : List V} {k : Int} (h0 : 0 ≤ k) (h : k < (xs.length : Int)) : ∃ v, xs[k.toNat]? = some v ∧ atI xs k = some v := by
  have hk : k.toNat < xs.length := by omega
  have ek : k = ((k.toNat : Nat) : Int) := by omega
  have q : atI xs ((k.toNat : Nat) : Int) = some xs[k.toNat] := atI_nat (List.getElem?_eq_getElem hk)
  rw [← ek] at q
  exact ⟨_, List.getElem?_eq_getElem hk, q⟩
theorem at_ints {ns : List Int} {k : Int} (h0 : 0 ≤ k) (h : k < (ns.length : Int)) : ∃ v : Int, atI (ns.map V.int) k = some (.int v) := by
  obtain ⟨v, h1, h2⟩ := at_list (xs := ns.map V.int) h0 (by rw [List.length_map]; exact h)
  rw [List.getElem?_map] at h1
  cases e : ns[k.toNat]? with
  | none => rw [e] at h1; cases h1
  | some i =>
    rw [e] at h1
    cases h1
    exact ⟨i, h2⟩
section
variable {P : Program} {w : World} {K : PySem.W.Frag} {mg : Str → Option Value} {base : Heap}
abbrev sCell : Stmt := tp 33
theorem scCell : FnScope ["script", "k"] ["script", "k"] (defScope sCell) := ⟨rfl, rfl, rfl, by decide +kernel, rfl, by decide +kernel, by decide +kernel⟩
def spCell (K : PySem.W.Frag) : Sp := fun vs H Q _ => ∃ (a : Addr) (ns : List Int) (k : Int), vs = [.ref a, .int k] ∧ SqL K H a (ns.map V.int) ∧ 0 ≤ k ∧ ∀ r, Q (.int r) H
theorem ok_cell {f : Addr} {fd : FuncData} (F : Fun K "_law_cell_at" "_law_cell_at" sCell f fd) (ml : mg "len" = none) : FnOk P w K mg base CX0 1 f fd ["script", "k"] (spCell K) := by
  refine F.ok scCell (fun vs H Q E h => ?_) (fun cdv A outer s H vs Q E hr h => ?_)
  · obtain ⟨x, _, _, rfl, _⟩ := h
    rfl
  obtain ⟨a, ns, k, rfl, hS, h0, q⟩ := h
  refine ⟨_, pss_cons (ps_if (pt_cmpR op_lt (pv 1) (pe_callB call_len_seq rfl ml PySem.boot_len (pa_cons (pv 0) pa_nil)) (nomark _)) (pss_one (ps_ret (pe_ix ix_list (pv 0) (pv 1) (fun _ _ => rfl)))) pss_nil)
    (pss_one (ps_ret pe_int)), ?_⟩
  refine ⟨_, rfl, _, rfl, a, _, rfl, .inl hS, _, _, rfl, rfl, _, rfl, ite2 (fun c => ?_) (fun c => ?_)⟩
  · have c' : k < (((ns.map V.int).length : Nat) : Int) := of_decide_eq_true c
    rw [List.length_map] at c'
    obtain ⟨v, hv⟩ := at_ints (ns := ns) h0 c'
    exact ⟨_, rfl, _, rfl, a, _, k, .int v, rfl, rfl, hS, hv, q _⟩
  · exact q 0
abbrev sDraw : Stmt := tp 34
theorem scDraw : FnScope ["cell", "k", "bound", "primes"] ["cell", "k", "bound"] (defScope sDraw) := ⟨rfl, rfl, rfl, by decide +kernel, rfl, by decide +kernel, by decide +kernel⟩
def spDraw : Sp := fun vs H Q _ => ∃ (c k b : Int), vs = [.int c, .int k, .int b] ∧ c.natAbs < 2 ^ 60 ∧ k.natAbs < 2 ^ 60 ∧ 0 < b ∧ ∀ r H', 0 ≤ r → r < b → Same H H' → Q (.int r) H'
def PRM : List Int := [1000003, 1000033, 1000037, 1000039, 1000081, 1000099, 1000117, 1000121, 1000133, 1000151, 1000159, 1000171, 1000183, 1000187, 1000193, 1000199]
theorem prm_at {i : Int} (h0 : 0 ≤ i) (h : i < 16) : ∃ p : Int, 0 < p ∧ atI (PRM.map V.int) i = some (.int p) := by
  have z : ∀ n : Fin 16, ∃ p : Int, 0 < p ∧ PRM[n.val]? = some p := fun n => ⟨PRM.getD n.val 0, by revert n; decide +kernel, by revert n; decide +kernel⟩
  obtain ⟨p, h1, h2⟩ := z ⟨i.toNat, by omega⟩
  refine ⟨p, h1, ?_⟩
  have ek : i = ((i.toNat : Nat) : Int) := by omega
  have q : atI (PRM.map V.int) ((i.toNat : Nat) : Int) = some (.int p) := atI_nat (by rw [List.getElem?_map, h2] <;> rfl)
  rw [← ek] at q
  exact q
theorem ok_draw {f : Addr} {fd : FuncData} (F : Fun K "_law_draw" "_law_draw" sDraw f fd) (mi : mg "int" = none) : FnOk P w K mg base CX0 1 f fd ["cell", "k", "bound"] spDraw := by
  refine F.ok scDraw (fun vs H Q E h => ?_) (fun cdv A outer s H vs Q E hr h => ?_)
  · obtain ⟨x, _, _, rfl, _⟩ := h
    rfl
  obtain ⟨c, k, b, rfl, hc, hk, hb, q⟩ := h
  refine ⟨_, pss_cons (ps_set (i := 3) scDraw.nd rfl (Or.inl rfl) (pe_tup (pa_cons pe_int (pa_cons pe_int (pa_cons pe_int (pa_cons pe_int (pa_cons pe_int (pa_cons pe_int (pa_cons pe_int (pa_cons pe_int (pa_cons pe_int (pa_cons pe_int (pa_cons pe_int (pa_cons pe_int (pa_cons pe_int (pa_cons pe_int (pa_cons pe_int (pa_cons pe_int pa_nil))))))))))))))))))
    (pss_one (ps_ret (pe_op op_modN (pe_op op_modN (pe_callTy call_int1 rfl mi (by decide +kernel) (pa_cons (pe_op op_add (pe_mul (pv 0) pe_int) (pe_mul (pv 1) pe_int)) pa_nil))
      (pe_ix ix_tup (pv 3) (pe_op op_mod (pe_callTy call_int1 rfl mi (by decide +kernel) (pa_cons (pv 1) pa_nil)) pe_int) (fun _ _ => rfl))) (pv 2)))), ?_⟩
  refine ⟨(by show 16 ≤ sizeLine; decide), fun p hp => ?_⟩
  have hp' : upd H p (.tup (PRM.map V.int)) p = some (.tup (PRM.map V.int)) := upd_same
  obtain ⟨m, hm0, hm⟩ := prm_at (i := k % 16) (Int.emod_nonneg _ (by decide)) (Int.emod_lt_of_pos _ (by decide))
  refine ⟨_, rfl, _, _, rfl, rfl, ⟨by omega, by omega⟩, _, rfl, _, _, rfl, rfl, ⟨by omega, by omega⟩, _, _, rfl, rfl, .inl ⟨_, rfl, ?_⟩⟩
  refine ⟨_, rfl, _, rfl, .inl ⟨_, rfl, _, _, rfl, rfl, (by show (0 : Int) < 16; decide), p, _, _, _, rfl, rfl, P5.SqT.of hp', hm, _, _, rfl, rfl, by omega, _, rfl, _, _, rfl, rfl, by omega, ?_⟩⟩
  exact q _ _ (Int.fmod_nonneg_of_pos _ hb) (Int.fmod_lt_of_pos _ hb) (Same.new hp _)
end
section
variable {P : Program} {w : World} {K : PySem.W.Frag} {mg : Str → Option Value} {base : Heap}
abbrev sNum : Stmt := tp 35
theorem scNum : FnScope ["cell", "k", "bound", "power", "lap", "remains", "small"] ["cell", "k", "bound"] (defScope sNum) := ⟨rfl, rfl, rfl, by decide +kernel, rfl, by decide +kernel, by decide +kernel⟩
def spNum : Sp := fun vs H Q _ => ∃ (c k b : Int), vs = [.int c, .int k, .int b] ∧ 0 ≤ k ∧ k ≤ 100 ∧ 0 < b ∧ ∀ r H', 0 ≤ r → r < b → Same H H' → Q (.int r) H'
theorem pow_small (i : Nat) (h : i < 24) : ((1009 : Int) ^ i).natAbs < 2 ^ 240 ∧ (0 : Int) < 1009 ^ i := by
  have z : ∀ n : Fin 24, ((1009 : Int) ^ n.val).natAbs < 2 ^ 240 ∧ (0 : Int) < 1009 ^ n.val := by decide +kernel
  exact z ⟨i, h⟩
theorem ok_num {f fD : Addr} {fd fdD : FuncData} (F : Fun K "_law_number" "_law_number" sNum f fd) (mi : mg "int" = none) (mr : mg "range" = none)
    (G : FnOk P w K mg base CX0 1 fD fdD ["cell", "k", "bound"] spDraw) (bG : Binds K fdD ["cell", "k", "bound"] []) (kG : PySem.W.keepIn K (.ref fD) = true) (mG : mg "_law_draw" = some (.ref fD)) : FnOk P w K mg base CX0 2 f fd ["cell", "k", "bound"] spNum := by
  refine F.ok scNum (fun vs H Q E h => ?_) (fun cdv A outer s H vs Q E hr h => ?_)
  · obtain ⟨x, _, _, rfl, _⟩ := h
    rfl
  obtain ⟨c, k, b, rfl, h0, h1, hb, q⟩ := h
  refine ⟨_, pss_cons (ps_set (i := 3) scNum.nd rfl (Or.inl rfl) pe_int)
    (pss_cons (ps_for PassesOwn.never rfl (pi_range1 rfl mr (pa_cons (pe_op op_mod (pe_callTy call_int1 rfl mi (by decide +kernel) (pa_cons (pv 1) pa_nil)) pe_int) pa_nil)) (pg_name (i := 4) scNum.nd rfl (Or.inl rfl))
      (pss_one (ps_set (i := 3) scNum.nd rfl (Or.inl rfl) (pe_op op_mulW (pv 3) pe_int))))
    (pss_cons (ps_set (i := 5) scNum.nd rfl (Or.inl rfl) (pe_op op_fdivW (pe_op op_sub (pv 0) (pe_op op_pow pe_int pe_int)) (pv 3)))
    (pss_cons (ps_if (pt_cmpR op_gt (pv 5) pe_int (nomark _)) (pss_one (ps_ret (pe_op op_modN (pe_op op_mod (pe_callTy call_int1 rfl mi (by decide +kernel) (pa_cons (pv 5) pa_nil)) pe_int) (pv 2)))) pss_nil)
    (pss_cons (ps_set (i := 6) scNum.nd rfl (Or.inl rfl) (pe_op op_mod (pe_callTy call_int1 rfl mi (by decide +kernel) (pa_cons (pv 0) pa_nil)) pe_int))
    (pss_one (ps_ret (pe_op op_modN (pe_call G hr rfl mG kG bG .nil pass0 (pa_cons (pe_mul (pe_op op_add (pv 6) (pe_mul pe_int (pv 1))) (pe_op op_add (pe_op op_add (pv 6) (pe_mul pe_int (pv 1))) pe_int))
      (pa_cons (pe_op op_add (pe_op op_mod (pe_callTy call_int1 rfl mi (by decide +kernel) (pa_cons (pv 1) pa_nil)) pe_int) pe_int) (pa_cons pe_int pa_nil)))) (pv 2)))))))), ?_⟩
  have hk0 : 0 ≤ k % 24 := Int.emod_nonneg _ (by decide)
  have hk1 : k % 24 < 24 := Int.emod_lt_of_pos _ (by decide)
  refine ⟨_, rfl, .inl ⟨_, rfl, _, _, rfl, rfl, (by show (0 : Int) < 24; decide), _, rfl, by omega, by omega, ?_⟩⟩
  refine for_range (n := (k % 24).toNat) (fun i σ H' => H' = H ∧ ∃ v, σ = [some (.int c), some (.int k), some (.int b), some (.int (1009 ^ i)), v, none, none]) ⟨rfl, none, rfl⟩ ?_ ?_
  · rintro i σ H' hi ⟨rfl, v, rfl⟩
    have hp := pow_small i (by omega)
    refine ⟨_, rfl, _, _, rfl, rfl, wide_mul hp.1 (show (1009 : Int).natAbs < 2 ^ 10 by decide) (by decide) (by decide) (by decide), rfl, some (.int (0 + (i : Int))), ?_⟩
    rw [Int.pow_succ]
    rfl
  · rintro σ H' ⟨rfl, v, rfl⟩
    have hp := pow_small (k % 24).toNat (by omega)
    refine ⟨_, rfl, _, _, rfl, rfl, ⟨by decide, by decide, by decide +kernel⟩, _, _, rfl, rfl, _, rfl, _, _, rfl, rfl, wide_div hp.2 hp.1 (by decide) (by decide), ?_⟩
    refine ⟨_, rfl, _, _, rfl, rfl, _, rfl, ite2 (fun z => ?_) (fun z => ?_)⟩
    · refine ⟨_, rfl, .inl ⟨_, rfl, _, _, rfl, rfl, (by show (0 : Int) < 1009; decide), _, rfl, _, _, rfl, rfl, by omega, ?_⟩⟩
      exact q _ _ (Int.fmod_nonneg_of_pos _ hb) (Int.fmod_lt_of_pos _ hb) (Same.refl _)
    · refine ⟨_, rfl, .inl ⟨_, rfl, _, _, rfl, rfl, (by show (0 : Int) < 1000003; decide), ?_⟩⟩
      have s0 : 0 ≤ c % 1000003 := Int.emod_nonneg _ (by decide)
      have s1 : c % 1000003 < 1000003 := Int.emod_lt_of_pos _ (by decide)
      have k9 : 0 ≤ k % 9 := Int.emod_nonneg _ (by decide)
      have k9' : k % 9 < 9 := Int.emod_lt_of_pos _ (by decide)
      refine ⟨_, rfl, _, rfl, _, _, rfl, rfl, (by constructor <;> decide), _, _, rfl, rfl, _, rfl, _, rfl, _, _, rfl, rfl, (by constructor <;> decide), _, _, rfl, rfl, _, _, rfl, rfl, _, _, rfl, rfl, ?_, ?_⟩
      · constructor <;> omega
      refine ⟨_, rfl, .inl ⟨_, rfl, _, _, rfl, rfl, (by show (0 : Int) < 9; decide), _, _, rfl, rfl, _, _, _, rfl, ?_, ?_, by decide, fun r H2 r0 r1 s2 => ?_⟩⟩
      · have a1 : (c % 1000003 + 977 * k).natAbs < 2 ^ 21 := by omega
        have a2 : (c % 1000003 + 31 * k + 5).natAbs < 2 ^ 21 := by omega
        exact Nat.lt_trans (wide_lt a1 a2) (by decide)
      · omega
      · refine ⟨_, rfl, _, _, rfl, rfl, by omega, ?_⟩
        exact q _ _ (Int.fmod_nonneg_of_pos _ hb) (Int.fmod_lt_of_pos _ hb) s2
end
section
variable {P : Program} {w : World} {K : PySem.W.Frag} {mg : Str → Option Value} {base : Heap}
abbrev sNext : Stmt := tp 36
theorem scNext : FnScope ["draw", "bound", "at", "cell"] ["draw", "bound"] (defScope sNext) := ⟨rfl, rfl, rfl, by decide +kernel, rfl, by decide +kernel, by decide +kernel⟩
/-- the drawing list at d, with what is drawn from at sa -/
def DrwS (H : Hp) (d sa : Addr) : Prop := ∃ (ns : List Int) (n : Int), H d = some (.lst [.ref sa, .int 0, .int n]) ∧ H sa = some (.lst (ns.map V.int)) ∧ ns.length ≤ 63 ∧ 0 ≤ n
theorem DrwS.drw {H : Hp} {d sa : Addr} (h : DrwS H d sa) : Drw H d := ⟨sa, h⟩
def spNext : Sp := fun vs H Q _ => ∃ (d sa : Addr) (b : Int), vs = [.ref d, .int b] ∧ DrwS H d sa ∧ 0 < b ∧ ∀ r H', 0 ≤ r → r < b → Aft H H' d → DrwS H' d sa → Q (.int r) H'
theorem ok_next {f f1 f2 : Addr} {fd fd1 fd2 : FuncData} (F : Fun K "_law_next" "_law_next" sNext f fd) (mi : mg "int" = none)
    (G1 : FnOk P w K mg base CX0 1 f1 fd1 ["script", "k"] (spCell K)) (b1 : Binds K fd1 ["script", "k"] []) (k1 : PySem.W.keepIn K (.ref f1) = true) (m1 : mg "_law_cell_at" = some (.ref f1))
    (G2 : FnOk P w K mg base CX0 2 f2 fd2 ["cell", "k", "bound"] spNum) (b2 : Binds K fd2 ["cell", "k", "bound"] []) (k2 : PySem.W.keepIn K (.ref f2) = true) (m2 : mg "_law_number" = some (.ref f2)) : FnOk P w K mg base CX0 3 f fd ["draw", "bound"] spNext := by
  refine F.ok scNext (fun vs H Q E h => ?_) (fun cdv A outer s H vs Q E hr h => ?_)
  · obtain ⟨x, _, _, rfl, _⟩ := h
    rfl
  obtain ⟨d, sa, b, rfl, ⟨ns, n, hd, hsa, hlen, hn⟩, hb, q⟩ := h
  refine ⟨_, pss_cons (ps_asg (pe_op op_add (pe_ix ix_list (pv 0) pe_int (fun _ _ => rfl)) pe_int) (pg_sub (pv 0) pe_int set_list))
    (pss_cons (ps_set (i := 2) scNext.nd rfl (Or.inl rfl) (pe_op op_fdiv (pe_ix ix_list (pv 0) pe_int (fun _ _ => rfl)) pe_int))
    (pss_cons (ps_set (i := 3) scNext.nd rfl (Or.inl rfl) (pe_op op_add (pe_call G1 (hr.mono (by decide)) rfl m1 k1 b1 .nil pass0 (pa_cons (pe_ix ix_list (pv 0) pe_int (fun _ _ => rfl)) (pa_cons (pe_op op_add (pe_ix ix_list (pv 0) pe_int (fun _ _ => rfl)) (pv 2)) pa_nil))) (pe_mul pe_int (pv 2))))
    (pss_one (ps_ret (pe_call G2 hr rfl m2 k2 b2 .nil pass0 (pa_cons (pv 3) (pa_cons (pe_op op_add (pe_op op_mod (pe_callTy call_int1 rfl mi (by decide +kernel) (pa_cons (pe_ix ix_list (pv 0) pe_int (fun _ _ => rfl)) pa_nil)) pe_int) pe_int) (pa_cons (pv 1) pa_nil)))))))), ?_⟩
  have nsd : sa ≠ d := fun e => by
    rw [e, hd] at hsa
    have z := congrArg (fun o => match o with
      | HO.lst (.ref _ :: _) => true
      | _ => false) (Option.some.inj hsa)
    cases ns with
    | nil => cases z
    | cons => cases z
  refine ⟨_, rfl, d, _, 2, .int n, rfl, rfl, SqL.of hd, rfl, _, _, rfl, rfl, ?_⟩
  refine ⟨_, rfl, d, _, _, 2, rfl, rfl, hd, rfl, ?_⟩
  have h2 : upd H d (.lst [.ref sa, .int 0, .int (n + 1)]) d = some (.lst [.ref sa, .int 0, .int (n + 1)]) := upd_same
  refine ⟨_, rfl, d, _, 2, .int (n + 1), rfl, rfl, SqL.of h2, rfl, _, _, rfl, rfl, ⟨by decide, by decide⟩, ?_⟩
  have ha : (0 : Int) ≤ (n + 1) / 12 := Int.ediv_nonneg (by omega) (by decide)
  have s2 : upd H d (.lst [.ref sa, .int 0, .int (n + 1)]) sa = some (.lst (ns.map V.int)) := by rw [upd_ne nsd]; exact hsa
  refine ⟨_, rfl, d, _, 0, .ref sa, rfl, rfl, SqL.of h2, rfl, _, rfl, d, _, 1, .int 0, rfl, rfl, SqL.of h2, rfl, _, rfl, _, _, rfl, rfl, sa, ns, _, rfl, SqL.of s2, by omega, fun r => ?_⟩
  refine ⟨_, rfl, _, _, rfl, rfl, (by constructor <;> decide), _, _, rfl, rfl, ?_⟩
  refine ⟨_, rfl, _, rfl, d, _, 2, .int (n + 1), rfl, rfl, SqL.of h2, rfl, .inl ⟨_, rfl, _, _, rfl, rfl, (by show (0 : Int) < 12; decide), _, _, rfl, rfl, _, rfl, _, _, _, rfl, ?_, ?_, hb, fun r2 H2 r0 r1 s3 => ?_⟩⟩
  · have := Int.emod_nonneg (n + 1) (show (12 : Int) ≠ 0 by decide)
    omega
  · have := Int.emod_lt_of_pos (n + 1) (show (0 : Int) < 12 by decide)
    omega
  · refine q r2 H2 r0 r1 (fun x o hx ho => s3 _ _ (by rw [upd_ne hx]; exact ho)) ⟨ns, n + 1, s3 _ _ h2, s3 _ _ s2, hlen, by omega⟩
abbrev sPick : Stmt := tp 37
theorem scPick : FnScope ["draw", "things"] ["draw", "things"] (defScope sPick) := ⟨rfl, rfl, rfl, by decide +kernel, rfl, by decide +kernel, by decide +kernel⟩
def spPick (K : PySem.W.Frag) : Sp := fun vs H Q _ => ∃ (d sa l : Addr) (xs : List V), vs = [.ref d, .ref l] ∧ DrwS H d sa ∧ SqL K H l xs ∧ l ≠ d ∧ xs ≠ [] ∧ ∀ (i : Nat) (x : V) (H' : Hp), xs[i]? = some x → Aft H H' d → DrwS H' d sa → Q x H'
theorem ok_pick {f f1 : Addr} {fd fd1 : FuncData} (F : Fun K "_law_pick" "_law_pick" sPick f fd) (ml : mg "len" = none)
    (G1 : FnOk P w K mg base CX0 3 f1 fd1 ["draw", "bound"] spNext) (b1 : Binds K fd1 ["draw", "bound"] []) (k1 : PySem.W.keepIn K (.ref f1) = true) (m1 : mg "_law_next" = some (.ref f1)) : FnOk P w K mg base CX0 4 f fd ["draw", "things"] (spPick K) := by
  refine F.ok scPick (fun vs H Q E h => ?_) (fun cdv A outer s H vs Q E hr h => ?_)
  · obtain ⟨x, _, _, _, rfl, _⟩ := h
    rfl
  obtain ⟨d, sa, l, xs, rfl, hd, hl, hne, hx, q⟩ := h
  refine ⟨_, pss_one (ps_ret (pe_ix ix_list (pv 1) (pe_call G1 hr rfl m1 k1 b1 .nil pass0 (pa_cons (pv 0) (pa_cons (pe_callB call_len_seq rfl ml PySem.boot_len (pa_cons (pv 1) pa_nil)) pa_nil))) (fun _ _ => rfl))), ?_⟩
  have h0 : 0 < xs.length := List.length_pos_iff.mpr hx
  refine ⟨_, rfl, _, rfl, _, rfl, l, _, rfl, .inl hl, d, sa, _, rfl, hd, by omega, fun r H' r0 r1 a1 d1 => ?_⟩
  obtain ⟨v, e1, e2⟩ := at_list r0 r1
  exact ⟨l, xs, r, v, rfl, rfl, Aft.seq hne a1 hl, e2, q _ v H' e1 a1 d1⟩
end
end P5

end
section
set_option Elab.async false
set_option linter.all false
set_option maxRecDepth 100000
set_option maxHeartbeats 4000000
namespace P5
open PySem PySem.Spec PyProof.Rows L2
/-- a list or a tuple -/
def SqE (K : PySem.W.Frag) (H : Hp) (a : Addr) (xs : List V) : Prop := SqL K H a xs ∨ SqT K H a xs
theorem SqE.same {K : PySem.W.Frag} {H H' : Hp} {a : Addr} {xs : List V} (s : Same H H') (h : SqE K H a xs) : SqE K H' a xs := h.imp (fun q => s.seq q) fun q => Same.tup s q
theorem sqT_ty {K : PySem.W.Frag} {H : Hp} {a : Addr} {xs : List V} (h : SqT K H a xs) : TyX K H (.ref a) (.type "tuple") := by
  rcases h with (h | ⟨o, h⟩) | ⟨o, its, n, h, hc, _⟩
  · exact .base (.tup h)
  · exact .fTuple h
  · exact .kTuple h hc
theorem sqL_ty {K : PySem.W.Frag} {H : Hp} {a : Addr} {xs : List V} (h : SqL K H a xs) : TyX K H (.ref a) (.type "list") := by
  rcases h with (h | ⟨o, h⟩) | ⟨o, its, n, h, hc, _⟩
  · exact .base (.lst h)
  · exact .base (.frz h)
  · exact .kList h hc
abbrev SGN : List Str := ["=", ";", "(", ")", "{", "}", ",", ":", "."]
abbrev TWO : List Str := ["give", "let"]
def markB (x : Str) : Bool := wordB x || decide (x ∈ SGN) || decide (x ∈ TWO)
/-- the words and signs: short, and of signs that can be laid -/
inductive MkT where
  | it
def MRK : MkT := .it
instance : Membership Str MkT := ⟨fun _ x => markB x = true ∧ x.length ≤ 20 ∧ PyData.strOk x = true⟩
theorem mrk_of {x : Str} (h : (markB x && decide (x.length ≤ 20) && PyData.strOk x) = true) : x ∈ MRK := by
  simp only [Bool.and_eq_true, decide_eq_true_eq] at h
  exact ⟨h.1.1, h.1.2, h.2⟩
theorem mrk_len : ∀ x ∈ MRK, x.length ≤ 20 := fun _ h => h.2.1
theorem mrk_sgn : ∀ x ∈ MRK, wordB x = false → x ∈ SGN ∨ x ∈ TWO := fun x h e => by
  have z : markB x = true := h.1
  unfold markB at z
  rw [e, Bool.false_or, Bool.or_eq_true, decide_eq_true_eq, decide_eq_true_eq] at z
  exact z
theorem mrk_ok : ∀ x ∈ MRK, PyData.strOk x = true := fun _ h => h.2.2
/-- the constants of the text -/
structure KC (K : PySem.W.Frag) (mg : Str → Option Value) (aN aS : Addr) : Prop where
  gN : mg "NO_WORDS" = some (.ref aN)
  tN : ∀ H, SqT K H aN [.str "any", .str "give", .str "let"]
  gS : mg "SIGNS" = some (.ref aS)
  tS : ∀ H, SqT K H aS (SGN.map V.str)
  gL : ∃ t, mg "LONGEST" = some (.int 10 t)
  gM : ∃ t, mg "MOST_WORDS" = some (.int 200 t)
  len : mg "len" = none
  all : mg "all" = none
  isi : mg "isinstance" = none
  str : mg "str" = none
  lst : mg "list" = none
  tup : mg "tuple" = none
  int : mg "int" = none
  bool : mg "bool" = none
theorem iteFF {p q : Prop} {b : Bool} (e : b = false) (h : q) : if b = true then p else q := by rw [e]; exact h
theorem iteTT {p q : Prop} {b : Bool} (e : b = true) (h : p) : if b = true then p else q := by rw [e]; exact h
def tNev : TE := fun _ _ _ => False
theorem pe_never {X : Cx} {e : Expr} : PE X e tNev := ⟨fun _ _ _ _ _ _ h => False.elim h⟩
theorem pt_never {X : Cx} {e : Expr} : PT X e (fun _ _ _ => False) := ⟨fun _ _ _ _ _ _ h => False.elim h⟩
theorem hu65 {A : Around} {k : Nat} (hr : Room k A) : A.units + 65 < cLine := by have := hr.un; omega
section
variable {P : Program} {w : World} {K : PySem.W.Frag} {mg : Str → Option Value} {base : Heap} {aN aS : Addr}
theorem pe_strT {X : Cx} {p : Pos} (hm : X.mg "str" = none) (hg : Gl X "str" := by rfl) : PE X (.Name "str" p) (tC (.ty "str")) := pe_bltn hg hm (by decide +kernel) rfl
theorem pe_tupT {X : Cx} {p : Pos} (hm : X.mg "tuple" = none) (hg : Gl X "tuple" := by rfl) : PE X (.Name "tuple" p) (tC (.ty "tuple")) := pe_bltn hg hm (by decide +kernel) rfl
theorem pe_lstT {X : Cx} {p : Pos} (hm : X.mg "list" = none) (hg : Gl X "list" := by rfl) : PE X (.Name "list" p) (tC (.ty "list")) := pe_bltn hg hm (by decide +kernel) rfl
theorem pe_intT {X : Cx} {p : Pos} (hm : X.mg "int" = none) (hg : Gl X "int" := by rfl) : PE X (.Name "int" p) (tC (.ty "int")) := pe_bltn hg hm (by decide +kernel) rfl
theorem pe_boolT {X : Cx} {p : Pos} (hm : X.mg "bool" = none) (hg : Gl X "bool" := by rfl) : PE X (.Name "bool" p) (tC (.ty "bool")) := pe_bltn hg hm (by decide +kernel) rfl
abbrev sWord : Stmt := tp 9
theorem scWord : FnScope ["thing", "letter"] ["thing"] (defScope sWord) := ⟨rfl, rfl, rfl, by decide +kernel, rfl, by decide +kernel, by decide +kernel⟩
def spWord : Sp := fun vs H Q _ => ∃ x : Str, vs = [.str x] ∧ x.length ≤ 20 ∧ ∀ H', Same H H' → Q (.bl (wordB x)) H'
theorem ok_word {f f1 : Addr} {fd fd1 : FuncData} (F : Fun K "is_word" "is_word" sWord f fd) (T : KC K mg aN aS)
    (G1 : FnOk P w K mg base CX0 1 f1 fd1 ["letter"] spSmall) (b1 : Binds K fd1 ["letter"] []) (k1 : PySem.W.keepIn K (.ref f1) = true) (m1 : mg "is_small" = some (.ref f1)) : FnOk P w K mg base CX0 2 f fd ["thing"] spWord := by
  refine F.ok scWord (fun vs H Q E h => ?_) (fun cdv A outer s H vs Q E hr h => ?_)
  · obtain ⟨x, rfl, _⟩ := h
    rfl
  obtain ⟨x, rfl, hl, q⟩ := h
  obtain ⟨tk, gL⟩ := T.gL
  refine ⟨_, pss_cons (ps_if (PW.pt (pw_or (pt_not (pt_val (pe_callB call_isi rfl T.isi (by decide +kernel) (pa_cons (pv 0) (pa_cons (pe_strT T.str) pa_nil)))))
      (pw_or1 (pt_not (pt_chain op_le op_le pe_int (pe_callB call_len_str rfl T.len PySem.boot_len (pa_cons (pv 0) pa_nil)) (pe_glob (v := .int 10) rfl gL ⟨_, rfl⟩)))))) (pss_one (ps_ret pe_bl)) pss_nil)
    (pss_one (ps_ret (pe_and (pe_cmpR op_notIn_seq (pv 0) (pgl T.gN) (by rfl)) (pe_one (pe_callB (cr_all rfl) rfl T.all (by decide +kernel) (pa_cons (pe_lc (own := [("letter", 1)]) (g := gName 1) rfl scWord.nd (pi_str (pv 0))
      (blkOk_by (N := ["thing", "letter"]) (sc := defScope sWord) (by decide +kernel)) (fun _ _ _ _ _ => pg_name (i := 1) scWord.nd rfl (Or.inl rfl))
      (fun _ _ _ _ _ => pts_nil) (fun _ _ _ _ _ => pe_call G1 hr rfl m1 k1 b1 .nil pass0 (pa_cons (pv 1) pa_nil))) pa_nil)))))), ?_⟩
  refine ⟨_, rfl, .str x, .ty "str", .type "str", .type "str", true, rfl, .ty _, .base (.str x), kit_ty (by decide +kernel), _, rfl, ?_⟩
  refine iteF ?_
  refine ⟨_, rfl, _, rfl, small_le (by omega), _, _, rfl, rfl, _, rfl, ite2 (fun c => ?_) (fun c => ?_)⟩
  · refine ⟨_, _, rfl, rfl, _, rfl, ?_⟩
    have c1 : 1 ≤ (x.length : Int) := of_decide_eq_true c
    cases c2 : decide ((x.length : Int) ≤ 10) with
    | false =>
      have c2' : ¬ x.length ≤ 10 := by
        have := of_decide_eq_false c2
        omega
      refine iteT ?_
      have e : wordB x = false := by
        unfold wordB
        rw [decide_eq_false c2', Bool.and_false, Bool.false_and, Bool.false_and]
      rw [← e]
      exact q H (Same.refl H)
    | true =>
      have c2' : x.length ≤ 10 := by
        have := of_decide_eq_true c2
        omega
      have c1' : 1 ≤ x.length := by omega
      refine iteF ?_
      have e : wordB x = (!noWord x && ((signs x).map smallS).all id) := by
        unfold wordB
        rw [decide_eq_true c1', decide_eq_true c2', Bool.true_and, Bool.true_and]
      refine ⟨_, rfl, _, _, rfl, .inr (T.tN _), rfl, rfl, !noWord x, rfl, ite2 (fun z => ?_) (fun z => ?_)⟩
      · refine ⟨_, rfl, x, rfl, fun D hN => lcS (((signs x).map smallS).map V.bl) (by simp [signs, Str.length]) (by omega) hN (fun i y cc H' Q' hc hy s k => ?_) fun H' s hL => ?_⟩
        · rw [List.getElem?_map, List.getElem?_map] at hy
          unfold signs at hy
          rw [List.getElem?_map, hc] at hy
          cases hy
          exact ⟨rfl, _, rfl, _, rfl, k H' (Same.refl H')⟩
        · refine ⟨D, _, rfl, SqL.of hL, ?_⟩
          have zz := q H' s
          rw [e, z, Bool.true_and] at zz
          exact zz
      · have zz := q H (Same.refl H)
        rw [e, Bool.eq_false_iff.mpr z, Bool.false_and] at zz
        exact zz
  · refine ⟨_, rfl, iteT ?_⟩
    have c1 : ¬ (1 : Int) ≤ (x.length : Int) := of_decide_eq_false (Bool.eq_false_iff.mpr c)
    have c1' : ¬ 1 ≤ x.length := by omega
    have e : wordB x = false := by
      unfold wordB
      rw [decide_eq_false c1', Bool.false_and, Bool.false_and, Bool.false_and]
    rw [← e]
    exact q H (Same.refl H)
/-! ### is_whole, is_mark, checked_words -/
abbrev sWhole : Stmt := tp 10
theorem scWhole : FnScope ["thing"] ["thing"] (defScope sWhole) := ⟨rfl, rfl, rfl, by decide +kernel, rfl, by decide +kernel, by decide +kernel⟩
def spWhole : Sp := fun vs H Q _ => ∃ i : Int, vs = [.int i] ∧ Q (.bl true) H
theorem ok_whole {f : Addr} {fd : FuncData} (F : Fun K "is_whole" "is_whole" sWhole f fd) (T : KC K mg aN aS) : FnOk P w K mg base CX0 1 f fd ["thing"] spWhole := by
  refine F.ok scWhole (fun vs H Q E h => ?_) (fun cdv A outer s H vs Q E hr h => ?_)
  · obtain ⟨x, rfl, _⟩ := h
    rfl
  obtain ⟨i, rfl, q⟩ := h
  refine ⟨_, pss_one (ps_ret (pe_and (pe_callB call_isi rfl T.isi (by decide +kernel) (pa_cons (pv 0) (pa_cons (pe_intT T.int) pa_nil)))
    (pe_one (pe_not (pe_callB call_isi rfl T.isi (by decide +kernel) (pa_cons (pv 0) (pa_cons (pe_boolT T.bool) pa_nil))))))), ?_⟩
  refine ⟨_, rfl, .int i, .ty "int", .type "int", .type "int", true, rfl, .ty _, .base (.int i), kit_ty (by decide +kernel), _, rfl, iteT ?_⟩
  exact ⟨_, rfl, .int i, .ty "bool", .type "int", .type "bool", false, rfl, .ty _, .base (.int i), kit_ty (by decide +kernel), _, rfl, q⟩
abbrev sMark : Stmt := tp 14
theorem scMark : FnScope ["thing"] ["thing"] (defScope sMark) := ⟨rfl, rfl, rfl, by decide +kernel, rfl, by decide +kernel, by decide +kernel⟩
def spMark : Sp := fun vs H Q _ => ∃ x ∈ MRK, vs = [.str x] ∧ ∀ H', Same H H' → Q (.bl true) H'
theorem inV_strs (v : Str) (ys : List Str) : inV (.str v) (ys.map V.str) = decide (v ∈ ys) := by
  unfold inV
  rw [List.any_map]
  by_cases h : v ∈ ys
  · rw [decide_eq_true h, List.any_eq_true]
    exact ⟨v, h, by show (v == v) = true; rw [beq_self_eq_true]⟩
  · rw [decide_eq_false h, List.any_eq_false]
    intro x hx z
    have z' : (x == v) = true := z
    exact h (beq_iff_eq.mp z' ▸ hx)
theorem ok_mark {f f1 : Addr} {fd fd1 : FuncData} (F : Fun K "is_mark" "is_mark" sMark f fd) (T : KC K mg aN aS)
    (G1 : FnOk P w K mg base CX0 2 f1 fd1 ["thing"] spWord) (b1 : Binds K fd1 ["thing"] []) (k1 : PySem.W.keepIn K (.ref f1) = true) (m1 : mg "is_word" = some (.ref f1)) : FnOk P w K mg base CX0 3 f fd ["thing"] spMark := by
  refine F.ok scMark (fun vs H Q E h => ?_) (fun cdv A outer s H vs Q E hr h => ?_)
  · obtain ⟨x, _, rfl, _⟩ := h
    rfl
  obtain ⟨x, hx, rfl, q⟩ := h
  refine ⟨_, pss_one (ps_ret (pe_or (pe_call G1 hr rfl m1 k1 b1 .nil pass0 (pa_cons (pv 0) pa_nil)) (pe_or (pe_cmpR op_in_seq (pv 0) (pgl T.gS) (by rfl))
    (pe_one (pe_cmpR op_in_seq (pv 0) (pe_tup (pa_cons pe_str (pa_cons pe_str pa_nil))) (by rfl)))))), ?_⟩
  refine ⟨_, rfl, x, rfl, mrk_len x hx, fun H' s' => ⟨_, rfl, ?_⟩⟩
  cases e : wordB x with
  | true => exact iteT (q H' s')
  | false =>
    refine iteF ⟨_, rfl, aS, _, rfl, .inr (T.tS _), rfl, rfl, ?_⟩
    rw [if_neg Bool.false_ne_true]
    refine ⟨_, rfl, ?_⟩
    show ite (inV (.str x) (SGN.map V.str) = true) _ _
    rw [inV_strs]
    rcases mrk_sgn x hx e with h | h
    · rw [decide_eq_true h]
      exact iteT (q H' s')
    · by_cases h2 : x ∈ SGN
      · rw [decide_eq_true h2]
        exact iteT (q H' s')
      · rw [decide_eq_false h2]
        refine iteF ⟨_, rfl, (by show 2 ≤ sizeLine; decide), fun p hp => ?_⟩
        have s1 := Same.new hp (.tup (TWO.map V.str))
        refine ⟨p, TWO.map V.str, rfl, .inr (SqT.of upd_same), rfl, rfl, ?_⟩
        rw [if_neg Bool.false_ne_true, inV_strs, decide_eq_true h]
        exact q _ (s'.trans s1)
abbrev sChk : Stmt := tp 15
theorem scChk : FnScope ["words", "word"] ["words"] (defScope sChk) := ⟨rfl, rfl, rfl, by decide +kernel, rfl, by decide +kernel, by decide +kernel⟩
def spChk (K : PySem.W.Frag) : Sp := fun vs H Q _ => ∃ (a : Addr) (ws : List Str), vs = [.ref a] ∧ SqL K H a (ws.map V.str) ∧ (∀ x ∈ ws, x ∈ MRK) ∧ ws.length ≤ 200 ∧ ∀ H' p, Same H H' → H p = none → H' p = some (.lst (ws.map V.str)) → Q (.ref p) H'
theorem ok_chk {f f1 : Addr} {fd fd1 : FuncData} (F : Fun K "checked_words" "checked_words" sChk f fd) (T : KC K mg aN aS)
    (G1 : FnOk P w K mg base CX0 3 f1 fd1 ["thing"] spMark) (b1 : Binds K fd1 ["thing"] []) (k1 : PySem.W.keepIn K (.ref f1) = true) (m1 : mg "is_mark" = some (.ref f1)) : FnOk P w K mg base CX0 4 f fd ["words"] (spChk K) := by
  refine F.ok scChk (fun vs H Q E h => ?_) (fun cdv A outer s H vs Q E hr h => ?_)
  · obtain ⟨x, _, rfl, _⟩ := h
    rfl
  obtain ⟨a, ws, rfl, hS, hw, hl, q⟩ := h
  obtain ⟨tk, gM⟩ := T.gM
  refine ⟨_, pss_cons (ps_if (PW.pt (pw_or (pt_not (pt_val (pe_callB call_isiT rfl T.isi (by decide +kernel) (pa_cons (pv 0) (pa_cons (pe_tup (pa_cons (pe_lstT T.lst) (pa_cons (pe_tupT T.tup) pa_nil))) pa_nil)))))
      (pw_or1 (pt_cmpR op_gt (pe_callB call_len_seq rfl T.len PySem.boot_len (pa_cons (pv 0) pa_nil)) (pe_glob (v := .int 200) rfl gM ⟨_, rfl⟩) (nomark _))))) (pss_one ps_never) pss_nil)
    (pss_cons (ps_if (pt_not (pt_val (pe_callB (cr_all rfl) rfl T.all (by decide +kernel) (pa_cons (pe_lc (own := [("word", 1)]) (g := gName 1) rfl scChk.nd (pi_list (pv 0))
      (blkOk_by (N := ["words", "word"]) (sc := defScope sChk) (by decide +kernel)) (fun _ _ _ _ _ => pg_name (i := 1) scChk.nd rfl (Or.inl rfl))
      (fun _ _ _ _ _ => pts_nil) (fun _ _ _ _ _ => pe_call G1 hr rfl m1 k1 b1 .nil pass0 (pa_cons (pv 1) pa_nil))) pa_nil)))) (pss_one ps_never) pss_nil)
    (pss_one (ps_ret (pe_callTy call_list_of rfl T.lst (by decide +kernel) (pa_cons (pv 0) pa_nil))))), ?_⟩
  refine ⟨_, rfl, (by show 2 ≤ sizeLine; decide), fun p hp => ?_⟩
  have s1 := Same.new hp (.tup [.ty "list", .ty "tuple"])
  have hS1 := s1.seq hS
  refine ⟨.ref a, p, [.ty "list", .ty "tuple"], .type "list", [.type "list", .type "tuple"], true, rfl, upd_same, .cons (.ty _) (.cons (.ty _) .nil), sqL_ty hS1,
      kitAny_cons (b := true) (kit_ty (by decide +kernel)) (fun z => nomatch z) (fun _ => rfl), _, rfl, iteF ?_⟩
  refine ⟨_, rfl, a, _, rfl, .inl hS1, _, _, rfl, rfl, _, rfl, iteFF (decide_eq_false (by rw [List.length_map]; omega)) ?_⟩
  refine ⟨_, rfl, a, rfl, ⟨_, hS1⟩, fun D hN => lcL ((List.replicate ws.length true).map V.bl) (by rw [List.length_map, List.length_replicate, List.length_map]) (by rw [List.length_map]; omega) hS1 hN (fun i y x H' Q' hx hy s k => ?_) fun H' s hL => ?_⟩
  · have ey : y = .bl true := by
      obtain ⟨b, hb, e⟩ := List.mem_map.mp (List.mem_of_getElem? hy)
      rw [← e, List.eq_of_mem_replicate hb]
    rw [List.getElem?_map] at hx
    cases e : ws[i]? with
    | none => rw [e] at hx; cases hx
    | some z =>
      rw [e] at hx
      cases hx
      subst ey
      exact ⟨rfl, _, rfl, z, hw z (List.mem_of_getElem? e), rfl, fun H' s' => k H' s'⟩
  · refine ⟨D, _, rfl, SqL.of hL, _, rfl, ?_⟩
    have e : (List.replicate ws.length true).all id = true := by
      rw [List.all_eq_true]
      intro b hb
      exact List.eq_of_mem_replicate hb
    rw [e]
    refine iteF ⟨_, rfl, a, _, rfl, .inl (s.seq hS1), fun l hl2 => ?_⟩
    have hHl : H l = none := by
      cases e2 : H l with
      | none => rfl
      | some o => rw [(s1.trans s) _ _ e2] at hl2; cases hl2
    exact q _ l ((s1.trans s).trans (Same.new hl2 _)) hHl upd_same
end
end P5

end
section
set_option Elab.async false
set_option linter.all false
set_option maxRecDepth 100000
set_option maxHeartbeats 4000000
namespace P5
open PySem PySem.Spec PyProof.Rows L2
theorem pi_alt {X : Cx} {tg iter : Expr} {w1 w2 : TI} (h1 : PI X tg iter w1) (h2 : PI X tg iter w2) : PI X tg iter (fun σ H R => w1 σ H R ∨ w2 σ H R) :=
  ⟨fun pins s σ H R I h => h.elim (fun q => h1.run pins s σ H R I q) fun q => h2.run pins s σ H R I q⟩
theorem pe_alt {X : Cx} {e : Expr} {t1 t2 : TE} (h1 : PE X e t1) (h2 : PE X e t2) : PE X e (fun σ H Q => t1 σ H Q ∨ t2 σ H Q) :=
  ⟨fun pins s σ H Q I h => h.elim (fun q => h1.run pins s σ H Q I q) fun q => h2.run pins s σ H Q I q⟩
/-! ### edits as plain mathematics -/
structure Ed where
  a : Nat
  b : Nat
  ws : List Str
/-- what an edit may be: its places in order, its words marks, few enough -/
structure Ed.Ok (e : Ed) : Prop where
  le : e.a ≤ e.b
  mrk : ∀ x ∈ e.ws, x ∈ MRK
  sm : e.ws.length ≤ 200
  pl : e.b ≤ 400
/-! ### edits in the heap -/
def EdFs (e : Ed) (t : Addr) : List (Str × V) := [("first", .int e.a), ("last", .int e.b), ("words", .ref t)]
def EdH (K : PySem.W.Frag) (CE : Addr) (H : Hp) (p : Addr) (e : Ed) : Prop := ∃ dx t, H p = some (.ins CE dx (EdFs e t)) ∧ SqT K H t (e.ws.map V.str) ∧ e.Ok
theorem EdH.same {K : PySem.W.Frag} {CE p : Addr} {H H' : Hp} {e : Ed} (s : Same H H') (h : EdH K CE H p e) : EdH K CE H' p e := by
  obtain ⟨dx, t, h1, h2, h3⟩ := h
  exact ⟨dx, t, s _ _ h1, Same.tup s h2, h3⟩
/-- the class of edits -/
structure EC (K : PySem.W.Frag) (C : Addr) : Prop where
  cl : Cls K C
  nF : NoAttr K C "first"
  nL : NoAttr K C "last"
  nW : NoAttr K C "words"
/-- all but p stays -/
abbrev But (p : Addr) (H H' : Hp) : Prop := Aft H H' p
theorem But.upd {p : Addr} {H H' : Hp} {o : HO} (h : But p H H') : But p H (upd H' p o) := fun x u n q => by
  rw [upd_ne n]
  exact h x u n q
theorem But.of {p : Addr} {H H' : Hp} (s : Same H H') : But p H H' := fun x u _ q => s x u q
theorem But.tr {p : Addr} {H H' H2 : Hp} (h : But p H H') (s : Same H' H2) : But p H H2 := fun x u n q => s _ _ (h x u n q)
theorem but_tup {p : Addr} {H H' : Hp} {K : PySem.W.Frag} {a dx C0 : Addr} {fs : List (Str × V)} {xs : List V} (hp : H p = some (.ins C0 dx fs)) (h : But p H H') (hS : SqT K H a xs) : SqT K H' a xs := by
  rcases hS with (q | ⟨o, q⟩) | q
  · exact .inl (.inl (h _ _ (ne_of q hp fun z => by cases z) q))
  · exact .inl (.inr ⟨o, h _ _ (ne_of q hp fun z => by cases z) q⟩)
  · exact .inr q
theorem but_seq {p : Addr} {H H' : Hp} {K : PySem.W.Frag} {a dx C0 : Addr} {fs : List (Str × V)} {xs : List V} (hp : H p = some (.ins C0 dx fs)) (h : But p H H') (hS : SqL K H a xs) : SqL K H' a xs := by
  rcases hS with (q | ⟨o, q⟩) | q
  · exact .inl (.inl (h _ _ (ne_of q hp fun z => by cases z) q))
  · exact .inl (.inr ⟨o, h _ _ (ne_of q hp fun z => by cases z) q⟩)
  · exact .inr q
section
variable {P : Program} {w : World} {K : PySem.W.Frag} {mg : Str → Option Value} {base : Heap} {aN aS CE : Addr}
abbrev sInit : Stmt := inClass (tp 17) 0
abbrev NI : List Str := ["self", "first", "last", "words"]
abbrev NIw : List Str := ["self", "first", "last", "words", "word"]
theorem scInit : FnScope NIw NI (defScope sInit) := ⟨rfl, rfl, rfl, by decide +kernel, rfl, by decide +kernel, by decide +kernel⟩
def spInit (K : PySem.W.Frag) (CE : Addr) : Sp := fun vs H Q _ => ∃ (p dx l : Addr) (e : Ed), vs = [.ref p, .int e.a, .int e.b, .ref l] ∧ H p = some (.ins CE dx []) ∧ SqE K H l (e.ws.map V.str) ∧ e.Ok ∧
  ∀ H', But p H H' → EdH K CE H' p e → Q .non H'
/-- the comprehension's turns, over a list or a tuple of marks -/
theorem ok_init {f f1 f2 : Addr} {fd fd1 fd2 : FuncData} (F : Fun K "__init__" "Edit.__init__" sInit f fd) (T : KC K mg aN aS) (EE : EC K CE)
    (G1 : FnOk P w K mg base CX0 1 f1 fd1 ["thing"] spWhole) (b1 : Binds K fd1 ["thing"] []) (k1 : PySem.W.keepIn K (.ref f1) = true) (m1 : mg "is_whole" = some (.ref f1))
    (G2 : FnOk P w K mg base CX0 3 f2 fd2 ["thing"] spMark) (b2 : Binds K fd2 ["thing"] []) (k2 : PySem.W.keepIn K (.ref f2) = true) (m2 : mg "is_mark" = some (.ref f2)) : FnOk P w K mg base CX0 4 f fd NI (spInit K CE) := by
  refine F.ok scInit (fun vs H Q E h => ?_) (fun cdv A outer s H vs Q E hr h => ?_)
  · obtain ⟨_, _, _, _, rfl, _⟩ := h
    rfl
  obtain ⟨p, dx, l, e, rfl, hp, hS, he, q⟩ := h
  have hr1 : Room 1 _ := hr.mono (by decide)
  refine ⟨_, pss_cons (ps_if (PW.pt (pw_or (pt_not (pt_val (pe_call G1 hr1 rfl m1 k1 b1 .nil pass0 (pa_cons (pv 1) pa_nil)))) (pw_or (pt_not (pt_val (pe_call G1 hr1 rfl m1 k1 b1 .nil pass0 (pa_cons (pv 2) pa_nil))))
      (pw_or1 (pt_not (pt_chain op_le op_le pe_int (pv 1) (pv 2))))))) (pss_one ps_never) pss_nil)
    (pss_cons (ps_if (PW.pt (pw_or (pt_not (pt_val (pe_callB call_isiT rfl T.isi (by decide +kernel) (pa_cons (pv 3) (pa_cons (pe_tup (pa_cons (pe_lstT T.lst) (pa_cons (pe_tupT T.tup) pa_nil))) pa_nil)))))
      (pw_or1 (pt_not (pt_val (pe_callB (cr_all rfl) rfl T.all (by decide +kernel) (pa_cons (pe_lc (own := [("word", 4)]) (g := gName 4) rfl scInit.nd (pi_alt (pi_list (pv 3)) (pi_tup (pv 3)))
      (blkOk_by (N := NIw) (sc := defScope sInit) (by decide +kernel)) (fun _ _ _ _ _ => pg_name (i := 4) scInit.nd rfl (Or.inl rfl))
      (fun _ _ _ _ _ => pts_nil) (fun _ _ _ _ _ => pe_call G2 hr rfl m2 k2 b2 .nil pass0 (pa_cons (pv 4) pa_nil))) pa_nil))))))) (pss_one ps_never) pss_nil)
    (pss_cons (ps_fld (pv 0) (pv 1) rfl) (pss_cons (ps_fld (pv 0) (pv 2) rfl)
    (pss_one (ps_fld (pv 0) (pe_callTy call_tuple_of rfl T.tup (by decide +kernel) (pa_cons (pv 3) pa_nil)) rfl))))), ?_⟩
  refine ⟨_, rfl, _, rfl, _, rfl, iteF ⟨_, rfl, _, rfl, _, rfl, iteF ⟨_, rfl, _, _, rfl, rfl, _, rfl, iteTT (decide_eq_true (by omega)) ⟨_, rfl, _, _, rfl, rfl, _, rfl, ?_⟩⟩⟩⟩
  refine iteFF (by rw [decide_eq_true (by have := he.le; omega)]; rfl) ⟨_, rfl, (by show 2 ≤ sizeLine; decide), fun t ht => ?_⟩
  have s1 := Same.new ht (.tup [.ty "list", .ty "tuple"])
  have hS1 := hS.same s1
  have hp1 := s1 _ _ hp
  have hty : ∃ tn : String, TyX K (upd H t (.tup [.ty "list", .ty "tuple"])) (.ref l) (.type tn) ∧ PySem.W.kitAny K (.type tn) [.type "list", .type "tuple"] = some true := by
    rcases hS1 with hS1 | hS1
    · exact ⟨"list", sqL_ty hS1, kitAny_cons (b := true) (kit_ty (by decide +kernel)) (fun z => nomatch z) (fun _ => rfl)⟩
    · exact ⟨"tuple", sqT_ty hS1, kitAny_cons (b := false) (kit_ty (by decide +kernel)) (fun _ => kitAny_cons (b := true) (kit_ty (by decide +kernel)) (fun z => nomatch z) (fun _ => rfl)) (fun z => nomatch z)⟩
  obtain ⟨tn, hty1, hty2⟩ := hty
  refine ⟨.ref l, t, [.ty "list", .ty "tuple"], .type tn, [.type "list", .type "tuple"], true, rfl, upd_same, .cons (.ty _) (.cons (.ty _) .nil), hty1, hty2, _, rfl, iteF ?_⟩
  have turn : ∀ (i : Nat) (y x : V) (H' : Hp) (Q' : VK), (e.ws.map V.str)[i]? = some x → ((List.replicate e.ws.length true).map V.bl)[i]? = some y → (∀ H4, Same H' H4 → Q' y H4) → ∃ z ∈ MRK, [x] = [V.str z] ∧ ∀ H4, Same H' H4 → Q' (.bl true) H4 := fun i y x H' Q' hx hy k => by
    have ey : y = .bl true := by
      obtain ⟨b, hb, e⟩ := List.mem_map.mp (List.mem_of_getElem? hy)
      rw [← e, List.eq_of_mem_replicate hb]
    rw [List.getElem?_map] at hx
    cases e2 : e.ws[i]? with
    | none => rw [e2] at hx; cases hx
    | some z =>
      rw [e2] at hx
      cases hx
      subst ey
      exact ⟨z, he.mrk z (List.mem_of_getElem? e2), rfl, fun H' s' => k H' s'⟩
  have trues : (List.replicate e.ws.length true).all id = true := by
    rw [List.all_eq_true]
    intro b hb
    exact List.eq_of_mem_replicate hb
  rcases hS1 with hS1 | hS1
  · refine .inl ⟨_, rfl, l, rfl, ⟨_, hS1⟩, fun D hN => lcL ((List.replicate e.ws.length true).map V.bl) (by rw [List.length_map, List.length_replicate, List.length_map]) (by rw [List.length_map]; have := he.sm; omega) hS1 hN (fun i y x H' Q' hx hy s k => ?_) fun H' s hL => ?_⟩
    · obtain ⟨z, hz, ez, kz⟩ := turn i y x H' Q' hx hy k
      cases ez
      exact ⟨rfl, _, rfl, z, hz, rfl, kz⟩
    refine ⟨D, _, rfl, SqL.of hL, _, rfl, ?_⟩
    rw [trues]
    refine iteF ?_
    have hpA := s _ _ hp1
    have hlA := s.seq hS1
    have b1 : But p H (upd H' p (.ins CE dx [("first", .int e.a)])) := (But.of (s1.trans s)).upd
    refine ⟨_, rfl, _, rfl, p, CE, dx, [], rfl, hpA, EE.cl, EE.nF, (by show 0 < 1000; decide), ?_⟩
    refine ⟨_, rfl, _, rfl, p, CE, dx, _, rfl, upd_same, EE.cl, EE.nL, (by show 1 < 1000; decide), ?_⟩
    have b2 : But p H' (upd (upd H' p (.ins CE dx [("first", .int e.a)])) p (.ins CE dx [("first", .int e.a), ("last", .int e.b)])) := (But.of (Same.refl H')).upd.upd
    have hl5 := but_seq hpA b2 hlA
    refine ⟨_, rfl, l, _, rfl, .inl ⟨hl5, fun tt htt => ?_⟩⟩
    have s7 := Same.new htt (.tup (e.ws.map V.str))
    have hp7 := s7 _ _ (upd_same (H := upd H' p (.ins CE dx [("first", .int e.a)])) (a := p) (o := .ins CE dx [("first", .int e.a), ("last", .int e.b)]))
    refine ⟨_, rfl, p, CE, dx, _, rfl, hp7, EE.cl, EE.nW, (by show 2 < 1000; decide), ?_⟩
    refine q _ (((But.of (s1.trans s)).upd.upd.tr s7).upd) ⟨dx, tt, upd_same, SqT.of ?_, he⟩
    have hpt : p ≠ tt := ne_of_none (upd_same (H := upd H' p (.ins CE dx [("first", .int e.a)])) (a := p) (o := .ins CE dx [("first", .int e.a), ("last", .int e.b)])) htt
    rw [upd_ne (Ne.symm hpt), upd_same]
  · refine .inr ⟨_, rfl, l, rfl, ⟨_, hS1⟩, fun D hN => lcT ((List.replicate e.ws.length true).map V.bl) (by rw [List.length_map, List.length_replicate, List.length_map]) (by rw [List.length_map]; have := he.sm; omega) hS1 hN (fun i y x H' Q' hx hy s k => ?_) fun H' s hL => ?_⟩
    · obtain ⟨z, hz, ez, kz⟩ := turn i y x H' Q' hx hy k
      cases ez
      exact ⟨rfl, _, rfl, z, hz, rfl, kz⟩
    refine ⟨D, _, rfl, SqL.of hL, _, rfl, ?_⟩
    rw [trues]
    refine iteF ?_
    have hpA := s _ _ hp1
    have hlA := Same.tup s hS1
    have b1 : But p H (upd H' p (.ins CE dx [("first", .int e.a)])) := (But.of (s1.trans s)).upd
    refine ⟨_, rfl, _, rfl, p, CE, dx, [], rfl, hpA, EE.cl, EE.nF, (by show 0 < 1000; decide), ?_⟩
    refine ⟨_, rfl, _, rfl, p, CE, dx, _, rfl, upd_same, EE.cl, EE.nL, (by show 1 < 1000; decide), ?_⟩
    have b2 : But p H' (upd (upd H' p (.ins CE dx [("first", .int e.a)])) p (.ins CE dx [("first", .int e.a), ("last", .int e.b)])) := (But.of (Same.refl H')).upd.upd
    have hl5 := but_tup hpA b2 hlA
    refine ⟨_, rfl, l, _, rfl, .inr ⟨hl5, ?_⟩⟩
    refine ⟨_, rfl, p, CE, dx, _, rfl, upd_same, EE.cl, EE.nW, (by show 2 < 1000; decide), ?_⟩
    refine q _ ((But.of (s1.trans s)).upd.upd.upd) ⟨dx, l, upd_same, but_tup upd_same ((But.of (Same.refl _)).upd) hl5, he⟩
end
end P5

end
section
set_option Elab.async false
set_option linter.all false
set_option maxRecDepth 100000
set_option maxHeartbeats 4000000
namespace P5
open PySem PySem.Spec PyProof.Rows L2
/-! ### bool(x) by what x's truth is -/
theorem bool_new_in {prog : Program} {w : World} (x : Value) : MeetsIn prog w (Builtin.«bool.__new__» ⟨[.type "bool", x], []⟩)
    (fun A R s => wpAny (model prog w) A.in1 (truthy x) (fun b s1 => R (.ok (.ret (.bool b))) s1) (fun e s1 => R (.error e) s1) s) :=
  .of_wp fun A R s h => by
    obtain ⟨hp, g, d, tk, os⟩ := s
    have f1 := F.conv_sub_bool
    unfold Builtin.«bool.__new__»
    repeat (any_goals (first | assumption | (with_reducible refine wpAny_mono h (fun b s1 hb => ?_) fun _ _ z => z) | wp_step))
    all_goals exact ⟨_, rfl, hb⟩
theorem call_bool_in {prog : Program} {w : World} {A : Around} {E : Value → Shared → Prop} {s : Shared} {x : Value} {Q : Value → Shared → Prop} (h : wpAny (model prog w) A.in1.in1 (truthy x) (fun b s1 => Q (.bool b) s1) E s) :
    wpAny (model prog w) A (call (.type "bool") [x]) Q E s := by
  refine callType_newIn F.called_bool F.newNe_bool (F.typeCall_bool_1 x) (F.newCall_bool_1 x) (fun obj => F.args_object_init_2 obj x) F.entry_bool_new (bool_new_in x) ?_
  show wpAny (model prog w) A.in1.in1 (truthy x) _ _ _
  exact wpAny_mono h (fun b s1 hb => ⟨rfl, hb⟩) fun _ _ z => z
/-! ### != of two objects: the default of __ne__ asks the own __eq__ -/
theorem one_bind (self : Value) : bindSpecial (.builtin "object.__ne__") self = pure (.builtin "object.__ne__", [self]) :=
  (Slot.of (T := "object") (name := "__ne__") (owner := "object") (n := "__ne__") (by rw [typeLookup_type, builtinLookup_eq_fast]; kernel_rfl) (by decide +kernel) (by decide +kernel) (by decide +kernel)
    (.inl (by decide +kernel)) (by rw [isSubtype_type]; kernel_rfl)).bind self
theorem one_plain : plainId "object.__ne__" = true := by decide +kernel
section
variable {prog : Program} {w : World} {A : Around} {E : Value → Shared → Prop} {s : Shared} {K : PySem.W.Frag} {C x f : Addr} {ox : Obj} {od : Option Obj} {y : Value}
theorem ifBound_ne {Q : Option Value → Shared → Prop} (X : K.In s.heap) (I : PySem.W.InstAt s.heap x ox C od) (hs : PySem.W.findIn K (.ref C) "__ne__" = some (some (.builtin "object.__ne__")))
    (h : wpAny (model prog w) A (call (.builtin "object.__ne__") [.ref x, y]) (fun v => Q (some v)) E s) : wpAny (model prog w) A (callSpecialIfBound? (.ref x) "__ne__" [y]) Q E s := by
  simp only [callSpecialIfBound?, bindSpecialIfBound?, one_bind]
  refine wpAny_holding (wpAny_bind (wpAny_bind (wpAny_bind (I.type.here ((PySem.W.looks_findIn X hs).here ?_)))))
  refine wpAny_bind (wpAny_askSetting (wpAny_ite ?_))
  have fin : wpAny (model prog w) A (call (.builtin "object.__ne__") ([.ref x] ++ [y]) >>= fun v => pure (some v)) Q E s := wpAny_bind (wpAny_mono h (fun v s' h' => wpAny_pure h') fun _ _ h' => h')
  simp only [one_bind]
  split
  · exact wpAny_bind (wpAny_pure (by exact wpAny_pure (by exact fin)))
  · exact wpAny_tryCatch (wpAny_bind (wpAny_pure (by exact wpAny_pure (by exact fin))))
theorem check_ne {Q : Unit → Shared → Prop} (X : K.In s.heap) (I : PySem.W.InstAt s.heap x ox C od) (hob : PySem.W.subIn K (.ref C) (.type "object") = some true) (hq : Q () s) :
    wpAny (model prog w) A (checkBuiltinCall "object.__ne__" ⟨[.ref x, y], []⟩) Q E s := by
  have ha := F.cmpArgs_ne (.ref x) y
  simp only [checkBuiltinCall, F.cmpKind_ne, F.cmpSplit_ne]
  refine wpAny_bind (wpAny_bind (I.type.here ((PySem.W.looks_subIn X hob).here ?_)))
  rw [if_neg (by simp)]
  cases hsig : Manifest.signature? "object.__ne__" with
  | none => exact wpAny_pure hq
  | some sig =>
    simp only [argsOk, hsig] at ha
    have h2 : Bind.checkArgs "object.__ne__" sig ⟨[.ref x, y], []⟩ = pure () := ha
    show wpAny (model prog w) A (Bind.checkArgs "object.__ne__" sig ⟨[.ref x, y], []⟩) Q E _
    rw [h2]
    exact wpAny_pure hq
theorem body_ne (X : K.In s.heap) (I : PySem.W.InstAt s.heap x ox C od) (hs : PySem.W.findIn K (.ref C) "__eq__" = some (some (.ref f))) (hf : PySem.W.isFn K (.ref f) = true) (hu : A.units < cLine) {Q : Fin → Shared → Prop}
    (hcall : wpAny (model prog w) A (call (.ref f) [.ref x, y]) (fun v s' => ∃ b, v = .bool b ∧ Q (.done (.ret (.bool (!b)))) s') E s) :
    wpAny (model prog w) A (Builtin.«object.__ne__» ⟨[.ref x, y], []⟩) Q E s := by
  unfold Builtin.«object.__ne__»
  refine wpAny_bind (m := slotArgs "__ne__" 1 ⟨[.ref x, y], []⟩) (wpAny_pure ?_)
  dsimp only
  refine wpAny_bind (wpAny_cRoomFor hu ?_)
  refine wpAny_bind (m := callSpecialIfBound? (.ref x) "__eq__" [y]) (PySem.W.ifBound_K X I hs hf (wpAny_mono hcall (fun v s' hv => ?_) fun _ _ e => e))
  obtain ⟨b, rfl, hq⟩ := hv
  dsimp only
  refine wpAny_bind (wpAny_truthy_bool ?_)
  exact wpAny_pure hq
end
section
variable {X : Cx} {CE f : Addr} {fd : FuncData} {k : Nat} {ps : List Str} {sp : Sp}
/-- bool(a tuple) -/
theorem call_boolT : CallR X (.type "bool") (fun xs H Q => ∃ (a : Addr) (zs : List V), xs = [.ref a] ∧ SqT X.K H a zs ∧ zs.length ≤ 1000 ∧ Q (.bl (!zs.isEmpty)) H) := by
  intro pins s σ H xs us Q I r h
  obtain ⟨a, zs, rfl, hq, hl, q⟩ := h
  obtain rfl := Vals.ref1 r
  obtain ⟨its, rv, pl, hz⟩ := I.tuple hq
  have hlen := rv.length
  have hl63 := line63
  refine call_bool_in (truthy_tuple pl (by simp only [List.size_toArray]; omega) ?_)
  refine ⟨.bl (!zs.isEmpty), H, I.tok _, ?_, q⟩
  rw [isEmpty_of rv]
  rfl
/-- a call of a def of the module, here or one or two further in -/
theorem call_own {A : Around} {pins : List (Addr × Obj)} {σ : L2.St} {H : Hp} {s : Shared} {Q : VK} {us : List Value} {vs : List V} {E : Value → Shared → Prop} (F : FnOk X.prog X.w X.K X.mg X.base CX0 k f fd ps sp) (hr : Room k A) (hb : L2.Binds X.K fd ps [])
    (I : Inv X pins σ H s) (hA : Env0 X.prog X.w X.K X.mg X.base A X.stack s H) (r : Vals vs us) (h : sp vs H Q (fun _ _ _ => False)) : wpAny (model X.prog X.w) A (call (.ref f) us) (EP X pins σ Q) E s := by
  have hl := F.len _ _ _ _ h
  refine wpAny_call (codeAny_mono (F.run A X.stack s H ⟨us, []⟩ us vs _ _ hr hA (by
    have := hb s us I.kIn (by rw [List.append_nil, ← r.length]; exact hl)
    simpa using this) r h) fun r s' hq => ?_)
  cases r with
  | error e => exact False.elim hq
  | ok fl =>
    cases fl with
    | ret z => exact I.after hq
    | next => exact False.elim hq
    | brk => exact False.elim hq
    | cont => exact False.elim hq
/-- an instance of the class at C -/
def InsI (H : Hp) (a C : Addr) : Prop := ∃ dx fs, H a = some (.ins C dx fs)
theorem insI_at {pins : List (Addr × Obj)} {σ : L2.St} {H : Hp} {s : Shared} {a C : Addr} (I : Inv X pins σ H s) (h : InsI H a C) : ∃ ox od, PySem.W.InstAt s.heap a ox C od := by
  obtain ⟨dx, fs, h⟩ := h
  obtain ⟨mA, O, _⟩ := ins_get I.hok h
  obtain ⟨od, J, _⟩ := O.look
  exact ⟨_, _, J⟩
/-- what x + an int asks of x's class -/
structure AddK (K : PySem.W.Frag) (C f : Addr) : Prop where
  first : PySem.W.selfFirst K C = true
  add : PySem.W.findIn K (.ref C) "__add__" = some (some (.ref f))
  fn : PySem.W.isFn K (.ref f) = true
  radd : PySem.W.findIn K (.ref C) "__radd__" = some none
  intA : ∃ fo, PySem.W.findIn K (.type "int") "__add__" = some fo
  intR : ∃ ro, PySem.W.findIn K (.type "int") "__radd__" = some ro
  sub : PySem.W.subIn K (.type "int") (.ref C) = some false
/-- x + k, x an instance with an own __add__, k an int -/
theorem op_addI (D : AddK X.K CE f) (F : FnOk X.prog X.w X.K X.mg X.base CX0 k f fd ps sp) (hb : L2.Binds X.K fd ps []) (hr : Room k X.A) :
    OpR X (binaryOp .Add) (fun x y H Q => ∃ (a : Addr) (i : Int), x = .ref a ∧ y = .int i ∧ InsI H a CE ∧ sp [.ref a, .int i] H (fun v H' => ∃ p, v = .ref p ∧ Q v H') (fun _ _ _ => False)) := by
  intro pins s σ H x y v u Q I rx ry h
  obtain ⟨a, i, rfl, rfl, ho, q⟩ := h
  cases (show v = Value.ref a from rx)
  obtain ⟨t, rfl⟩ : ∃ t, u = Value.int i t := ry
  obtain ⟨ox, od, J⟩ := insI_at I ho
  obtain ⟨m, hF⟩ := I.fr
  obtain ⟨fo, hfo⟩ := D.intA
  obtain ⟨ro, hro⟩ := D.intR
  refine PySem.W.ksp_binT (T := "int") (fo := fo) (ro := ro) (rc := none) hF I.ok.mod.kin J rfl D.first D.add D.fn D.radd (.inl rfl) hfo hro D.sub ?_
  refine wpAny_mono (call_own (us := [.ref a, .int i t]) (vs := [.ref a, .int i]) F hr hb I I.env0 (.cons rfl (.cons ⟨t, rfl⟩ .nil)) q) (fun z s' hz => ?_) fun _ _ e => e
  obtain ⟨v', H', I', rz, p, rfl, hQ⟩ := hz
  cases (show z = Value.ref p from rz)
  exact ⟨.ref p, H', I', rfl, hQ⟩
/-- len(x), x an instance with an own __len__ -/
theorem call_lenI (hs : PySem.W.findIn X.K (.ref CE) "__len__" = some (some (.ref f))) (hf : PySem.W.isFn X.K (.ref f) = true) (F : FnOk X.prog X.w X.K X.mg X.base CX0 k f fd ps sp) (hb : L2.Binds X.K fd ps []) (hr : Room (k + 1) X.A) :
    CallR X (.builtin "len") (fun xs H Q => ∃ (a : Addr), xs = [.ref a] ∧ InsI H a CE ∧ sp [.ref a] H (fun v H' => ∃ n : Nat, v = .int n ∧ n ≤ 1000 ∧ Q v H') (fun _ _ _ => False)) := by
  intro pins s σ H xs us Q I r h
  obtain ⟨a, rfl, ho, q⟩ := h
  obtain rfl := Vals.ref1 r
  obtain ⟨ox, od, J⟩ := insI_at I ho
  obtain ⟨m, hF⟩ := I.fr
  refine PySem.W.len_K hF I.ok.mod.kin J hs hf ?_
  refine wpAny_mono (call_own (us := [.ref a]) (vs := [.ref a]) F hr.in1 hb I I.env0.in1 (.cons rfl .nil) q) (fun z s' hz => ?_) fun _ _ e => e
  obtain ⟨v', H', I', rz, n, rfl, hn, hQ⟩ := hz
  obtain ⟨t, rfl⟩ : ∃ t, z = Value.int n t := rz
  exact ⟨⟨by omega, by omega⟩, .int n, H', I'.tok _, ⟨_, rfl⟩, hQ⟩
/-- bool(x), x an instance with an own __bool__ -/
theorem call_boolI (hs : PySem.W.findIn X.K (.ref CE) "__bool__" = some (some (.ref f))) (hf : PySem.W.isFn X.K (.ref f) = true) (F : FnOk X.prog X.w X.K X.mg X.base CX0 k f fd ps sp) (hb : L2.Binds X.K fd ps []) (hr : Room (k + 2) X.A) :
    CallR X (.type "bool") (fun xs H Q => ∃ (a : Addr), xs = [.ref a] ∧ InsI H a CE ∧ sp [.ref a] H (fun v H' => ∃ b, v = .bl b ∧ Q v H') (fun _ _ _ => False)) := by
  intro pins s σ H xs us Q I r h
  obtain ⟨a, rfl, ho, q⟩ := h
  obtain rfl := Vals.ref1 r
  obtain ⟨ox, od, J⟩ := insI_at I ho
  obtain ⟨m, hF⟩ := I.fr
  refine call_bool_in (PySem.W.truthy_K hF I.ok.mod.kin J hs hf ?_)
  refine wpAny_mono (call_own (us := [.ref a]) (vs := [.ref a]) F hr.in1.in1 hb I I.env0.in1.in1 (.cons rfl .nil) q) (fun z s' hz => ?_) fun _ _ e => e
  obtain ⟨v', H', I', rz, b, rfl, hQ⟩ := hz
  cases (show z = Value.bool b from rz)
  exact ⟨.bl b, H', I', rfl, hQ⟩
/-- x != y of two instances with an own __eq__ and no own __ne__ -/
theorem op_neI (hs : PySem.W.findIn X.K (.ref CE) "__eq__" = some (some (.ref f))) (hf : PySem.W.isFn X.K (.ref f) = true) (hn : PySem.W.findIn X.K (.ref CE) "__ne__" = some (some (.builtin "object.__ne__")))
    (hob : PySem.W.subIn X.K (.ref CE) (.type "object") = some true) (F : FnOk X.prog X.w X.K X.mg X.base CX0 k f fd ps sp) (hb : L2.Binds X.K fd ps []) (hr : Room (k + 2) X.A) :
    OpR X (compareOp .NotEq) (fun x y H Q => ∃ (a b : Addr), x = .ref a ∧ y = .ref b ∧ InsI H a CE ∧ InsI H b CE ∧ sp [.ref a, .ref b] H (fun v H' => ∃ c, v = .bl c ∧ Q (.bl (!c)) H') (fun _ _ _ => False)) := by
  intro pins s σ H x y v u Q I rx ry h
  obtain ⟨a, b, rfl, rfl, ho, ho2, q⟩ := h
  cases (show v = Value.ref a from rx)
  cases (show u = Value.ref b from ry)
  show wpAny (model X.prog X.w) X.A (richCompare .NotEq (.ref a) (.ref b)) (EP X pins σ Q) X.xe s
  have KX := I.kIn
  obtain ⟨ox, od, J⟩ := insI_at I ho
  obtain ⟨ox2, od2, J2⟩ := insI_at I ho2
  unfold richCompare
  simp only [oneThing_ref]
  refine wpAny_holding (wpAny_bind (wpAny_cRoomFor hr.units0 ?_))
  refine wpAny_bind (J.type.here (wpAny_bind (J2.type.here ?_)))
  rw [if_neg (by simp)]
  refine wpAny_bind (wpAny_pure ?_)
  simp only [Bool.false_eq_true, if_false]
  refine wpAny_bind ?_
  unfold tryCompare
  refine wpAny_bind (m := callSpecialIfBound? (.ref a) "__ne__" [.ref b]) (ifBound_ne KX J hn ?_)
  refine wpAny_call (codeAny_call_builtin one_plain PySem.F.cmpEntry_ne (check_ne KX J hob (body_ne KX J hs hf (by have := hr.units0; have := hr.un; show X.A.units + 1 < cLine; omega) ?_)))
  refine wpAny_mono (call_own (us := [.ref a, .ref b]) (vs := [.ref a, .ref b]) F (hr.mono (Nat.le_succ _)).in1 hb I I.env0.in1 (.cons rfl (.cons rfl .nil)) q) (fun z s' hz => ?_) fun _ _ e => e
  obtain ⟨v', H', I', rz, c, rfl, hQ⟩ := hz
  cases (show z = Value.bool c from rz)
  refine ⟨c, rfl, ?_⟩
  show wpAny _ _ _ _ _ s'
  exact wpAny_pure (wpAny_pure ⟨.bl (!c), H', I', rfl, hQ⟩)
end
end P5

end
section
set_option Elab.async false
set_option linter.all false
set_option maxRecDepth 100000
set_option maxHeartbeats 4000000
namespace P5
open PySem PySem.Spec PyProof.Rows L2
/-! ### what edits do, as plain mathematics -/
def app (e : Ed) (l : List Str) : List Str := l.take e.a ++ e.ws ++ l.drop e.b
def und (e : Ed) (l : List Str) : Ed := ⟨e.a, e.a + e.ws.length, (l.take e.b).drop e.a⟩
theorem six (n a : Nat) (z : Int) : HT.sIx n z.toNat (some (a : Int)) = min a n := by
  unfold HT.sIx
  simp only [Int.toNat_natCast]
  rw [if_neg (by omega)]
theorem six0 (n d a : Nat) : HT.sIx n d (some (a : Int)) = min a n := by
  unfold HT.sIx
  simp only [Int.toNat_natCast]
  rw [if_neg (by omega)]
theorem cut_to (xs : List V) (i : Nat) (h : i ≤ xs.length) : cutV xs none (some (i : Int)) = xs.take i := by
  unfold cutV
  rw [six0, show HT.sIx xs.length 0 none = 0 from rfl, List.drop_zero, Nat.sub_zero, Nat.min_eq_left h]
theorem cut_from (xs : List V) (i : Nat) (h : i ≤ xs.length) : cutV xs (some (i : Int)) none = xs.drop i := by
  unfold cutV
  rw [six0, show HT.sIx xs.length xs.length none = xs.length from rfl, Nat.min_eq_left h, List.take_of_length_le (by rw [List.length_drop]; omega)]
theorem cut_mid (xs : List V) (i j : Nat) (h : i ≤ j) (h2 : j ≤ xs.length) : cutV xs (some (i : Int)) (some (j : Int)) = (xs.take j).drop i := by
  unfold cutV
  rw [six0, six0, Nat.min_eq_left h2, Nat.min_eq_left (by omega), List.drop_take]
theorem fresh_of {H H' : Hp} {p : Addr} (s : Same H H') (h : H' p = none) : H p = none := by
  cases e : H p with
  | none => rfl
  | some o => rw [s _ _ e] at h; cases h
/-- words of the heap: marks, few -/
structure WsL (K : PySem.W.Frag) (H : Hp) (l : Addr) (ws : List Str) : Prop where
  at_ : SqL K H l (ws.map V.str)
  mrk : ∀ x ∈ ws, x ∈ MRK
  sm : ws.length ≤ 200
theorem WsL.same {K : PySem.W.Frag} {H H' : Hp} {l : Addr} {ws : List Str} (s : Same H H') (h : WsL K H l ws) : WsL K H' l ws := ⟨s.seq h.at_, h.mrk, h.sm⟩
section
variable {P : Program} {w : World} {K : PySem.W.Frag} {mg : Str → Option Value} {base : Heap} {aN aS CE : Addr}
abbrev sLenM : Stmt := inClass (tp 17) 2
theorem scLenM : FnScope ["self"] ["self"] (defScope sLenM) := ⟨rfl, rfl, rfl, by decide +kernel, rfl, by decide +kernel, by decide +kernel⟩
def spLenM (K : PySem.W.Frag) (CE : Addr) : Sp := fun vs H Q _ => ∃ (p : Addr) (e : Ed), vs = [.ref p] ∧ EdH K CE H p e ∧ Q (.int e.ws.length) H
theorem ok_lenm {f : Addr} {fd : FuncData} (F : Fun K "__len__" "Edit.__len__" sLenM f fd) (T : KC K mg aN aS) (EE : EC K CE) : FnOk P w K mg base CX0 1 f fd ["self"] (spLenM K CE) := by
  refine F.ok scLenM (fun vs H Q E h => ?_) (fun cdv A outer s H vs Q E hr h => ?_)
  · obtain ⟨_, _, rfl, _⟩ := h
    rfl
  obtain ⟨p, e, rfl, ⟨dx, t, hp, hS, he⟩, q⟩ := h
  refine ⟨_, pss_one (ps_ret (pe_callB call_len_seq rfl T.len PySem.boot_len (pa_cons (pe_fld (pv 0) rfl) pa_nil))), ?_⟩
  refine ⟨_, rfl, p, CE, dx, _, .ref t, rfl, hp, EE.cl, EE.nW, rfl, t, _, rfl, .inr hS, ?_⟩
  rw [List.length_map]
  exact q
abbrev sBoolM : Stmt := inClass (tp 17) 3
theorem scBoolM : FnScope ["self"] ["self"] (defScope sBoolM) := ⟨rfl, rfl, rfl, by decide +kernel, rfl, by decide +kernel, by decide +kernel⟩
def edB (e : Ed) : Bool := !e.ws.isEmpty || decide (e.a < e.b)
def spBoolM (K : PySem.W.Frag) (CE : Addr) : Sp := fun vs H Q _ => ∃ (p : Addr) (e : Ed), vs = [.ref p] ∧ EdH K CE H p e ∧ Q (.bl (edB e)) H
theorem ok_boolm {f : Addr} {fd : FuncData} (F : Fun K "__bool__" "Edit.__bool__" sBoolM f fd) (T : KC K mg aN aS) (EE : EC K CE) : FnOk P w K mg base CX0 1 f fd ["self"] (spBoolM K CE) := by
  refine F.ok scBoolM (fun vs H Q E h => ?_) (fun cdv A outer s H vs Q E hr h => ?_)
  · obtain ⟨_, _, rfl, _⟩ := h
    rfl
  obtain ⟨p, e, rfl, ⟨dx, t, hp, hS, he⟩, q⟩ := h
  refine ⟨_, pss_one (ps_ret (pe_or (pe_callTy call_boolT rfl T.bool (by decide +kernel) (pa_cons (pe_fld (pv 0) rfl) pa_nil))
    (pe_one (pe_callTy call_bool1 rfl T.bool (by decide +kernel) (pa_cons (pe_cmpR op_lt (pe_fld (pv 0) rfl) (pe_fld (pv 0) rfl) (nomark _)) pa_nil))))), ?_⟩
  refine ⟨_, rfl, p, CE, dx, _, .ref t, rfl, hp, EE.cl, EE.nW, rfl, t, _, rfl, hS, (by rw [List.length_map]; have := he.sm; omega), _, rfl, ?_⟩
  have e1 : (!(e.ws.map V.str).isEmpty) = !e.ws.isEmpty := by cases e.ws <;> rfl
  rw [e1]
  have e2 : edB e = (!e.ws.isEmpty || decide ((e.a : Int) < (e.b : Int))) := by
    unfold edB
    congr 1
    by_cases h : e.a < e.b
    · rw [decide_eq_true h, decide_eq_true (by omega)]
    · rw [decide_eq_false h, decide_eq_false (by omega)]
  rw [e2] at q
  cases hb : (!e.ws.isEmpty) with
  | true =>
    rw [hb] at q
    exact iteT q
  | false =>
    rw [hb, Bool.false_or] at q
    refine iteF ⟨_, rfl, p, CE, dx, _, .int e.a, rfl, hp, EE.cl, EE.nF, rfl, _, rfl, p, CE, dx, _, .int e.b, rfl, hp, EE.cl, EE.nL, rfl, _, _, rfl, rfl, .inr ⟨_, rfl, q⟩⟩
abbrev sGrow : Stmt := inClass (tp 17) 6
theorem scGrow : FnScope ["self"] ["self"] (defScope sGrow) := ⟨rfl, rfl, rfl, by decide +kernel, rfl, by decide +kernel, by decide +kernel⟩
def grow (e : Ed) : Int := (e.ws.length : Int) - ((e.b : Int) - (e.a : Int))
def spGrow (K : PySem.W.Frag) (CE : Addr) : Sp := fun vs H Q _ => ∃ (p : Addr) (e : Ed), vs = [.ref p] ∧ EdH K CE H p e ∧ Q (.int (grow e)) H
theorem ok_grow {f : Addr} {fd : FuncData} (F : Fun K "growth" "Edit.growth" sGrow f fd) (T : KC K mg aN aS) (EE : EC K CE) : FnOk P w K mg base CX0 1 f fd ["self"] (spGrow K CE) := by
  refine F.ok scGrow (fun vs H Q E h => ?_) (fun cdv A outer s H vs Q E hr h => ?_)
  · obtain ⟨_, _, rfl, _⟩ := h
    rfl
  obtain ⟨p, e, rfl, ⟨dx, t, hp, hS, he⟩, q⟩ := h
  refine ⟨_, pss_one (ps_ret (pe_op op_sub (pe_callB call_len_seq rfl T.len PySem.boot_len (pa_cons (pe_fld (pv 0) rfl) pa_nil)) (pe_op op_sub (pe_fld (pv 0) rfl) (pe_fld (pv 0) rfl)))), ?_⟩
  refine ⟨_, rfl, p, CE, dx, _, .ref t, rfl, hp, EE.cl, EE.nW, rfl, t, _, rfl, .inr hS, ?_⟩
  refine ⟨_, rfl, p, CE, dx, _, .int e.b, rfl, hp, EE.cl, EE.nL, rfl, _, rfl, p, CE, dx, _, .int e.a, rfl, hp, EE.cl, EE.nF, rfl, _, _, rfl, rfl, _, _, rfl, rfl, ?_⟩
  rw [List.length_map]
  exact q
abbrev sFit : Stmt := inClass (tp 17) 8
theorem scFit : FnScope ["self", "words", "told"] ["self", "words"] (defScope sFit) := ⟨rfl, rfl, rfl, by decide +kernel, rfl, by decide +kernel, by decide +kernel⟩
def spFit (K : PySem.W.Frag) (CE : Addr) : Sp := fun vs H Q _ => ∃ (p l : Addr) (e : Ed) (ws : List Str), vs = [.ref p, .ref l] ∧ EdH K CE H p e ∧ WsL K H l ws ∧ e.b ≤ ws.length ∧
  ∀ H' q, Same H H' → H q = none → H' q = some (.lst (ws.map V.str)) → Q (.ref q) H'
theorem ok_fit {f f1 : Addr} {fd fd1 : FuncData} (F : Fun K "_fitting" "Edit._fitting" sFit f fd) (T : KC K mg aN aS) (EE : EC K CE)
    (G1 : FnOk P w K mg base CX0 4 f1 fd1 ["words"] (spChk K)) (b1 : Binds K fd1 ["words"] []) (k1 : PySem.W.keepIn K (.ref f1) = true) (m1 : mg "checked_words" = some (.ref f1)) : FnOk P w K mg base CX0 5 f fd ["self", "words"] (spFit K CE) := by
  refine F.ok scFit (fun vs H Q E h => ?_) (fun cdv A outer s H vs Q E hr h => ?_)
  · obtain ⟨_, _, _, _, rfl, _⟩ := h
    rfl
  obtain ⟨p, l, e, ws, rfl, hE, hw, hb, q⟩ := h
  refine ⟨_, pss_cons (ps_set (i := 2) scFit.nd rfl (Or.inl rfl) (pe_call G1 hr rfl m1 k1 b1 .nil pass0 (pa_cons (pv 1) pa_nil)))
    (pss_cons (ps_if (pt_cmpR op_lt (pe_callB call_len_seq rfl T.len PySem.boot_len (pa_cons (pv 2) pa_nil)) (pe_fld (pv 0) rfl) (nomark _)) (pss_one ps_never) pss_nil)
    (pss_one (ps_ret (pv 2)))), ?_⟩
  refine ⟨_, rfl, l, ws, rfl, hw.at_, hw.mrk, hw.sm, fun H' t s1 hn ht => ?_⟩
  obtain ⟨dx, tt, hp, hS, he⟩ := hE.same s1
  refine ⟨_, rfl, t, _, rfl, .inl (SqL.of ht), _, rfl, p, CE, dx, _, .int e.b, rfl, hp, EE.cl, EE.nL, rfl, _, _, rfl, rfl, _, rfl, iteFF (decide_eq_false (by rw [List.length_map]; omega)) ⟨_, rfl, q H' t s1 hn ht⟩⟩
abbrev sCallM : Stmt := inClass (tp 17) 4
theorem scCallM : FnScope ["self", "words", "told"] ["self", "words"] (defScope sCallM) := ⟨rfl, rfl, rfl, by decide +kernel, rfl, by decide +kernel, by decide +kernel⟩
def spCallM (K : PySem.W.Frag) (CE : Addr) : Sp := fun vs H Q _ => ∃ (p l : Addr) (e : Ed) (ws : List Str), vs = [.ref p, .ref l] ∧ EdH K CE H p e ∧ WsL K H l ws ∧ e.b ≤ ws.length ∧
  ∀ H' q, Same H H' → H q = none → H' q = some (.lst ((app e ws).map V.str)) → Q (.ref q) H'
theorem ok_callm {f f1 : Addr} {fd fd1 : FuncData} (F : Fun K "__call__" "Edit.__call__" sCallM f fd) (T : KC K mg aN aS) (EE : EC K CE)
    (M1 : Meth K CE "_fitting" f1) (G1 : FnOk P w K mg base CX0 5 f1 fd1 ["self", "words"] (spFit K CE)) (b1 : Binds K fd1 ["self", "words"] []) : FnOk P w K mg base CX0 6 f fd ["self", "words"] (spCallM K CE) := by
  refine F.ok scCallM (fun vs H Q E h => ?_) (fun cdv A outer s H vs Q E hr h => ?_)
  · obtain ⟨_, _, _, _, rfl, _⟩ := h
    rfl
  obtain ⟨p, l, e, ws, rfl, hE, hw, hb, q⟩ := h
  refine ⟨_, pss_cons (ps_set (i := 2) scCallM.nd rfl (Or.inl rfl) (pe_meth (pv 0) EE.cl M1 G1 hr b1 .nil pass0 (pa_cons (pv 1) pa_nil)))
    (pss_one (ps_ret (pe_op op_cat (pe_op op_cat (pe_slice (r := rSlL K) sl_list (pv 2) po_none (po_some (pe_fld (pv 0) rfl))) (pe_callTy call_list_of rfl T.lst (by decide +kernel) (pa_cons (pe_fld (pv 0) rfl) pa_nil)))
      (pe_slice (r := rSlL K) sl_list (pv 2) (po_some (pe_fld (pv 0) rfl)) po_none)))), ?_⟩
  obtain ⟨dx, tt, hp, hS, he⟩ := id hE
  refine ⟨_, rfl, p, dx, _, rfl, hp, rfl, _, rfl, p, l, e, ws, rfl, hE, hw, hb, fun H1 t s1 hn ht => ?_⟩
  obtain ⟨dx1, tt1, hp1, hS1, _⟩ := hE.same s1
  have ha := he.le
  refine ⟨_, rfl, _, rfl, p, CE, dx1, _, .int e.a, rfl, hp1, EE.cl, EE.nF, rfl, e.a, rfl, t, _, rfl, SqL.of ht, fun l1 hl1 => ?_⟩
  have s2 := Same.new hl1 (.lst (cutV (ws.map V.str) none (some (e.a : Int))))
  have c1 : upd H1 l1 (.lst (cutV (ws.map V.str) none (some (e.a : Int)))) l1 = some (.lst ((ws.take e.a).map V.str)) := by
    rw [upd_same, cut_to _ _ (by rw [List.length_map]; omega), List.map_take]
  generalize upd H1 l1 (.lst (cutV (ws.map V.str) none (some (e.a : Int)))) = H2 at *
  have sz : ∀ {n : Nat}, n ≤ 1000 → n ≤ sizeLine := fun h => small_le h
  have hw2 := hw.sm
  have he2 := he.sm
  refine ⟨_, rfl, p, CE, dx1, _, .ref tt1, rfl, s2 _ _ hp1, EE.cl, EE.nW, rfl, tt1, _, rfl, .inr (Same.tup s2 hS1), fun l2 hl2 => ?_⟩
  have s3 := Same.new hl2 (.lst (e.ws.map V.str))
  have c2 : upd H2 l2 (.lst (e.ws.map V.str)) l2 = some (.lst (e.ws.map V.str)) := upd_same
  have c1' := s3 _ _ c1
  generalize upd H2 l2 (.lst (e.ws.map V.str)) = H3 at *
  refine ⟨l1, l2, _, _, rfl, rfl, c1', c2, sz (by rw [List.length_map, List.length_map, List.length_take]; omega), fun l3 hl3 => ?_⟩
  have s4 := Same.new hl3 (.lst ((ws.take e.a).map V.str ++ e.ws.map V.str))
  have c3 : upd H3 l3 (.lst ((ws.take e.a).map V.str ++ e.ws.map V.str)) l3 = some (.lst ((ws.take e.a).map V.str ++ e.ws.map V.str)) := upd_same
  generalize upd H3 l3 (.lst ((ws.take e.a).map V.str ++ e.ws.map V.str)) = H4 at *
  have s14 := (s2.trans s3).trans s4
  refine ⟨_, rfl, _, rfl, p, CE, dx1, _, .int e.b, rfl, s14 _ _ hp1, EE.cl, EE.nL, rfl, e.b, rfl, t, _, rfl, SqL.of (s14 _ _ ht), fun l4 hl4 => ?_⟩
  have s5 := Same.new hl4 (.lst (cutV (ws.map V.str) (some (e.b : Int)) none))
  have c4 : upd H4 l4 (.lst (cutV (ws.map V.str) (some (e.b : Int)) none)) l4 = some (.lst ((ws.drop e.b).map V.str)) := by
    rw [upd_same, cut_from _ _ (by rw [List.length_map]; omega), List.map_drop]
  have c3' := s5 _ _ c3
  generalize upd H4 l4 (.lst (cutV (ws.map V.str) (some (e.b : Int)) none)) = H5 at *
  refine ⟨l3, l4, _, _, rfl, rfl, c3', c4, sz (by rw [List.length_append, List.length_map, List.length_map, List.length_map, List.length_take, List.length_drop]; omega), fun l5 hl5 => ?_⟩
  have s6 := Same.new hl5 (.lst (((ws.take e.a).map V.str ++ e.ws.map V.str) ++ (ws.drop e.b).map V.str))
  have sA := s1.trans (s14.trans s5)
  refine q _ l5 (sA.trans s6) (fresh_of sA hl5) ?_
  rw [upd_same]
  unfold app
  rw [List.map_append, List.map_append]
/-! ### edits are made -/
/-- what making an edit asks and gives -/
structure MkE (P : Program) (w : World) (K : PySem.W.Frag) (mg : Str → Option Value) (base : Heap) (CE fI : Addr) (fdI : FuncData) : Prop where
  M : Mk K CE fI
  F : FnOk P w K mg base CX0 4 fI fdI NI (spInit K CE)
  b : L2.Binds K fdI NI []
  m : mg "Edit" = some (.ref CE)
theorem mk_ed {Q : VK} {E : XK} {l : Addr} {e : Ed} {H : Hp} (hS : SqE K H l (e.ws.map V.str)) (he : e.Ok) (q : ∀ H' x, Same H H' → H x = none → EdH K CE H' x e → Q (.ref x) H') :
    ∀ x dx, H x = none → H dx = none → dx ≠ x → spInit K CE (.ref x :: ([.int e.a, .int e.b, .ref l] ++ [])) (upd (upd H dx (.own x)) x (.ins CE dx [])) (fun v H2 => v = .non ∧ Q (.ref x) H2) E := by
  intro x dx hx hdx hne
  have s1 : Same H (upd (upd H dx (.own x)) x (.ins CE dx [])) := (Same.new hdx _).trans (Same.new (by rw [upd_ne (Ne.symm hne)]; exact hx) _)
  refine ⟨x, dx, l, e, rfl, upd_same, hS.same s1, he, fun H' hB hE => ⟨rfl, q H' x (fun b o hb => hB _ _ (fun z => ?_) (s1 _ _ hb)) hx hE⟩⟩
  rw [z, hx] at hb
  cases hb
theorem mk_edI {Q : VK} {E : XK} {l : Addr} {i j : Int} {e : Ed} {H : Hp} (hi : i = e.a) (hj : j = e.b) (hS : SqE K H l (e.ws.map V.str)) (he : e.Ok) (q : ∀ H' x, Same H H' → H x = none → EdH K CE H' x e → Q (.ref x) H') :
    ∀ x dx, H x = none → H dx = none → dx ≠ x → spInit K CE (.ref x :: ([.int i, .int j, .ref l] ++ [])) (upd (upd H dx (.own x)) x (.ins CE dx [])) (fun v H2 => v = .non ∧ Q (.ref x) H2) E := by
  subst hi hj
  exact mk_ed hS he q
abbrev sAddM : Stmt := inClass (tp 17) 5
theorem scAddM : FnScope ["self", "other"] ["self", "other"] (defScope sAddM) := ⟨rfl, rfl, rfl, by decide +kernel, rfl, by decide +kernel, by decide +kernel⟩
def spAddM (K : PySem.W.Frag) (CE : Addr) : Sp := fun vs H Q _ => ∃ (p : Addr) (i : Int) (e e2 : Ed), vs = [.ref p, .int i] ∧ EdH K CE H p e ∧ (e2.a : Int) = e.a + i ∧ (e2.b : Int) = e.b + i ∧ e2.ws = e.ws ∧ e2.Ok ∧
  ∀ H' x, Same H H' → H x = none → EdH K CE H' x e2 → Q (.ref x) H'
theorem ok_addm {f f1 fI : Addr} {fd fd1 fdI : FuncData} (F : Fun K "__add__" "Edit.__add__" sAddM f fd) (EE : EC K CE) (J : MkE P w K mg base CE fI fdI)
    (G1 : FnOk P w K mg base CX0 1 f1 fd1 ["thing"] spWhole) (b1 : Binds K fd1 ["thing"] []) (k1 : PySem.W.keepIn K (.ref f1) = true) (m1 : mg "is_whole" = some (.ref f1)) : FnOk P w K mg base CX0 6 f fd ["self", "other"] (spAddM K CE) := by
  refine F.ok scAddM (fun vs H Q E h => ?_) (fun cdv A outer s H vs Q E hr h => ?_)
  · obtain ⟨_, _, _, _, rfl, _⟩ := h
    rfl
  obtain ⟨p, i, e, e2, rfl, hE, ea, eb, ew, ho, q⟩ := h
  obtain ⟨dx, tt, hp, hS, he⟩ := id hE
  refine ⟨_, pss_cons (ps_if (pt_not (pt_val (pe_call G1 (hr.mono (by decide)) rfl m1 k1 b1 .nil pass0 (pa_cons (pv 1) pa_nil)))) (pss_one ps_never) pss_nil)
    (pss_one (ps_ret (pe_make J.M J.F hr rfl J.m J.b .nil pass0 (pa_cons (pe_op op_add (pe_fld (pv 0) rfl) (pv 1)) (pa_cons (pe_op op_add (pe_fld (pv 0) rfl) (pv 1)) (pa_cons (pe_fld (pv 0) rfl) pa_nil)))))), ?_⟩
  refine ⟨_, rfl, _, rfl, _, rfl, iteF ⟨_, rfl, p, CE, dx, _, .int e.a, rfl, hp, EE.cl, EE.nF, rfl, _, rfl, _, _, rfl, rfl, _, rfl, p, CE, dx, _, .int e.b, rfl, hp, EE.cl, EE.nL, rfl, _, rfl, _, _, rfl, rfl, _, rfl, p, CE, dx, _, .ref tt, rfl, hp, EE.cl, EE.nW, rfl, ?_⟩⟩
  exact mk_edI (e := e2) ea.symm eb.symm (.inr (by rw [ew]; exact hS)) ho q
end
end P5

end
section
set_option Elab.async false
set_option linter.all false
set_option maxRecDepth 100000
set_option maxHeartbeats 4000000
namespace P5
open PySem PySem.Spec PySem.SeqAt PyProof.Rows L2
/-! ### lists and tuples of marks as data -/
theorem lay_mem : ∀ {ds : List PyData}, (∀ d ∈ ds, d.canLay0 = true) → PyData.canLayAll0 ds = true
  | [], _ => by simp only [PyData.canLayAll0]
  | d :: ds, h => by
    simp only [PyData.canLayAll0, h d List.mem_cons_self, lay_mem fun x hx => h x (List.mem_cons_of_mem _ hx), Bool.and_self]
theorem depth_mem : ∀ {ds : List PyData} {m : Nat}, (∀ d ∈ ds, d.depth ≤ m) → PyData.depthAll ds ≤ m
  | [], m, _ => by simp only [PyData.depthAll]; exact Nat.zero_le _
  | d :: ds, m, h => by
    simp only [PyData.depthAll]
    exact Nat.max_le.mpr ⟨h d List.mem_cons_self, depth_mem fun x hx => h x (List.mem_cons_of_mem _ hx)⟩
theorem shaped_mk {d : PyData} (h1 : d.canLay0 = true) (h2 : d.depth ≤ 64) : shaped d = true := by
  unfold shaped
  rw [h1, decide_eq_true h2]
  rfl
theorem lay_str {x : Str} (h : PyData.strOk x = true) : (PyData.str x).canLay0 = true := by simp only [PyData.canLay0]; exact h
theorem lay_marks {zs : List Str} (h : ∀ z ∈ zs, z ∈ MRK) : PyData.canLayAll0 (zs.map PyData.str) = true := lay_mem fun d hd => by
  obtain ⟨z, hz, e⟩ := List.mem_map.mp hd
  subst e
  exact lay_str (mrk_ok z (h z hz))
theorem depth_marks (zs : List Str) : PyData.depthAll (zs.map PyData.str) ≤ 0 := depth_mem fun d hd => by
  obtain ⟨z, _, e⟩ := List.mem_map.mp hd
  subst e
  simp only [PyData.depth]
  exact Nat.le_refl _
theorem shaped_lst {zs : List Str} (h : ∀ z ∈ zs, z ∈ MRK) : shaped (.list (zs.map PyData.str)) = true := by
  refine shaped_mk ?_ ?_
  · simp only [PyData.canLay0]
    exact lay_marks h
  · simp only [PyData.depth]
    have := depth_marks zs
    omega
theorem shaped_tup {zs : List Str} (h : ∀ z ∈ zs, z ∈ MRK) : shaped (.tuple (zs.map PyData.str)) = true := by
  refine shaped_mk ?_ ?_
  · simp only [PyData.canLay0]
    exact lay_marks h
  · simp only [PyData.depth]
    have := depth_marks zs
    omega
theorem dpAll_marks {K : PySem.W.Frag} {H : Hp} : ∀ (zs : List Str), DpAll K H (zs.map V.str) (zs.map PyData.str)
  | [] => .nil
  | z :: zs => .cons (.str z) (dpAll_marks zs)
theorem eqvAll_marks : ∀ (a b : List Str), PyData.eqvAll (a.map PyData.str) (b.map PyData.str) = decide (a = b)
  | [], [] => rfl
  | [], y :: b => rfl
  | x :: a, [] => rfl
  | x :: a, y :: b => by
    show ((x == y) && PyData.eqvAll (a.map PyData.str) (b.map PyData.str)) = decide (x :: a = y :: b)
    rw [eqvAll_marks a b]
    by_cases h : x = y
    · subst h
      rw [beq_self_eq_true, Bool.true_and]
      by_cases h2 : a = b
      · subst h2
        rw [decide_eq_true rfl, decide_eq_true rfl]
      · rw [decide_eq_false h2, decide_eq_false fun z => h2 (List.cons.inj z).2]
    · rw [beq_eq_false_iff_ne.mpr h, Bool.false_and, decide_eq_false fun z => h (List.cons.inj z).1]
section
variable {X : Cx}
/-- != of two lists of marks -/
def rNeW (K : PySem.W.Frag) : R2 := fun x y H Q => ∃ (l m : Addr) (as bs : List Str), x = .ref l ∧ y = .ref m ∧ SqL K H l (as.map V.str) ∧ SqL K H m (bs.map V.str) ∧ (∀ z ∈ as, z ∈ MRK) ∧ (∀ z ∈ bs, z ∈ MRK) ∧ Q (.bl (!decide (as = bs))) H
theorem op_neW (hu : X.A.units + 64 < cLine) : OpR X (compareOp .NotEq) (rNeW X.K) := by
  intro pins s σ H x y v u Q I rx ry h
  obtain ⟨l, m, as, bs, rfl, rfl, h1, h2, m1, m2, q⟩ := h
  refine op_neD hu pins s σ H _ _ v u Q I rx ry ⟨.list (as.map PyData.str), .list (bs.map PyData.str), .lst h1 (dpAll_marks as), .lst h2 (dpAll_marks bs), shaped_lst m1, shaped_lst m2, ?_⟩
  rw [show PyData.eqv (.list (as.map PyData.str)) (.list (bs.map PyData.str)) = decide (as = bs) from eqvAll_marks as bs]
  exact q
/-- == of two lists of marks -/
def rEqW (K : PySem.W.Frag) : R2 := fun x y H Q => ∃ (l m : Addr) (as bs : List Str), x = .ref l ∧ y = .ref m ∧ SqL K H l (as.map V.str) ∧ SqL K H m (bs.map V.str) ∧ (∀ z ∈ as, z ∈ MRK) ∧ (∀ z ∈ bs, z ∈ MRK) ∧ Q (.bl (decide (as = bs))) H
theorem op_eqW (hu : X.A.units + 64 < cLine) : OpR X (compareOp .Eq) (rEqW X.K) := by
  intro pins s σ H x y v u Q I rx ry h
  obtain ⟨l, m, as, bs, rfl, rfl, h1, h2, m1, m2, q⟩ := h
  refine op_eqD hu pins s σ H _ _ v u Q I rx ry ⟨.list (as.map PyData.str), .list (bs.map PyData.str), .lst h1 (dpAll_marks as), .lst h2 (dpAll_marks bs), shaped_lst m1, shaped_lst m2, ?_⟩
  rw [show PyData.eqv (.list (as.map PyData.str)) (.list (bs.map PyData.str)) = decide (as = bs) from eqvAll_marks as bs]
  exact q
/-- == and != of two tuples of marks -/
def rTW (K : PySem.W.Frag) (f : Bool → Bool) : R2 := fun x y H Q => ∃ (l m : Addr) (as bs : List Str), x = .ref l ∧ y = .ref m ∧ SqT K H l (as.map V.str) ∧ SqT K H m (bs.map V.str) ∧ (∀ z ∈ as, z ∈ MRK) ∧ (∀ z ∈ bs, z ∈ MRK) ∧ Q (.bl (f (decide (as = bs)))) H
theorem op_eqTW (hu : X.A.units + 64 < cLine) : OpR X (compareOp .Eq) (rTW X.K id) := by
  intro pins s σ H x y v u Q I rx ry h
  obtain ⟨l, m, as, bs, rfl, rfl, h1, h2, m1, m2, q⟩ := h
  refine op_eqD hu pins s σ H _ _ v u Q I rx ry ⟨.tuple (as.map PyData.str), .tuple (bs.map PyData.str), .tup h1 (dpAll_marks as), .tup h2 (dpAll_marks bs), shaped_tup m1, shaped_tup m2, ?_⟩
  rw [show PyData.eqv (.tuple (as.map PyData.str)) (.tuple (bs.map PyData.str)) = decide (as = bs) from eqvAll_marks as bs]
  exact q
theorem op_neTW (hu : X.A.units + 64 < cLine) : OpR X (compareOp .NotEq) (rTW X.K not) := by
  intro pins s σ H x y v u Q I rx ry h
  obtain ⟨l, m, as, bs, rfl, rfl, h1, h2, m1, m2, q⟩ := h
  refine op_neD hu pins s σ H _ _ v u Q I rx ry ⟨.tuple (as.map PyData.str), .tuple (bs.map PyData.str), .tup h1 (dpAll_marks as), .tup h2 (dpAll_marks bs), shaped_tup m1, shaped_tup m2, ?_⟩
  rw [show PyData.eqv (.tuple (as.map PyData.str)) (.tuple (bs.map PyData.str)) = decide (as = bs) from eqvAll_marks as bs]
  exact q
end
section
variable {P : Program} {w : World} {K : PySem.W.Frag} {mg : Str → Option Value} {base : Heap} {aN aS CE : Addr}
theorem hu64 {A : Around} {k : Nat} (hr : Room k A) : A.units + 64 < cLine := by have := hr.un; omega
/-- what isinstance(other, Edit) asks of the class -/
structure RI (K : PySem.W.Frag) (mg : Str → Option Value) (C : Addr) : Prop where
  g : mg "Edit" = some (.ref C)
  ha : PySem.W.findIn K (.ref C) "__class__" = some (some (.builtin "object.__class__"))
  hn : PySem.W.specialIn K (.builtin "object.__class__") "__get__" = some (some (.builtin "getset_descriptor.__get__"))
  ht : PySem.W.takesIn K (.builtin "object.__class__") = some true
  hm : PySem.W.mroIn K C (.type "object") = some true
  kit : PySem.W.kitOne K (.ref C) (.ref C) = some true
abbrev sEqM : Stmt := inClass (tp 17) 1
theorem scEqM : FnScope ["self", "other"] ["self", "other"] (defScope sEqM) := ⟨rfl, rfl, rfl, by decide +kernel, rfl, by decide +kernel, by decide +kernel⟩
def spEqM (K : PySem.W.Frag) (CE : Addr) : Sp := fun vs H Q _ => ∃ (a b : Addr) (e : Ed), vs = [.ref a, .ref b] ∧ EdH K CE H a e ∧ EdH K CE H b e ∧ Q (.bl true) H
theorem ok_eqm {f : Addr} {fd : FuncData} (F : Fun K "__eq__" "Edit.__eq__" sEqM f fd) (mI : mg "isinstance" = none) (EE : EC K CE) (R : RI K mg CE) : FnOk P w K mg base CX0 1 f fd ["self", "other"] (spEqM K CE) := by
  refine F.ok scEqM (fun vs H Q E h => ?_) (fun cdv A outer s H vs Q E hr h => ?_)
  · obtain ⟨_, _, _, rfl, _⟩ := h
    rfl
  obtain ⟨a, b, e, rfl, ⟨dx, t, hp, hS, he⟩, ⟨dx2, t2, hp2, hS2, _⟩, q⟩ := h
  refine ⟨_, pss_cons (ps_if (pt_not (pt_val (pe_callB call_isi rfl mI (by decide +kernel) (pa_cons (pv 1) (pa_cons (pgl R.g) pa_nil))))) (pss_one ps_never) pss_nil)
    (pss_one (ps_ret (pe_and (pe_cmpR op_eq (pe_fld (pv 0) rfl) (pe_fld (pv 1) rfl) (nomark _)) (pe_and (pe_cmpR op_eq (pe_fld (pv 0) rfl) (pe_fld (pv 1) rfl) (nomark _)) (pe_one (pe_cmpR (op_eqTW (hu64 hr)) (pe_fld (pv 0) rfl) (pe_fld (pv 1) rfl) (nomark _))))))), ?_⟩
  refine ⟨_, rfl, .ref b, .ref CE, .ref CE, .ref CE, true, rfl, .own _, .base (.ins hp2 EE.cl R.ha R.hn R.ht R.hm), R.kit, _, rfl, iteF ?_⟩
  refine ⟨_, rfl, a, CE, dx, _, .int e.a, rfl, hp, EE.cl, EE.nF, rfl, _, rfl, b, CE, dx2, _, .int e.a, rfl, hp2, EE.cl, EE.nF, rfl, rfl, _, rfl, iteTT (decide_eq_true rfl) ?_⟩
  refine ⟨_, rfl, a, CE, dx, _, .int e.b, rfl, hp, EE.cl, EE.nL, rfl, _, rfl, b, CE, dx2, _, .int e.b, rfl, hp2, EE.cl, EE.nL, rfl, rfl, _, rfl, iteTT (decide_eq_true rfl) ?_⟩
  refine ⟨_, rfl, a, CE, dx, _, .ref t, rfl, hp, EE.cl, EE.nW, rfl, _, rfl, b, CE, dx2, _, .ref t2, rfl, hp2, EE.cl, EE.nW, rfl, t, t2, e.ws, e.ws, rfl, rfl, hS, hS2, he.mrk, he.mrk, ?_⟩
  rw [decide_eq_true rfl]
  exact q
end
end P5

end
section
set_option Elab.async false
set_option linter.all false
set_option maxRecDepth 100000
set_option maxHeartbeats 4000000
namespace P5
open PySem PySem.Spec PyProof.Rows L2
/-! ### comprehensions that draw: what holds of the list so far -/
theorem lc_inv {J : It} {g : TG} {tt : TT} {te : TE} {vs : List Nat} {σ : L2.St} {H1 : Hp} {D : Addr} {Qd : Hp → Prop} (n : Nat) (hn : n ≤ 1000) (P : Nat → List V → Hp → Prop)
    (h0 : P 0 [] (upd H1 D (.lst [])))
    (step : ∀ (i : Nat) (acc : List V) (H : Hp) (Ny : VK) (Nx : Hp → Prop), i < n → H D = some (.lst acc) → P i acc H →
      (∀ y H4, H4 D = some (.lst acc) → P (i + 1) (acc ++ [y]) (upd H4 D (.lst (acc ++ [y]))) → Ny y H4) → (∀ H3, H3 D = some (.lst acc) → P (i + 1) acc H3 → Nx H3) →
      J.go i H ∧ ∀ x H', J.yld i H x H' → g x (wipe σ vs) H' fun σ2 H2 => wipe σ2 vs = wipe σ vs ∧ tt σ2 H2 fun b H3 => if b = true then te σ2 H3 Ny else Nx H3)
    (stop : ∀ acc H, H D = some (.lst acc) → P n acc H → J.stop n H ∧ Qd H) :
    ∃ W : Nat → Nat → Hp → Prop, (∃ m, W 0 m (upd H1 D (.lst []))) ∧ ∀ i m H, W i m H →
      (J.stop i H ∧ Qd H) ∨ (J.go i H ∧ ∃ Nx : Hp → Prop, (∀ H', Nx H' → ∃ m', m' < m ∧ W (i + 1) m' H') ∧ ∀ x H', J.yld i H x H' → g x (wipe σ vs) H' fun σ2 H2 => wipe σ2 vs = wipe σ vs ∧ tt σ2 H2 fun b H3 =>
        if b = true then te σ2 H3 fun y H4 => ∃ acc, H4 D = some (.lst acc) ∧ acc.length < sizeLine ∧ Nx (upd H4 D (.lst (acc ++ [y]))) else Nx H3) := by
  refine ⟨fun i m H => m = n - i ∧ i ≤ n ∧ ∃ acc, H D = some (.lst acc) ∧ acc.length ≤ i ∧ P i acc H, ⟨n, by omega, Nat.zero_le _, [], upd_same, Nat.le_refl _, h0⟩, ?_⟩
  rintro i m H ⟨rfl, hi, acc, hD, hl, hP⟩
  by_cases hlt : i < n
  · have z := step i acc H (fun y H4 => ∃ acc, H4 D = some (.lst acc) ∧ acc.length < sizeLine ∧ (∃ acc', upd H4 D (.lst (acc ++ [y])) D = some (.lst acc') ∧ acc'.length ≤ i + 1 ∧ P (i + 1) acc' (upd H4 D (.lst (acc ++ [y])))))
      (fun H3 => ∃ acc', H3 D = some (.lst acc') ∧ acc'.length ≤ i + 1 ∧ P (i + 1) acc' H3) hlt hD hP (fun y H4 h p => ⟨acc, h, small1000 (by omega), _, upd_same, by rw [List.length_append]; show acc.length + 1 ≤ i + 1; omega, p⟩) (fun H3 h p => ⟨acc, h, by omega, p⟩)
    exact .inr ⟨z.1, fun H' => ∃ acc', H' D = some (.lst acc') ∧ acc'.length ≤ i + 1 ∧ P (i + 1) acc' H', fun H' p' => ⟨n - (i + 1), by omega, rfl, hlt, p'⟩, z.2⟩
  · have e : i = n := by omega
    subst e
    exact .inl (stop acc H hD hP)
theorem DrwS.upd {H : Hp} {d sa D : Addr} {o : HO} (h : DrwS H d sa) (h1 : D ≠ d) (h2 : D ≠ sa) : DrwS (upd H D o) d sa := by
  obtain ⟨ns, n, e1, e2, e3⟩ := h
  exact ⟨ns, n, by rw [upd_ne (Ne.symm h1)]; exact e1, by rw [upd_ne (Ne.symm h2)]; exact e2, e3⟩
theorem DrwS.same {H H' : Hp} {d sa : Addr} (h : DrwS H d sa) (s : Same H H') : DrwS H' d sa := by
  obtain ⟨ns, n, e1, e2, e3⟩ := h
  exact ⟨ns, n, s _ _ e1, s _ _ e2, e3⟩
theorem DrwS.new {H : Hp} {d sa D : Addr} (h : DrwS H d sa) (hD : H D = none) : D ≠ d ∧ D ≠ sa := by
  obtain ⟨ns, n, e1, e2, e3⟩ := h
  exact ⟨fun e => (by rw [e, e1] at hD; cases hD), fun e => (by rw [e, e2] at hD; cases hD)⟩
theorem Aft.put {H H' : Hp} {d D : Addr} {o : HO} (s : Aft H H' d) (hn : H' D = none) : Aft H (upd H' D o) d := fun x u hx hu => by
  have z := s x u hx hu
  rw [upd_ne (ne_of_none z hn)]
  exact z
/-- the list that is made is written: all but it stays -/
theorem Aft.acc {H1 H : Hp} {d D : Addr} {o : HO} (hD : H1 D = none) (s : Aft H1 H d) : Aft H1 (upd H D o) d := fun x u hx hu => by
  rw [upd_ne (ne_of_none hu hD)]
  exact s x u hx hu
structure Cal (P : Program) (w : World) (K : PySem.W.Frag) (mg : Str → Option Value) (base : Heap) (x : Str) (ps : List Str) (sp : Sp) : Prop where
  ex : ∃ f fd, FnOk P w K mg base CX0 8 f fd ps sp ∧ Binds K fd ps [] ∧ PySem.W.keepIn K (.ref f) = true ∧ mg x = some (.ref f)
theorem pe_cal {X : Cx} {x : Str} {ps : List Str} {sp : Sp} {e : Expr} {es : List Expr} {t : TA} {p pos : Pos} (C : Cal X.prog X.w X.K X.mg X.base x ps sp) (hr : Room 8 X.A) (ha : PA X (e :: es) t) (hg : Gl X x := by rfl)
    (hdb : (x == ("__debug__" : Str)) = false := by decide) (he : starEach (e :: es) X.env = (false, eval e X.env) :: starEach es X.env := by rfl) (hpl : (backTo pos (starEach es X.env)).any (·.1) = false := by rfl) :
    PE X (.Call (.Name x p) (e :: es) [] pos) (tCall sp [] E0 t) := by
  obtain ⟨f, fd, G, b, k, m⟩ := C.ex
  exact pe_call G hr hg m k b .nil pass0 ha hdb he hpl

/-- a list of marks of the heap's own -/
structure LsH (H : Hp) (l : Addr) (ws : List Str) : Prop where
  at_ : H l = some (.lst (ws.map V.str))
  mrk : ∀ x ∈ ws, x ∈ MRK
  sm : ws.length ≤ 200
theorem LsH.wsl {K : PySem.W.Frag} {H : Hp} {l : Addr} {ws : List Str} (h : LsH H l ws) : WsL K H l ws := ⟨SqL.of h.at_, h.mrk, h.sm⟩
theorem LsH.same {H H' : Hp} {l : Addr} {ws : List Str} (s : Same H H') (h : LsH H l ws) : LsH H' l ws := ⟨s _ _ h.at_, h.mrk, h.sm⟩
theorem strs_nd {ws : List Str} : ∀ (sa : Addr) (n : Int), HO.lst (ws.map V.str) ≠ .lst [.ref sa, .int 0, .int n] := fun sa n z => by
  cases ws with
  | nil => cases z
  | cons => cases z
theorem LsH.ne {H : Hp} {l d sa : Addr} {ws : List Str} (h : LsH H l ws) (hd : DrwS H d sa) : l ≠ d := hd.drw.ne h.at_ strs_nd
theorem LsH.aft {H H' : Hp} {l d sa : Addr} {ws : List Str} (hd : DrwS H d sa) (s : Aft H H' d) (h : LsH H l ws) : LsH H' l ws := ⟨s _ _ (h.ne hd) h.at_, h.mrk, h.sm⟩
theorem EdH.aft {K : PySem.W.Frag} {CE p d sa : Addr} {H H' : Hp} {e : Ed} (hd : DrwS H d sa) (s : Aft H H' d) (h : EdH K CE H p e) : EdH K CE H' p e := by
  obtain ⟨dx, t, h1, h2, h3⟩ := h
  exact ⟨dx, t, s _ _ (hd.drw.ne h1 fun _ _ z => by cases z) h1, Aft.tup hd.drw s h2, h3⟩
theorem mrk_get {l : List Str} {j : Nat} {x : V} (hl : ∀ z ∈ l, z ∈ MRK) (h : (l.map V.str)[j]? = some x) : ∃ z, x = .str z ∧ z ∈ MRK := by
  rw [List.getElem?_map] at h
  cases e : l[j]? with
  | none => rw [e] at h; cases h
  | some z =>
    rw [e] at h
    cases h
    exact ⟨z, rfl, hl z (List.mem_of_getElem? e)⟩
def PK6 : List Str := ["a", "b", "c", "let", ";", "="]
theorem pk6 : ∀ z ∈ PK6, z ∈ MRK := fun z hz => mrk_of (by revert z; decide +kernel)
section
variable {P : Program} {w : World} {K : PySem.W.Frag} {mg : Str → Option Value} {base : Heap} {aN aS CE : Addr}
abbrev sWds : Stmt := tp 38
abbrev NWd : List Str := ["draw", "many", "turn"]
theorem scWds : FnScope NWd ["draw", "many"] (defScope sWds) := ⟨rfl, rfl, rfl, by decide +kernel, rfl, by decide +kernel, by decide +kernel⟩
def spWds : Sp := fun vs H Q _ => ∃ (d sa : Addr) (n : Nat), vs = [.ref d, .int n] ∧ DrwS H d sa ∧ n ≤ 40 ∧
  ∀ H' l ws, Aft H H' d → DrwS H' d sa → H l = none → LsH H' l ws → ws.length = n → (∀ x ∈ ws, x ∈ PK6) → Q (.ref l) H'
theorem aft_fresh {H H' : Hp} {d l : Addr} (s : Aft H H' d) (hd : l ≠ d) (h : H' l = none) : H l = none := by
  cases e : H l with
  | none => rfl
  | some o => rw [s _ _ hd e] at h; cases h
theorem ok_wds {f fP : Addr} {fd fdP : FuncData} (F : Fun K "_law_words" "_law_words" sWds f fd) (mR : mg "range" = none)
    (GP : FnOk P w K mg base CX0 4 fP fdP ["draw", "things"] (spPick K)) (bP : Binds K fdP ["draw", "things"] []) (kP : PySem.W.keepIn K (.ref fP) = true) (mP : mg "_law_pick" = some (.ref fP)) : FnOk P w K mg base CX0 5 f fd ["draw", "many"] spWds := by
  refine F.ok scWds (fun vs H Q E h => ?_) (fun cdv A outer s H vs Q E hr h => ?_)
  · obtain ⟨_, _, _, rfl, _⟩ := h
    rfl
  obtain ⟨d, sa, n, rfl, hd, hn, q⟩ := h
  refine ⟨_, pss_one (ps_ret (pe_lc (own := [("turn", 2)]) (g := gName 2) rfl scWds.nd (pi_range1 rfl mR (pa_cons (pv 1) pa_nil))
        (blkOk_by (N := NWd) (sc := defScope sWds) (by decide +kernel)) (fun _ _ _ _ _ => pg_name (i := 2) scWds.nd rfl (Or.inl rfl)) (fun _ _ _ _ _ => pts_nil)
        (fun _ _ _ _ _ => pe_call GP hr rfl mP kP bP .nil pass0 (pa_cons (pv 0) (pa_cons (pe_lst (pa_cons pe_str (pa_cons pe_str (pa_cons pe_str (pa_cons pe_str (pa_cons pe_str (pa_cons pe_str pa_nil))))))) pa_nil))))), ?_⟩
  refine ⟨_, rfl, n, rfl, by omega, by omega, fun D hD => ?_⟩
  have nD := hd.new hD
  refine lc_inv n (by omega) (fun i acc H' => Aft H H' d ∧ DrwS H' d sa ∧ ∃ us : List Str, acc = us.map V.str ∧ us.length = i ∧ ∀ z ∈ us, z ∈ PK6)
    ⟨Aft.of (Same.new hD _), hd.upd nD.1 nD.2, [], rfl, rfl, fun z hz => (nomatch hz)⟩
    (fun i acc H5 Ny Nx hi hacc ⟨a5, d5, us, ea, hul, hum⟩ qy qx => ?_) (fun acc H5 hacc ⟨a5, d5, us, ea, hul, hum⟩ => ?_)
  · refine ⟨hi, fun x H6 yl => ?_⟩
    obtain ⟨e6, ex⟩ := yl
    subst H6
    refine ⟨rfl, _, rfl, (by show 6 ≤ sizeLine; decide), fun p5 hp5 => ?_⟩
    have s6 := Same.new hp5 (.lst (PK6.map V.str))
    have h6 : LsH (upd H5 p5 (.lst (PK6.map V.str))) p5 PK6 := ⟨upd_same, pk6, by decide⟩
    have d6 := d5.same s6
    have hacc6 := s6 _ _ hacc
    refine ⟨d, sa, p5, PK6.map V.str, rfl, d6, SqL.of h6.at_, h6.ne d6, (by decide), fun j x1 H7 hx1 a7 d7 => ?_⟩
    obtain ⟨z, rfl, hz⟩ : ∃ z, x1 = .str z ∧ z ∈ PK6 := by
      rw [List.getElem?_map] at hx1
      cases e : PK6[j]? with
      | none => rw [e] at hx1; cases hx1
      | some z =>
        rw [e] at hx1
        cases hx1
        exact ⟨z, rfl, List.mem_of_getElem? e⟩
    have hacc7 := a7 _ _ nD.1 hacc6
    refine qy _ _ hacc7 ⟨Aft.acc hD ((a5.trans (Aft.of s6)).trans a7), d7.upd nD.1 nD.2, us ++ [z], by rw [ea, List.map_append]; rfl, by rw [List.length_append, hul]; rfl, fun y hy => ?_⟩
    rcases List.mem_append.mp hy with h | h
    · exact hum y h
    · cases List.mem_singleton.mp h
      exact hz
  · refine ⟨by show (n : Int).toNat ≤ n; omega, ?_⟩
    subst ea
    exact q H5 D us a5 d5 hD ⟨hacc, fun z hz => pk6 z (hum z hz), by omega⟩ hul hum
abbrev sLE : Stmt := tp 39
abbrev NE : List Str := ["draw", "many", "first"]
theorem scLE : FnScope NE ["draw", "many"] (defScope sLE) := ⟨rfl, rfl, rfl, by decide +kernel, rfl, by decide +kernel, by decide +kernel⟩
/-- an edit that the law draws -/
structure DrE (e : Ed) (n : Nat) : Prop where
  le : e.b ≤ n
  few : e.ws.length ≤ 2
  pk : ∀ x ∈ e.ws, x ∈ PK6
def spLE (K : PySem.W.Frag) (CE : Addr) : Sp := fun vs H Q _ => ∃ (d sa : Addr) (n : Nat), vs = [.ref d, .int n] ∧ DrwS H d sa ∧ n ≤ 100 ∧
  ∀ H' x e, Aft H H' d → DrwS H' d sa → EdH K CE H' x e → DrE e n → Q (.ref x) H'
theorem ok_le {f fN fW fI : Addr} {fd fdN fdW fdI : FuncData} (F : Fun K "_law_edit" "_law_edit" sLE f fd) (mMin : mg "min" = none) (J : MkE P w K mg base CE fI fdI)
    (GN : FnOk P w K mg base CX0 3 fN fdN ["draw", "bound"] spNext) (bN : Binds K fdN ["draw", "bound"] []) (kN : PySem.W.keepIn K (.ref fN) = true) (mN : mg "_law_next" = some (.ref fN))
    (GW : FnOk P w K mg base CX0 5 fW fdW ["draw", "many"] spWds) (bW : Binds K fdW ["draw", "many"] []) (kW : PySem.W.keepIn K (.ref fW) = true) (mW : mg "_law_words" = some (.ref fW)) : FnOk P w K mg base CX0 6 f fd ["draw", "many"] (spLE K CE) := by
  refine F.ok scLE (fun vs H Q E h => ?_) (fun cdv A outer s H vs Q E hr h => ?_)
  · obtain ⟨_, _, _, rfl, _⟩ := h
    rfl
  obtain ⟨d, sa, n, rfl, hd, hn, q⟩ := h
  have hr3 := hr.mono (show 3 ≤ 5 by decide)
  refine ⟨_, pss_cons (ps_set (i := 2) scLE.nd rfl (Or.inl rfl) (pe_call GN hr3 rfl mN kN bN .nil pass0 (pa_cons (pv 0) (pa_cons (pe_op op_add (pv 1) pe_int) pa_nil))))
    (pss_one (ps_ret (pe_make J.M J.F hr rfl J.m J.b .nil pass0 (pa_cons (pv 2) (pa_cons (pe_op op_add (pv 2) (pe_call GN hr3 rfl mN kN bN .nil pass0 (pa_cons (pv 0) (pa_cons (pe_op op_add
        (pe_callB (call_min2 rfl) rfl mMin (by decide +kernel) (pa_cons (pe_op op_sub (pv 1) (pv 2)) (pa_cons pe_int pa_nil))) pe_int) pa_nil))))
      (pa_cons (pe_call GW hr rfl mW kW bW .nil pass0 (pa_cons (pv 0) (pa_cons (pe_call GN hr3 rfl mN kN bN .nil pass0 (pa_cons (pv 0) (pa_cons pe_int pa_nil))) pa_nil))) pa_nil)))))), ?_⟩
  refine ⟨_, rfl, _, rfl, _, _, rfl, rfl, d, sa, _, rfl, hd, by omega, fun r1 H1 r10 r11 a1 d1 => ?_⟩
  obtain ⟨na, rfl⟩ : ∃ k : Nat, r1 = k := ⟨r1.toNat, by omega⟩
  refine ⟨_, rfl, _, rfl, _, rfl, _, rfl, _, rfl, _, _, rfl, rfl, _, _, rfl, ?_⟩
  obtain ⟨m, hm, hm1, hm2⟩ : ∃ m : Nat, (if (3 : Int) < (n : Int) - (na : Int) then (3 : Int) else (n : Int) - (na : Int)) = (m : Int) ∧ m ≤ 3 ∧ m + na ≤ n := by
    by_cases c : (3 : Int) < (n : Int) - (na : Int)
    · exact ⟨3, if_pos c, Nat.le_refl _, by omega⟩
    · exact ⟨n - na, by rw [if_neg c]; omega, by omega, by omega⟩
  refine ⟨_, _, rfl, rfl, d, sa, (m : Int) + 1, by show [V.ref d, V.int _] = _; rw [← hm], d1, by omega, fun r2 H2 r20 r21 a2 d2 => ?_⟩
  obtain ⟨nb, rfl⟩ : ∃ k : Nat, r2 = k := ⟨r2.toNat, by omega⟩
  refine ⟨_, _, rfl, rfl, _, rfl, _, rfl, d, sa, 3, rfl, d2, by decide, fun r3 H3 r30 r31 a3 d3 => ?_⟩
  obtain ⟨nc, rfl⟩ : ∃ k : Nat, r3 = k := ⟨r3.toNat, by omega⟩
  refine ⟨d, sa, nc, rfl, d3, by omega, fun H4 l ws a4 d4 hl4 hw4 hlen hpk => ?_⟩
  have ok : (⟨na, na + nb, ws⟩ : Ed).Ok := ⟨by show na ≤ na + nb; omega, hw4.mrk, by show ws.length ≤ 200; omega, by show na + nb ≤ 400; omega⟩
  exact mk_edI (e := ⟨na, na + nb, ws⟩) rfl (by show (na : Int) + (nb : Int) = ((na + nb : Nat) : Int); omega) (.inl (SqL.of hw4.at_)) ok fun H' x s8 hx hE => q H' x _ (((a1.trans a2).trans (a3.trans a4)).trans (Aft.of s8)) (d4.same s8) hE ⟨by show na + nb ≤ n; omega, by show ws.length ≤ 2; omega, hpk⟩
end
end P5

end
section
set_option Elab.async false
set_option linter.all false
set_option maxRecDepth 100000
set_option maxHeartbeats 4000000
namespace P5
open PySem PySem.Spec PyProof.Rows L2
/-! ### rows of edits and changes, as plain mathematics -/
/-- edits one behind the other -/
def done (es : List Ed) (l : List Str) : List Str := es.foldl (fun l e => app e l) l
/-- changes ascending and apart, from a place on: behind the place if tight -/
inductive Apt : Bool → Nat → List Ed → Prop
  | nil {t : Bool} {s : Nat} : Apt t s []
  | cons {t : Bool} {s : Nat} {e : Ed} {C : List Ed} : s ≤ e.a → (t = true → s < e.a) → e.a ≤ e.b → (e.a < e.b ∨ e.ws ≠ []) → Apt true e.b C → Apt t s (e :: C)
/-- the words from a place on, behind changes -/
def apC : List Ed → Nat → List Str → List Str
  | [], _, l => l
  | e :: C, s, l => l.take (e.a - s) ++ (e.ws ++ apC C e.b (l.drop (e.b - s)))
/-- where changes end -/
def endC (s : Nat) (C : List Ed) : Nat := C.foldl (fun _ e => e.b) s
theorem endC_cons {s : Nat} {e : Ed} {C : List Ed} : endC s (e :: C) = endC e.b C := rfl
theorem Apt.loose {t : Bool} {s : Nat} {C : List Ed} (h : Apt t s C) : Apt false s C := by
  cases h with
  | nil => exact .nil
  | cons h1 h2 h3 h4 h5 => exact .cons h1 (fun z => nomatch z) h3 h4 h5
theorem Apt.next {s : Nat} {C : List Ed} (h : Apt true s C) : Apt false (s + 1) C := by
  cases h with
  | nil => exact .nil
  | cons h1 h2 h3 h4 h5 => exact .cons (h2 rfl) (fun z => nomatch z) h3 h4 h5
theorem Apt.le_end : ∀ {C : List Ed} {t : Bool} {s : Nat}, Apt t s C → s ≤ endC s C
  | [], _, _, _ => Nat.le_refl _
  | e :: C, _, _, .cons h1 _ h3 _ h5 => by
    rw [endC_cons]
    have := h5.le_end
    omega
theorem endC_any {C : List Ed} {s s' : Nat} (h : C ≠ []) : endC s C = endC s' C := by
  cases C with
  | nil => exact absurd rfl h
  | cons e C => rfl
theorem apC_next {C : List Ed} {s : Nat} {x : Str} {l : List Str} (h : Apt true s C) : apC C s (x :: l) = x :: apC C (s + 1) l := by
  cases h with
  | nil => rfl
  | @cons _ _ e C h1 h2 h3 h4 h5 =>
    have := h2 rfl
    show (x :: l).take (e.a - s) ++ (e.ws ++ apC C e.b ((x :: l).drop (e.b - s))) = x :: (l.take (e.a - (s + 1)) ++ (e.ws ++ apC C e.b (l.drop (e.b - (s + 1)))))
    rw [show e.a - s = (e.a - (s + 1)) + 1 from by omega, show e.b - s = (e.b - (s + 1)) + 1 from by omega]
    rfl
/-- what stands behind changes comes of the words, or was put in -/
theorem apC_mem : ∀ {C : List Ed} {s : Nat} {l : List Str} {x : Str}, x ∈ apC C s l → x ∈ l ∨ ∃ e ∈ C, x ∈ e.ws
  | [], _, _, _, h => .inl h
  | e :: C, s, l, x, h => by
    rcases List.mem_append.mp h with h | h
    · exact .inl (List.mem_of_mem_take h)
    · rcases List.mem_append.mp h with h | h
      · exact .inr ⟨e, List.mem_cons_self, h⟩
      · rcases apC_mem h with h | ⟨e', h1, h2⟩
        · exact .inl (List.mem_of_mem_drop h)
        · exact .inr ⟨e', List.mem_cons_of_mem _ h1, h2⟩
/-- words of which none is among the other ones -/
def Free (C : List Ed) (l : List Str) : Prop := ∀ e ∈ C, ∀ x ∈ e.ws, x ∉ l
theorem Free.tail {e : Ed} {C : List Ed} {l l' : List Str} (h : Free (e :: C) l) (hs : ∀ x ∈ l', x ∈ l) : Free C l' := fun e' he x hx z => h e' (List.mem_cons_of_mem _ he) x hx (hs x z)
theorem Free.sub {C : List Ed} {l l' : List Str} (h : Free C l) (hs : ∀ x ∈ l', x ∈ l) : Free C l' := fun e he x hx z => h e he x hx (hs x z)
/-- behind a change, the words go on with a kept one, or end -/
theorem apC_tight {C : List Ed} {s : Nat} {l : List Str} (h : Apt true s C) (he : endC s C ≤ s + l.length) : (l = [] ∧ C = [] ∧ apC C s l = []) ∨ ∃ x l', l = x :: l' ∧ apC C s l = x :: apC C (s + 1) l' := by
  cases l with
  | nil =>
    left
    cases h with
    | nil => exact ⟨rfl, rfl, rfl⟩
    | @cons _ _ e C h1 h2 h3 h4 h5 =>
      have := h2 rfl
      have := h5.le_end
      rw [endC_cons] at he
      simp at he
      omega
  | cons x l' => exact .inr ⟨x, l', rfl, apC_next h⟩
/-- what was put in ahead of a kept word, or of the end, is told by the whole -/
theorem split_free {ws ws' R R' l : List Str} (h : ws ++ R = ws' ++ R') (f : ∀ x ∈ ws, x ∉ l) (f' : ∀ x ∈ ws', x ∉ l) (hR : R = [] ∨ ∃ x r, R = x :: r ∧ x ∈ l) (hR' : R' = [] ∨ ∃ x r, R' = x :: r ∧ x ∈ l) : ws = ws' ∧ R = R' := by
  induction ws generalizing ws' with
  | nil =>
    cases ws' with
    | nil => exact ⟨rfl, h⟩
    | cons y ys =>
      exfalso
      rcases hR with e | ⟨x, r, e, hx⟩
      · rw [e] at h
        cases h
      · rw [e] at h
        cases h
        exact f' y List.mem_cons_self hx
  | cons z zs ih =>
    cases ws' with
    | nil =>
      exfalso
      rcases hR' with e | ⟨x, r, e, hx⟩
      · rw [e] at h
        cases h
      · rw [e] at h
        cases h
        exact f z List.mem_cons_self hx
    | cons y ys =>
      have h1 : z = y := (List.cons.inj h).1
      obtain ⟨a, b⟩ := ih (ws' := ys) (List.cons.inj h).2 (fun x hx => f x (List.mem_cons_of_mem _ hx)) (fun x hx => f' x (List.mem_cons_of_mem _ hx))
      exact ⟨by rw [h1, a], b⟩
/-- changes are told by what they do to words that are all different -/
theorem apC_inj : ∀ (n : Nat) {l : List Str} {C C' : List Ed} {s : Nat}, l.length = n → Apt false s C → Apt false s C' → endC s C ≤ s + l.length → endC s C' ≤ s + l.length → l.Nodup → Free C l → Free C' l → apC C s l = apC C' s l → C = C' := by
  intro n
  induction n using Nat.strongRecOn with
  | ind n ih =>
    intro l C C' s hn hA hA' hE hE' hd hf hf' h
    -- a change that begins here
    have here : ∀ {C : List Ed}, Apt false s C → (∃ e D, C = e :: D ∧ e.a = s ∧ s ≤ e.b ∧ (s < e.b ∨ e.ws ≠ []) ∧ Apt true e.b D) ∨ Apt true s C := fun {C} hA => by
      cases hA with
      | nil => exact .inr .nil
      | @cons _ _ e D h1 h2 h3 h4 h5 =>
        by_cases z : e.a = s
        · exact .inl ⟨e, D, rfl, z, by omega, by rw [← z]; exact h4, h5⟩
        · exact .inr (.cons h1 (fun _ => by omega) h3 h4 h5)
    have start : ∀ {e : Ed} {D : List Ed}, e.a = s → apC (e :: D) s l = e.ws ++ apC D e.b (l.drop (e.b - s)) := fun {e D} z => by
      show l.take (e.a - s) ++ _ = _
      rw [z, Nat.sub_self, List.take_zero, List.nil_append]
    have tightR : ∀ {e : Ed} {D : List Ed}, Apt true e.b D → s ≤ e.b → endC e.b D ≤ s + l.length → (apC D e.b (l.drop (e.b - s)) = [] ∨ ∃ x r, apC D e.b (l.drop (e.b - s)) = x :: r ∧ x ∈ l) := fun {e D} h5 hb hE => by
      have hz := h5.le_end
      rcases apC_tight (l := l.drop (e.b - s)) h5 (by rw [List.length_drop]; omega) with ⟨_, _, z⟩ | ⟨x, l', e1, e2⟩
      · exact .inl z
      · exact .inr ⟨x, _, e2, List.mem_of_mem_drop (by rw [e1]; exact List.mem_cons_self)⟩
    -- one begins here, the other does not
    have half : ∀ {C C' : List Ed}, apC C s l = apC C' s l → Free C l → endC s C ≤ s + l.length → endC s C' ≤ s + l.length → (∃ e D, C = e :: D ∧ e.a = s ∧ s ≤ e.b ∧ (s < e.b ∨ e.ws ≠ []) ∧ Apt true e.b D) → Apt true s C' → False := fun {C C'} h hf hE hE' hC hC' => by
      obtain ⟨e, D, rfl, ea, hb, hne, h5⟩ := hC
      rw [start ea] at h
      rcases apC_tight hC' hE' with ⟨l0, _, e2⟩ | ⟨x, l', e1, e2⟩
      · rw [e2] at h
        have hz := h5.le_end
        rw [endC_cons] at hE
        rw [l0] at hE
        simp at hE
        have : e.b = s := by omega
        rcases hne with z | z
        · omega
        · exact z (List.append_eq_nil_iff.mp h).1
      · rw [e2] at h
        have hx : x ∈ l := by rw [e1]; exact List.mem_cons_self
        cases hw : e.ws with
        | cons y ys =>
          rw [hw] at h
          have : y = x := (List.cons.inj h).1
          exact hf e List.mem_cons_self y (by rw [hw]; exact List.mem_cons_self) (by rw [this]; exact hx)
        | nil =>
          rw [hw, List.nil_append] at h
          have hlt : s < e.b := hne.resolve_right fun z => z hw
          have hm : x ∈ apC D e.b (l.drop (e.b - s)) := by rw [h]; exact List.mem_cons_self
          rcases apC_mem hm with z | ⟨e', h1, h2⟩
          · rw [e1, show e.b - s = (e.b - s - 1) + 1 from by omega] at z
            rw [e1] at hd
            exact (List.nodup_cons.mp hd).1 (List.mem_of_mem_drop (by simpa using z))
          · exact hf e' (List.mem_cons_of_mem _ h1) x h2 hx
    rcases here hA with hC | hC
    · rcases here hA' with hC' | hC'
      · obtain ⟨e, D, rfl, ea, hb, hne, h5⟩ := hC
        obtain ⟨e', D', rfl, ea', hb', hne', h5'⟩ := hC'
        rw [start ea, start ea'] at h
        rw [endC_cons] at hE hE'
        obtain ⟨hw, hR⟩ := split_free h (hf e List.mem_cons_self) (hf' e' List.mem_cons_self) (tightR h5 hb hE) (tightR h5' hb' hE')
        have z1 := h5.le_end
        have z2 := h5'.le_end
        have hbb : e.b = e'.b := by
          rcases apC_tight (l := l.drop (e.b - s)) h5 (by rw [List.length_drop]; omega) with ⟨l0, _, e2⟩ | ⟨x, l', e1, e2⟩
          · rcases apC_tight (l := l.drop (e'.b - s)) h5' (by rw [List.length_drop]; omega) with ⟨l0', _, e2'⟩ | ⟨x', l1', e1', e2'⟩
            · have a1 := congrArg List.length l0
              have a2 := congrArg List.length l0'
              rw [List.length_drop, List.length_nil] at a1 a2
              omega
            · rw [e2, e2'] at hR
              cases hR
          · rcases apC_tight (l := l.drop (e'.b - s)) h5' (by rw [List.length_drop]; omega) with ⟨l0', _, e2'⟩ | ⟨x', l1', e1', e2'⟩
            · rw [e2, e2'] at hR
              cases hR
            · rw [e2, e2'] at hR
              have ex : x = x' := (List.cons.inj hR).1
              have g1 : l[e.b - s]? = some x := by
                have := congrArg (fun q => q[0]?) e1
                simpa using this
              have g2 : l[e'.b - s]? = some x := by
                have := congrArg (fun q => q[0]?) e1'
                rw [ex]
                simpa using this
              have i1 : e.b - s < l.length := by
                have := congrArg List.length e1
                rw [List.length_drop] at this
                simp at this
                omega
              have i2 : e'.b - s < l.length := by
                have := congrArg List.length e1'
                rw [List.length_drop] at this
                simp at this
                omega
              rw [List.getElem?_eq_getElem i1] at g1
              rw [List.getElem?_eq_getElem i2] at g2
              have := (List.getElem_inj hd).mp ((Option.some.inj g1).trans (Option.some.inj g2).symm)
              omega
        have he : e = e' := by
          obtain ⟨a1, b1, w1⟩ := e
          obtain ⟨a2, b2, w2⟩ := e'
          simp only at ea ea' hw hbb
          subst ea
          rw [← ea', hw, hbb]
        subst he
        congr 1
        rcases apC_tight (l := l.drop (e.b - s)) h5 (by rw [List.length_drop]; omega) with ⟨l0, c0, _⟩ | ⟨x, l', e1, e2⟩
        · rcases apC_tight (l := l.drop (e.b - s)) h5' (by rw [List.length_drop]; omega) with ⟨_, c0', _⟩ | ⟨x', l1', e1', _⟩
          · rw [c0, c0']
          · rw [l0] at e1'
            cases e1'
        · rw [e1, apC_next h5, apC_next h5'] at hR
          have hl' : l'.length < n := by
            have := congrArg List.length e1
            rw [List.length_drop] at this
            simp at this
            omega
          have hsub : ∀ y ∈ l', y ∈ l := fun y hy => List.mem_of_mem_drop (by rw [e1]; exact List.mem_cons_of_mem _ hy)
          have hle : e.b + 1 + l'.length = s + l.length := by
            have := congrArg List.length e1
            rw [List.length_drop] at this
            simp at this
            omega
          have hnd : l'.Nodup := by
            have := List.Nodup.sublist (List.drop_sublist (e.b - s) l) hd
            rw [e1] at this
            exact (List.nodup_cons.mp this).2
          have en : ∀ {D : List Ed}, Apt true e.b D → endC e.b D ≤ s + l.length → endC (e.b + 1) D ≤ e.b + 1 + l'.length := fun {D} hD hq => by
            cases D with
            | nil => exact Nat.le_add_right _ _
            | cons d D => rw [hle]; exact hq
          exact ih l'.length hl' rfl h5.next h5'.next (en h5 hE) (en h5' hE') hnd (hf.tail hsub) (hf'.tail hsub) (List.cons.inj hR).2
      · exact (half h hf hE hE' hC hC').elim
    · rcases here hA' with hC' | hC'
      · exact (half h.symm hf' hE' hE hC' hC).elim
      · rcases apC_tight hC hE with ⟨l0, c0, _⟩ | ⟨x, l', e1, e2⟩
        · rcases apC_tight hC' hE' with ⟨_, c0', _⟩ | ⟨x', l1', e1', _⟩
          · rw [c0, c0']
          · rw [l0] at e1'
            cases e1'
        · subst e1
          rw [apC_next hC, apC_next hC'] at h
          have en : ∀ {D : List Ed}, endC s D ≤ s + (x :: l').length → endC (s + 1) D ≤ s + 1 + l'.length := fun {D} hq => by
            cases D with
            | nil => exact Nat.le_add_right _ _
            | cons d D =>
              have : endC s (d :: D) ≤ s + (x :: l').length := hq
              rw [endC_cons] at this ⊢
              simp at this
              omega
          exact ih l'.length (by rw [← hn]; simp) rfl hC.next hC'.next (en hE) (en hE') (List.nodup_cons.mp hd).2 (hf.sub fun y hy => List.mem_cons_of_mem _ hy) (hf'.sub fun y hy => List.mem_cons_of_mem _ hy) (List.cons.inj h).2
end P5

end
section
set_option Elab.async false
set_option linter.all false
set_option maxRecDepth 100000
set_option maxHeartbeats 4000000
namespace P5
open PySem PySem.Spec PyProof.Rows L2
/-! ### how many changes there are is told by the places of what stands behind them -/
/-- the places from one on, so many -/
def plR : Nat → Nat → List Int
  | _, 0 => []
  | s, r + 1 => (s : Int) :: plR (s + 1) r
def plC : List Ed → Nat → Nat → List Int
  | [], s, r => plR s r
  | e :: C, s, r => plR s (e.a - s) ++ (List.replicate e.ws.length (-1) ++ plC C e.b (r - (e.b - s)))
/-- the gaps: what comes behind a kept place (the next one is due), or behind what was put in -/
def cnt : Option Nat → List Int → Nat
  | _, [] => 0
  | some E, p :: r => if p < 0 then 1 + cnt none r else (if p = (E : Int) then 0 else 1) + cnt (some (p.toNat + 1)) r
  | none, p :: r => if p < 0 then cnt none r else cnt (some (p.toNat + 1)) r
theorem cnt_range : ∀ (k s : Nat) (L : List Int), cnt (some s) (plR s k ++ L) = cnt (some (s + k)) L
  | 0, s, L => rfl
  | k + 1, s, L => by
    show cnt (some s) ((s : Int) :: (plR (s + 1) k ++ L)) = _
    rw [cnt, if_neg (by omega), if_pos rfl, Int.toNat_natCast, Nat.zero_add, cnt_range k (s + 1) L, show s + 1 + k = s + (k + 1) from by omega]
theorem cnt_put : ∀ (k : Nat) (L : List Int), cnt none (List.replicate k (-1) ++ L) = cnt none L
  | 0, L => rfl
  | k + 1, L => by
    show cnt none ((-1 : Int) :: (List.replicate k (-1) ++ L)) = _
    rw [cnt]
    rw [if_pos (by decide), cnt_put k L]
theorem plC_next {C : List Ed} {s r : Nat} (h : Apt true s C) : plC C s (r + 1) = (s : Int) :: plC C (s + 1) r := by
  cases h with
  | nil => rfl
  | @cons _ _ e C h1 h2 h3 h4 h5 =>
    have := h2 rfl
    show plR s (e.a - s) ++ (List.replicate e.ws.length (-1) ++ plC C e.b (r + 1 - (e.b - s))) = (s : Int) :: (plR (s + 1) (e.a - (s + 1)) ++ (List.replicate e.ws.length (-1) ++ plC C e.b (r - (e.b - (s + 1)))))
    rw [show e.a - s = (e.a - (s + 1)) + 1 from by omega, show r + 1 - (e.b - s) = r - (e.b - (s + 1)) from by omega]
    rfl
theorem cnt_C : ∀ {C : List Ed} {s r : Nat}, Apt false s C → (C = [] ∨ endC s C < s + r) → cnt (some s) (plC C s r) = C.length
  | [], s, r, _, _ => by
    have z := cnt_range r s []
    rw [List.append_nil] at z
    show cnt (some s) (plR s r) = 0
    rw [z]
    rfl
  | e :: C, s, r, .cons h1 _ h3 h4 h5, hE => by
    have hE' : endC e.b C < s + r := hE.resolve_left (fun z => nomatch z)
    have hz := h5.le_end
    show cnt (some s) (plR s (e.a - s) ++ (List.replicate e.ws.length (-1) ++ plC C e.b (r - (e.b - s)))) = C.length + 1
    rw [cnt_range, show s + (e.a - s) = e.a from by omega]
    obtain ⟨r', hr⟩ : ∃ r', r - (e.b - s) = r' + 1 := ⟨r - (e.b - s) - 1, by omega⟩
    rw [hr, plC_next h5]
    have ih := cnt_C (r := r') h5.next (by
      cases C with
      | nil => exact .inl rfl
      | cons d D => exact .inr (by rw [endC_cons] at hE' ⊢; omega))
    cases hw : e.ws with
    | cons y ys =>
      show cnt (some e.a) ((-1 : Int) :: (List.replicate ys.length (-1) ++ ((e.b : Int) :: plC C (e.b + 1) r'))) = _
      rw [cnt, if_pos (by decide), cnt_put, cnt, if_neg (by omega), Int.toNat_natCast, ih]
      omega
    | nil =>
      have hlt : e.a < e.b := h4.resolve_right fun z => z hw
      show cnt (some e.a) ((e.b : Int) :: plC C (e.b + 1) r') = _
      rw [cnt, if_neg (by omega), if_neg (by omega), Int.toNat_natCast, ih]
      omega
/-- where a word stands among others, or -1 -/
def plW (M : List Str) (x : Str) : Int := if x ∈ M then (M.idxOf x : Int) else -1
theorem idx_at {M : List Str} (hd : M.Nodup) {i : Nat} {x : Str} (h : M[i]? = some x) : plW M x = i := by
  have hi : i < M.length := by
    by_cases z : i < M.length
    · exact z
    · rw [List.getElem?_eq_none (by omega)] at h
      cases h
  have hx : x ∈ M := List.mem_of_getElem? h
  unfold plW
  rw [if_pos hx]
  have h1 : M.idxOf x < M.length := List.idxOf_lt_length_iff.mpr hx
  have h2 : M[M.idxOf x] = x := by simp
  rw [List.getElem?_eq_getElem hi] at h
  have := (List.getElem_inj hd (h₀ := h1) (h₁ := hi)).mp (h2.trans (Option.some.inj h).symm)
  omega
theorem plW_take {M : List Str} (hd : M.Nodup) : ∀ (k s : Nat), s + k ≤ M.length → ((M.drop s).take k).map (plW M) = plR s k
  | 0, s, _ => rfl
  | k + 1, s, h => by
    have hs : s < M.length := by omega
    rw [List.drop_eq_getElem_cons hs, List.take_succ_cons, List.map_cons, plW_take hd k (s + 1) (by omega), idx_at hd (List.getElem?_eq_getElem hs)]
    rfl
theorem plW_put {M ws : List Str} (h : ∀ x ∈ ws, x ∉ M) : ws.map (plW M) = List.replicate ws.length (-1) := by
  rw [List.eq_replicate_iff]
  refine ⟨List.length_map .., fun b hb => ?_⟩
  obtain ⟨x, hx, e⟩ := List.mem_map.mp hb
  rw [← e]
  exact if_neg (h x hx)
theorem plW_C {M : List Str} (hd : M.Nodup) : ∀ {C : List Ed} {t : Bool} {s : Nat}, Apt t s C → endC s C ≤ M.length → s ≤ M.length → Free C M → (apC C s (M.drop s)).map (plW M) = plC C s (M.length - s)
  | [], _, s, _, _, hs, _ => by
    have z := plW_take hd (M.length - s) s (by omega)
    rw [List.take_of_length_le (by rw [List.length_drop]; omega)] at z
    exact z
  | e :: C, _, s, .cons h1 _ h3 h4 h5, hE, hs, hf => by
    have hz := h5.le_end
    rw [endC_cons] at hE
    show ((M.drop s).take (e.a - s) ++ (e.ws ++ apC C e.b ((M.drop s).drop (e.b - s)))).map (plW M) = _
    rw [List.map_append, List.map_append, plW_take hd _ _ (by omega), plW_put (hf e List.mem_cons_self), List.drop_drop, show s + (e.b - s) = e.b from by omega,
      plW_C hd h5 hE (by omega) (fun e' he => hf e' (List.mem_cons_of_mem _ he))]
    show _ = plR s (e.a - s) ++ (List.replicate e.ws.length (-1) ++ plC C e.b (M.length - s - (e.b - s)))
    rw [show M.length - s - (e.b - s) = M.length - e.b from by omega]
end P5

end
section
set_option Elab.async false
set_option linter.all false
set_option maxRecDepth 100000
set_option maxHeartbeats 4000000
namespace P5
open PySem PySem.Spec PyProof.Rows L2
/-! ### rows of edits in the heap -/
def EdsH (K : PySem.W.Frag) (CE : Addr) (H : Hp) : List Addr → List Ed → Prop
  | [], [] => True
  | c :: cs, e :: es => EdH K CE H c e ∧ EdsH K CE H cs es
  | _, _ => False
theorem EdsH.imp {K : PySem.W.Frag} {CE : Addr} {H H' : Hp} (f : ∀ c e, EdH K CE H c e → EdH K CE H' c e) : ∀ {cs : List Addr} {es : List Ed}, EdsH K CE H cs es → EdsH K CE H' cs es
  | [], [], _ => trivial
  | c :: cs, e :: es, h => ⟨f c e h.1, EdsH.imp f h.2⟩
  | [], e :: es, h => h.elim
  | c :: cs, [], h => h.elim
theorem EdsH.len {K : PySem.W.Frag} {CE : Addr} {H : Hp} : ∀ {cs : List Addr} {es : List Ed}, EdsH K CE H cs es → cs.length = es.length
  | [], [], _ => rfl
  | c :: cs, e :: es, h => congrArg (· + 1) (EdsH.len h.2)
  | [], e :: es, h => h.elim
  | c :: cs, [], h => h.elim
theorem EdsH.get {K : PySem.W.Frag} {CE : Addr} {H : Hp} : ∀ {cs : List Addr} {es : List Ed} {i : Nat} {c : Addr}, EdsH K CE H cs es → cs[i]? = some c → ∃ e, es[i]? = some e ∧ EdH K CE H c e
  | c :: cs, e :: es, 0, _, h, q => by
    cases q
    exact ⟨e, rfl, h.1⟩
  | c :: cs, e :: es, i + 1, c', h, q => by
    obtain ⟨e', h1, h2⟩ := EdsH.get (i := i) h.2 (by simpa using q)
    exact ⟨e', by simpa using h1, h2⟩
  | [], [], i, _, _, q => by simp at q
  | [], e :: es, _, _, h, _ => h.elim
  | c :: cs, [], _, _, h, _ => h.elim
theorem EdsH.snoc {K : PySem.W.Frag} {CE : Addr} {H : Hp} {c : Addr} {e : Ed} (hc : EdH K CE H c e) : ∀ {cs : List Addr} {es : List Ed}, EdsH K CE H cs es → EdsH K CE H (cs ++ [c]) (es ++ [e])
  | [], [], _ => ⟨hc, trivial⟩
  | a :: cs, b :: es, h => ⟨h.1, EdsH.snoc hc h.2⟩
  | [], b :: es, h => h.elim
  | a :: cs, [], h => h.elim
/-- how many words there are behind edits -/
def siz : List Ed → Nat → Nat
  | [], n => n
  | e :: es, n => siz es (n + e.ws.length - (e.b - e.a))
/-- whether edits can be done on so many words -/
def Fits : List Ed → Nat → Prop
  | [], _ => True
  | e :: es, n => e.b ≤ n ∧ Fits es (n + e.ws.length - (e.b - e.a))
theorem Fits.snoc : ∀ {es : List Ed} {n : Nat} {e : Ed}, Fits es n → e.b ≤ siz es n → Fits (es ++ [e]) n
  | [], n, e, _, h => ⟨h, trivial⟩
  | d :: es, n, e, h, q => ⟨h.1, h.2.snoc q⟩
theorem siz_snoc : ∀ (es : List Ed) (n : Nat) (e : Ed), siz (es ++ [e]) n = siz es n + e.ws.length - (e.b - e.a)
  | [], n, e => rfl
  | d :: es, n, e => siz_snoc es _ e
theorem done_snoc (es : List Ed) (e : Ed) (l : List Str) : done (es ++ [e]) l = app e (done es l) := by
  unfold done
  rw [List.foldl_append]
  rfl
theorem app_len {e : Ed} {l : List Str} (h : e.b ≤ l.length) (h2 : e.a ≤ e.b) : (app e l).length + e.b = l.length + e.a + e.ws.length := by
  unfold app
  rw [List.length_append, List.length_append, List.length_take, List.length_drop]
  omega
theorem app_mrk {e : Ed} {l : List Str} (h1 : ∀ x ∈ e.ws, x ∈ MRK) (h2 : ∀ x ∈ l, x ∈ MRK) : ∀ x ∈ app e l, x ∈ MRK := fun x hx => by
  unfold app at hx
  rcases List.mem_append.mp hx with h | h
  · rcases List.mem_append.mp h with h | h
    · exact h2 x (List.mem_of_mem_take h)
    · exact h1 x h
  · exact h2 x (List.mem_of_mem_drop h)
theorem app_siz {e : Ed} {l : List Str} (h : e.b ≤ l.length) (h2 : e.a ≤ e.b) : (app e l).length = l.length + e.ws.length - (e.b - e.a) := by
  have := app_len h h2
  omega
theorem refs_nd {cs : List Addr} : ∀ (sa : Addr) (n : Int), HO.lst (cs.map V.ref) ≠ .lst [.ref sa, .int 0, .int n] := fun sa n z => by
  cases cs with
  | nil => cases z
  | cons c r =>
    cases r with
    | nil => cases z
    | cons => cases z
theorem SqT.put {K : PySem.W.Frag} {H : Hp} {p a : Addr} {ys zs xs : List V} (hp : H p = some (.lst ys)) (h : SqT K H a xs) : SqT K (upd H p (.lst zs)) a xs := by
  rcases h with (h | ⟨o, h⟩) | h
  · exact .inl (.inl (by rw [upd_ne (fun e => by rw [e, hp] at h; cases h)]; exact h))
  · exact .inl (.inr ⟨o, by rw [upd_ne (fun e => by rw [e, hp] at h; cases h)]; exact h⟩)
  · exact .inr h
theorem EdH.put {K : PySem.W.Frag} {CE p q : Addr} {H : Hp} {e : Ed} {ys zs : List V} (hp : H p = some (.lst ys)) (h : EdH K CE H q e) : EdH K CE (upd H p (.lst zs)) q e := by
  obtain ⟨dx, t, h1, h2, h3⟩ := h
  exact ⟨dx, t, by rw [upd_ne (fun z => by rw [z, hp] at h1; cases h1)]; exact h1, SqT.put hp h2, h3⟩
theorem LsH.put {p l : Addr} {H : Hp} {ws : List Str} {o : HO} (hn : l ≠ p) (h : LsH H l ws) : LsH (upd H p o) l ws := ⟨by rw [upd_ne hn]; exact h.at_, h.mrk, h.sm⟩
/-- a method of edits -/
structure Mth (P : Program) (w : World) (K : PySem.W.Frag) (mg : Str → Option Value) (base : Heap) (CE : Addr) (m : Str) (ps : List Str) (sp : Sp) : Prop where
  ex : ∃ f fd, Meth K CE m f ∧ FnOk P w K mg base CX0 1 f fd ps sp ∧ L2.Binds K fd ps []
/-- few words in each -/
def Few (es : List Ed) : Prop := ∀ e ∈ es, e.ws.length ≤ 2 ∧ ∀ x ∈ e.ws, x ∈ PK6
section
variable {P : Program} {w : World} {K : PySem.W.Frag} {mg : Str → Option Value} {base : Heap} {aN aS CE : Addr}
abbrev sLEs : Stmt := tp 40
abbrev NEs : List Str := ["draw", "many", "turns", "found", "turn", "edit"]
theorem scLEs : FnScope NEs ["draw", "many", "turns"] (defScope sLEs) := ⟨rfl, rfl, rfl, by decide +kernel, rfl, by decide +kernel, by decide +kernel⟩
def spLEs (K : PySem.W.Frag) (CE : Addr) : Sp := fun vs H Q _ => ∃ (d sa : Addr) (n k : Nat), vs = [.ref d, .int n, .int k] ∧ DrwS H d sa ∧ n ≤ 40 ∧ k ≤ 10 ∧
  ∀ H' l cs es, Aft H H' d → DrwS H' d sa → H l = none → l ≠ d → l ≠ sa → H' l = some (.lst (cs.map V.ref)) → EdsH K CE H' cs es → es.length = k → Fits es n → Few es → siz es n ≤ n + 2 * k → Q (.ref l) H'
theorem ok_les {f fE : Addr} {fd fdE : FuncData} (F : Fun K "_law_edits" "_law_edits" sLEs f fd) (mR : mg "range" = none) (cl : EC K CE) (G : Mth P w K mg base CE "growth" ["self"] (spGrow K CE))
    (GE : FnOk P w K mg base CX0 6 fE fdE ["draw", "many"] (spLE K CE)) (bE : Binds K fdE ["draw", "many"] []) (kE : PySem.W.keepIn K (.ref fE) = true) (mE : mg "_law_edit" = some (.ref fE)) : FnOk P w K mg base CX0 7 f fd ["draw", "many", "turns"] (spLEs K CE) := by
  refine F.ok scLEs (fun vs H Q E h => ?_) (fun cdv A outer s H vs Q E hr h => ?_)
  · obtain ⟨_, _, _, _, rfl, _⟩ := h
    rfl
  obtain ⟨d, sa, n, k, rfl, hd, hn, hk, q⟩ := h
  obtain ⟨fG, fdG, MG, GG, bG⟩ := G.ex
  refine ⟨_, pss_cons (ps_set (i := 3) scLEs.nd rfl (Or.inl rfl) (pe_lst pa_nil))
    (pss_cons (ps_for PassesOwn.never rfl (pi_range1 rfl mR (pa_cons (pv 2) pa_nil)) (pg_name (i := 4) scLEs.nd rfl (Or.inl rfl))
      (pss_cons (ps_set (i := 5) scLEs.nd rfl (Or.inl rfl) (pe_call GE hr rfl mE kE bE .nil pass0 (pa_cons (pv 0) (pa_cons (pv 1) pa_nil))))
      (pss_cons (ps_expr (pe_bm PySem.F.plainAttrs_list PySem.F.slot_list_append PySem.F.type_list_append mt_append (pv 3) (pa_cons (pv 5) pa_nil)))
      (pss_one (ps_set (i := 1) scLEs.nd rfl (Or.inl rfl) (pe_op op_add (pv 1) (pe_meth0 (pv 5) cl.cl MG GG (hr.mono (by decide)) bG .nil pass0)))))))
    (pss_one (ps_ret (pv 3)))), ?_⟩
  refine ⟨(by show 0 ≤ sizeLine; decide), fun l hl => ?_⟩
  have s0 := Same.new hl (.lst [])
  have nl := hd.new hl
  refine ⟨_, rfl, k, rfl, by omega, by omega, ?_⟩
  refine for_range (n := (k : Int).toNat) (fun i σ H' => Aft H H' d ∧ DrwS H' d sa ∧ ∃ cs es v4 v5, H' l = some (.lst (cs.map V.ref)) ∧ EdsH K CE H' cs es ∧ es.length = i ∧ Fits es n ∧ Few es ∧ siz es n ≤ n + 2 * i ∧ σ = [some (.ref d), some (.int (siz es n)), some (.int k), some (.ref l), v4, v5])
    ⟨Aft.of s0, hd.same s0, [], [], none, none, upd_same, trivial, rfl, trivial, fun e he => (nomatch he), Nat.le_refl _, rfl⟩ ?_ ?_
  · rintro i σ H1 hi ⟨a1, d1, cs, es, v4, v5, hb, hes, hel, hf, hw, hz, rfl⟩
    refine ⟨_, rfl, _, rfl, d, sa, siz es n, rfl, d1, by omega, fun H2 x e a2 d2 hx hdr => ?_⟩
    have hb2 := a2 _ _ (d1.drw.ne hb refs_nd) hb
    have hes2 := hes.imp fun c e' q' => q'.aft d1 a2
    have hcl : cs.length ≤ 10 := by have := hes.len; omega
    refine ⟨_, rfl, .inl ⟨rfl, _, .inl (.inl hb2)⟩, _, rfl, l, _, .ref x, rfl, rfl, hb2, small1000 (by rw [List.length_map]; omega), ?_⟩
    have hx3 := hx.put (zs := cs.map V.ref ++ [.ref x]) hb2
    obtain ⟨dx, t, hi3, _, ho⟩ := id hx3
    refine ⟨_, rfl, _, rfl, x, dx, _, rfl, hi3, rfl, x, e, rfl, hx3, _, _, rfl, rfl, ?_⟩
    have hle := ho.le
    have hdl := hdr.le
    have hdf := hdr.few
    refine ⟨?_, d2.upd nl.1 nl.2, cs ++ [x], es ++ [e], some (.int (0 + (i : Int))), some (.ref x), by rw [upd_same, List.map_append]; rfl, EdsH.snoc hx3 (hes2.imp fun c e' q' => q'.put hb2), by rw [List.length_append, hel]; rfl, hf.snoc hdr.le, ?_, by rw [siz_snoc]; omega, ?_⟩
    · exact fun y o hy ho' => by
        rw [upd_ne (ne_of_none ho' hl)]
        exact (a1.trans a2) y o hy ho'
    · intro e' he'
      rcases List.mem_append.mp he' with h' | h'
      · exact hw e' h'
      · cases List.mem_singleton.mp h'
        exact ⟨hdr.few, hdr.pk⟩
    · rw [siz_snoc]
      have ez : ((siz es n + e.ws.length - (e.b - e.a) : Nat) : Int) = (siz es n : Int) + grow e := by
        show _ = (siz es n : Int) + ((e.ws.length : Int) - ((e.b : Int) - (e.a : Int)))
        omega
      rw [ez]
      rfl
  · rintro σ H1 ⟨a1, d1, cs, es, v4, v5, hb, hes, hel, hf, hw, hz, rfl⟩
    have hk2 : (k : Int).toNat = k := by omega
    rw [hk2] at hel hz
    exact ⟨_, rfl, q H1 l cs es a1 d1 hl nl.1 nl.2 hb hes hel hf hw hz⟩
end
end P5

end
section
set_option Elab.async false
set_option linter.all false
set_option maxRecDepth 100000
set_option maxHeartbeats 4000000
namespace P5
open PySem PySem.Spec PyProof.Rows L2
theorem LsH.same2 {H H' : Hp} {l : Addr} {ws : List Str} (s : Same H H') (h : LsH H l ws) : LsH H' l ws := h.same s
theorem few_tail {e : Ed} {es : List Ed} (h : Few (e :: es)) : Few es := fun x hx => h x (List.mem_cons_of_mem _ hx)
section
variable {P : Program} {w : World} {K : PySem.W.Frag} {mg : Str → Option Value} {base : Heap} {aN aS CE : Addr}
abbrev sDn : Stmt := tp 41
abbrev NDn : List Str := ["edits", "words", "late", "edit"]
theorem scDn : FnScope NDn ["edits", "words"] (defScope sDn) := ⟨rfl, rfl, rfl, by decide +kernel, rfl, by decide +kernel, by decide +kernel⟩
def spDn (K : PySem.W.Frag) (CE : Addr) : Sp := fun vs H Q _ => ∃ (le lw : Addr) (cs : List Addr) (es : List Ed) (ws : List Str), vs = [.ref le, .ref lw] ∧ SqL K H le (cs.map V.ref) ∧ EdsH K CE H cs es ∧ WsL K H lw ws ∧ Fits es ws.length ∧ Few es ∧ ws.length ≤ 100 ∧ es.length ≤ 20 ∧
  ∀ H' l, Same H H' → H l = none → LsH H' l (done es ws) → (done es ws).length ≤ ws.length + 2 * es.length → Q (.ref l) H'
theorem ok_dn {f : Addr} {fd : FuncData} (F : Fun K "_law_done" "_law_done" sDn f fd) (T : KC K mg aN aS) (cl : EC K CE) : FnOk P w K mg base CX0 1 f fd ["edits", "words"] (spDn K CE) := by
  refine F.ok scDn (fun vs H Q E h => ?_) (fun cdv A outer s H vs Q E hr h => ?_)
  · obtain ⟨_, _, _, _, _, rfl, _⟩ := h
    rfl
  obtain ⟨le, lw, cs, es, ws, rfl, hle, hes, hw, hf, hfew, hl1, hl2, q⟩ := h
  refine ⟨_, pss_cons (ps_set (i := 2) scDn.nd rfl (Or.inl rfl) (pe_callTy call_list_of rfl T.lst (by decide +kernel) (pa_cons (pv 1) pa_nil)))
    (pss_cons (ps_for PassesOwn.never rfl (pi_list (pv 0)) (pg_name (i := 3) scDn.nd rfl (Or.inl rfl))
      (pss_one (ps_set (i := 2) scDn.nd rfl (Or.inl rfl) (pe_op op_cat (pe_op op_cat (pe_slice (r := rSlL K) sl_list (pv 2) po_none (po_some (pe_fld (pv 3) rfl))) (pe_callTy call_list_of rfl T.lst (by decide +kernel) (pa_cons (pe_fld (pv 3) rfl) pa_nil)))
        (pe_slice (r := rSlL K) sl_list (pv 2) (po_some (pe_fld (pv 3) rfl)) po_none)))))
    (pss_one (ps_ret (pv 2)))), ?_⟩
  refine ⟨_, rfl, lw, _, rfl, .inl hw.at_, fun l0 hl0 => ?_⟩
  have s0 := Same.new hl0 (.lst (ws.map V.str))
  have h0 : LsH (upd H l0 (.lst (ws.map V.str))) l0 ws := ⟨upd_same, hw.mrk, hw.sm⟩
  generalize upd H l0 (.lst (ws.map V.str)) = H0 at *
  refine ⟨_, rfl, le, rfl, ⟨_, s0.seq hle⟩, ?_⟩
  have hcl : (cs.map V.ref).length = es.length := by rw [List.length_map]; exact hes.len
  refine for_list (xs := cs.map V.ref) (fun i σ H' => Same H0 H' ∧ ∃ lz L v3, LsH H' lz L ∧ H lz = none ∧ Fits (es.drop i) L.length ∧ done (es.drop i) L = done es ws ∧ L.length ≤ ws.length + 2 * i ∧ σ = [some (.ref le), some (.ref lw), some (.ref lz), v3])
    ⟨Same.refl _, l0, ws, none, h0, hl0, hf, rfl, by omega, rfl⟩ (fun i σ H' _ ⟨s2, _⟩ => (s0.trans s2).seq hle) ?_ ?_
  · rintro i x σ H1 hx ⟨s1, lz, L, v3, hL, hz, hF, hD, hLl, rfl⟩
    rw [List.getElem?_map] at hx
    cases ec : cs[i]? with
    | none => rw [ec] at hx; cases hx
    | some c =>
      rw [ec] at hx
      cases hx
      obtain ⟨e, hre, hE⟩ := hes.get ec
      have hi : i < es.length := by
        by_cases z : i < es.length
        · exact z
        · rw [List.getElem?_eq_none (by omega)] at hre
          cases hre
      have hem : e ∈ es := List.mem_of_getElem? hre
      have hdr : es.drop i = e :: es.drop (i + 1) := by
        rw [List.getElem?_eq_getElem hi] at hre
        rw [List.drop_eq_getElem_cons hi, Option.some.inj hre]
      rw [hdr] at hF hD
      obtain ⟨hb, hF2⟩ := hF
      obtain ⟨dx1, tt1, hp1, hS1, he⟩ := (hE.same s0).same s1
      have ha := he.le
      have hfe := (hfew e hem).1
      have LL : (L.map V.str).length = L.length := List.length_map ..
      have sz : ∀ {n : Nat}, n ≤ 1000 → n ≤ sizeLine := fun h => small_le h
      refine ⟨_, rfl, _, rfl, c, CE, dx1, _, .int e.a, rfl, hp1, cl.cl, cl.nF, rfl, e.a, rfl, lz, _, rfl, SqL.of hL.at_, fun l1 hl1 => ?_⟩
      have s2 := Same.new hl1 (.lst (cutV (L.map V.str) none (some (e.a : Int))))
      have c1 : upd H1 l1 (.lst (cutV (L.map V.str) none (some (e.a : Int)))) l1 = some (.lst ((L.take e.a).map V.str)) := by
        rw [upd_same, cut_to _ _ (by rw [LL]; omega), List.map_take]
      generalize upd H1 l1 (.lst (cutV (L.map V.str) none (some (e.a : Int)))) = H2 at *
      refine ⟨_, rfl, c, CE, dx1, _, .ref tt1, rfl, s2 _ _ hp1, cl.cl, cl.nW, rfl, tt1, _, rfl, .inr (Same.tup s2 hS1), fun l2 hl2' => ?_⟩
      have s3 := Same.new hl2' (.lst (e.ws.map V.str))
      have c2 : upd H2 l2 (.lst (e.ws.map V.str)) l2 = some (.lst (e.ws.map V.str)) := upd_same
      have c1' := s3 _ _ c1
      generalize upd H2 l2 (.lst (e.ws.map V.str)) = H3 at *
      refine ⟨l1, l2, _, _, rfl, rfl, c1', c2, sz (by rw [List.length_map, List.length_map, List.length_take]; omega), fun l3 hl3 => ?_⟩
      have s4 := Same.new hl3 (.lst ((L.take e.a).map V.str ++ e.ws.map V.str))
      have c3 : upd H3 l3 (.lst ((L.take e.a).map V.str ++ e.ws.map V.str)) l3 = some (.lst ((L.take e.a).map V.str ++ e.ws.map V.str)) := upd_same
      generalize upd H3 l3 (.lst ((L.take e.a).map V.str ++ e.ws.map V.str)) = H4 at *
      have s14 := (s2.trans s3).trans s4
      refine ⟨_, rfl, _, rfl, c, CE, dx1, _, .int e.b, rfl, s14 _ _ hp1, cl.cl, cl.nL, rfl, e.b, rfl, lz, _, rfl, SqL.of (s14 _ _ hL.at_), fun l4 hl4 => ?_⟩
      have s5 := Same.new hl4 (.lst (cutV (L.map V.str) (some (e.b : Int)) none))
      have c4 : upd H4 l4 (.lst (cutV (L.map V.str) (some (e.b : Int)) none)) l4 = some (.lst ((L.drop e.b).map V.str)) := by
        rw [upd_same, cut_from _ _ (by rw [LL]; omega), List.map_drop]
      have c3' := s5 _ _ c3
      generalize upd H4 l4 (.lst (cutV (L.map V.str) (some (e.b : Int)) none)) = H5 at *
      refine ⟨l3, l4, _, _, rfl, rfl, c3', c4, sz (by rw [List.length_append, List.length_map, List.length_map, List.length_map, List.length_take, List.length_drop]; omega), fun l5 hl5 => ?_⟩
      have s6 := Same.new hl5 (.lst (((L.take e.a).map V.str ++ e.ws.map V.str) ++ (L.drop e.b).map V.str))
      have sA := s1.trans (s14.trans s5)
      have hal := app_len hb ha
      refine ⟨sA.trans s6, l5, app e L, _, ⟨?_, app_mrk he.mrk hL.mrk, by omega⟩, fresh_of (s0.trans sA) hl5, ?_, hD, by omega, rfl⟩
      · rw [upd_same]
        unfold app
        rw [List.map_append, List.map_append]
      · rw [app_siz hb ha]
        exact hF2
  · rintro σ H1 ⟨s1, lz, L, v3, hL, hz, hF, hD, hLl, rfl⟩
    rw [hcl] at hD hLl
    rw [List.drop_of_length_le (Nat.le_refl _)] at hD
    have e : L = done es ws := hD
    subst e
    exact ⟨_, rfl, q H1 lz (s0.trans s1) hz hL hLl⟩
/-! ### the least number -/
def fitB : List Ed → Int → Bool
  | [], _ => true
  | e :: es, n => decide ((e.b : Int) ≤ n) && fitB es (n + grow e)
theorem fitB_iff : ∀ {es : List Ed} {n : Nat}, (∀ e ∈ es, e.a ≤ e.b) → (fitB es n = true ↔ Fits es n)
  | [], n, _ => ⟨fun _ => trivial, fun _ => rfl⟩
  | e :: es, n, h => by
    have hle := h e List.mem_cons_self
    unfold fitB Fits
    rw [Bool.and_eq_true, decide_eq_true_eq]
    constructor
    · rintro ⟨h1, h2⟩
      have h1' : e.b ≤ n := by omega
      refine ⟨h1', (fitB_iff fun x hx => h x (List.mem_cons_of_mem _ hx)).mp ?_⟩
      rw [show ((n + e.ws.length - (e.b - e.a) : Nat) : Int) = (n : Int) + grow e from by show _ = (n : Int) + ((e.ws.length : Int) - ((e.b : Int) - (e.a : Int))); omega]
      exact h2
    · rintro ⟨h1, h2⟩
      refine ⟨by omega, ?_⟩
      have := (fitB_iff fun x hx => h x (List.mem_cons_of_mem _ hx)).mpr h2
      rw [show ((n + e.ws.length - (e.b - e.a) : Nat) : Int) = (n : Int) + grow e from by show _ = (n : Int) + ((e.ws.length : Int) - ((e.b : Int) - (e.a : Int))); omega] at this
      exact this
abbrev sLst : Stmt := tp 43
abbrev NLs : List Str := ["edits", "many", "now", "is_good", "edit"]
theorem scLst : FnScope NLs ["edits"] (defScope sLst) := ⟨rfl, rfl, rfl, by decide +kernel, rfl, by decide +kernel, by decide +kernel⟩
/-- the least number of words for which edits can be done -/
def Lst (es : List Ed) (m : Nat) : Prop := Fits es m ∧ ∀ n, Fits es n → m ≤ n
def spLst (K : PySem.W.Frag) (CE : Addr) : Sp := fun vs H Q _ => ∃ (le : Addr) (cs : List Addr) (es : List Ed) (n0 : Nat), vs = [.ref le] ∧ SqL K H le (cs.map V.ref) ∧ EdsH K CE H cs es ∧ Fits es n0 ∧ n0 < 60 ∧ ∀ m : Nat, Lst es m → Q (.int m) H
theorem ok_lst {f : Addr} {fd : FuncData} (F : Fun K "_law_least" "_law_least" sLst f fd) (mR : mg "range" = none) (cl : EC K CE) (G : Mth P w K mg base CE "growth" ["self"] (spGrow K CE)) : FnOk P w K mg base CX0 2 f fd ["edits"] (spLst K CE) := by
  refine F.ok scLst (fun vs H Q E h => ?_) (fun cdv A outer s H vs Q E hr h => ?_)
  · obtain ⟨_, _, _, _, rfl, _⟩ := h
    rfl
  obtain ⟨le, cs, es, n0, rfl, hle, hes, hf, hn0, q⟩ := h
  obtain ⟨fG, fdG, MG, GG, bG⟩ := G.ex
  refine ⟨_, pss_cons (ps_for PassesOwn.never rfl (pi_range1 rfl mR (pa_cons pe_int pa_nil)) (pg_name (i := 1) scLst.nd rfl (Or.inl rfl))
      (pss_cons (ps_par (i := 2) (j := 3) rfl scLst.nd rfl rfl (by decide) rfl rfl (pa_cons (pv 1) (pa_cons pe_bl pa_nil)) rfl)
      (pss_cons (ps_for PassesOwn.never rfl (pi_list (pv 0)) (pg_name (i := 4) scLst.nd rfl (Or.inl rfl))
        (pss_cons (ps_set (i := 3) scLst.nd rfl (Or.inl rfl) (pe_and (pv 3) (pe_one (pe_cmpR op_le (pe_fld (pv 4) rfl) (pv 2) (nomark _)))))
        (pss_one (ps_set (i := 2) scLst.nd rfl (Or.inl rfl) (pe_op op_add (pv 2) (pe_meth0 (pv 4) cl.cl MG GG hr bG .nil pass0))))))
      (pss_one (ps_if (pt_val (pv 3)) (pss_one (ps_ret (pv 1))) pss_nil)))))
    (pss_one (ps_ret pe_non)), ?_⟩
  have hab : ∀ e ∈ es, e.a ≤ e.b := fun e he => by
    obtain ⟨i, hi⟩ := List.getElem?_of_mem he
    have hlen := hes.len
    have hilt : i < es.length := by
      by_cases z : i < es.length
      · exact z
      · rw [List.getElem?_eq_none (by omega)] at hi
        cases hi
    obtain ⟨e', h1, h2⟩ := hes.get (i := i) (c := cs[i]'(by omega)) (List.getElem?_eq_getElem (by omega))
    rw [hi] at h1
    cases h1
    obtain ⟨_, _, _, _, ho⟩ := h2
    exact ho.le
  have hcl : (cs.map V.ref).length = es.length := by rw [List.length_map]; exact hes.len
  refine ⟨60, rfl, by decide, by decide, ?_⟩
  refine for_range (n := 60) (fun i σ H' => H' = H ∧ (∀ j : Nat, j < i → ¬ Fits es j) ∧ ∃ v1 v2 v3 v4, σ = [some (.ref le), v1, v2, v3, v4]) ⟨rfl, fun j hj => absurd hj (Nat.not_lt_zero _), none, none, none, none, rfl⟩ ?_ ?_
  · rintro i σ H' hi ⟨rfl, hno, v1, v2, v3, v4, rfl⟩
    refine ⟨_, rfl, _, _, rfl, ?_⟩
    refine ⟨_, rfl, le, rfl, ⟨_, hle⟩, ?_⟩
    refine for_list (xs := cs.map V.ref) (fun k σ H2 => H2 = H' ∧ ∃ (N : Int) (g : Bool) (v4 : Option V), (g && fitB (es.drop k) N) = fitB es (0 + (i : Int)) ∧ σ = [some (.ref le), some (.int (0 + (i : Int))), some (.int N), some (.bl g), v4])
      ⟨rfl, 0 + (i : Int), true, v4, rfl, rfl⟩ (fun k σ H2 _ ⟨z, _⟩ => by rw [z]; exact hle) ?_ ?_
    · rintro k x σ H2 hx ⟨rfl, N, g, v4', hg, rfl⟩
      rw [List.getElem?_map] at hx
      cases ec : cs[k]? with
      | none => rw [ec] at hx; cases hx
      | some c =>
        rw [ec] at hx
        cases hx
        obtain ⟨e, hre, hE⟩ := hes.get ec
        have hk : k < es.length := by
          by_cases z : k < es.length
          · exact z
          · rw [List.getElem?_eq_none (by omega)] at hre
            cases hre
        have hdr : es.drop k = e :: es.drop (k + 1) := by
          rw [List.getElem?_eq_getElem hk] at hre
          rw [List.drop_eq_getElem_cons hk, Option.some.inj hre]
        rw [hdr] at hg
        obtain ⟨dx, t, hp, hS, ho⟩ := id hE
        have fin : ∀ g' : Bool, (g' && fitB (es.drop (k + 1)) (N + grow e)) = fitB es (0 + (i : Int)) → H2 = H2 ∧ ∃ (N' : Int) (g'' : Bool) (v4 : Option V), (g'' && fitB (es.drop (k + 1)) N') = fitB es (0 + (i : Int)) ∧ [some (V.ref le), some (.int (0 + (i : Int))), some (.int (N + grow e)), some (.bl g'), some (.ref c)] = [some (V.ref le), some (.int (0 + (i : Int))), some (.int N'), some (.bl g''), v4] :=
          fun g' h => ⟨rfl, N + grow e, g', _, h, rfl⟩
        refine ⟨_, rfl, g, rfl, ?_⟩
        cases hgg : g with
        | true =>
          rw [hgg] at hg
          refine iteT ⟨_, rfl, c, CE, dx, _, .int e.b, rfl, hp, cl.cl, cl.nL, rfl, _, rfl, _, _, rfl, rfl, ?_⟩
          refine ⟨_, rfl, _, rfl, c, dx, _, rfl, hp, rfl, c, e, rfl, hE, _, _, rfl, rfl, ?_⟩
          refine fin (decide ((e.b : Int) ≤ N)) ?_
          rw [← hg]
          rfl
        | false =>
          rw [hgg] at hg
          refine iteF ?_
          refine ⟨_, rfl, _, rfl, c, dx, _, rfl, hp, rfl, c, e, rfl, hE, _, _, rfl, rfl, ?_⟩
          exact fin false hg
    · rintro σ H2 ⟨rfl, N, g, v4', hg, rfl⟩
      rw [hcl, List.drop_of_length_le (Nat.le_refl _)] at hg
      have hg' : g = fitB es (0 + (i : Int)) := by rw [← hg]; cases g <;> rfl
      rw [Int.zero_add] at hg'
      refine ⟨_, rfl, g, rfl, ?_⟩
      cases hgg : g with
      | true =>
        have hfit := (fitB_iff hab).mp (hg'.symm.trans hgg)
        refine iteT ⟨_, rfl, ?_⟩
        rw [Int.zero_add]
        refine q i ⟨hfit, fun n hn => ?_⟩
        by_cases z : n < i
        · exact absurd hn (hno n z)
        · omega
      | false =>
        refine iteF ⟨rfl, fun j hj => ?_, _, _, _, _, rfl⟩
        by_cases z : j < i
        · exact hno j z
        · have : j = i := by omega
          subst this
          intro hF
          have := (fitB_iff hab).mpr hF
          rw [← hg', hgg] at this
          cases this
  · rintro σ H' ⟨rfl, hno, _⟩
    exact absurd hf (hno n0 hn0)
end
end P5

end
section
set_option Elab.async false
set_option linter.all false
set_option maxRecDepth 100000
set_option maxHeartbeats 4000000
namespace P5
open PySem PySem.Spec PyProof.Rows L2
/-! ### words that are all different -/
def LET : Str := "defghijklmnopqrstuvwxyz"
def mkw (i : Nat) : Str := (⟨#[LET.cps.toList.getD i 0]⟩ : Str) ++ ("q" : Str)
def MKS (n : Nat) : List Str := (List.range n).map mkw
theorem mkw_at {i : Nat} (h : i < 20) : LET.cps.toList[i]? = some (LET.cps.toList.getD i 0) := by
  have z : ∀ j : Fin 20, LET.cps.toList[j.val]? = some (LET.cps.toList.getD j.val 0) := by decide +kernel
  exact z ⟨i, h⟩
theorem mkw_mrk {i : Nat} (h : i < 20) : mkw i ∈ MRK := by
  have z : ∀ j : Fin 20, (markB (mkw j.val) && decide ((mkw j.val).length ≤ 20) && PyData.strOk (mkw j.val)) = true := by decide +kernel
  exact mrk_of (z ⟨i, h⟩)
theorem mkw_not {i : Nat} (h : i < 20) : mkw i ∉ PK6 := by
  have z : ∀ j : Fin 20, mkw j.val ∉ PK6 := by decide +kernel
  exact z ⟨i, h⟩
theorem mkw_ne {i j : Nat} (hi : i < 20) (hj : j < 20) (e : mkw i = mkw j) : i = j := by
  have z : ∀ a b : Fin 20, mkw a.val = mkw b.val → a = b := by decide +kernel
  have := z ⟨i, hi⟩ ⟨j, hj⟩ e
  exact congrArg Fin.val this
theorem MKS_len (n : Nat) : (MKS n).length = n := by rw [MKS, List.length_map, List.length_range]
theorem MKS_mem {n : Nat} {x : Str} (h : x ∈ MKS n) : ∃ i, i < n ∧ x = mkw i := by
  obtain ⟨i, hi, e⟩ := List.mem_map.mp h
  exact ⟨i, List.mem_range.mp hi, e.symm⟩
theorem MKS_mrk {n : Nat} (hn : n ≤ 20) : ∀ x ∈ MKS n, x ∈ MRK := fun x hx => by
  obtain ⟨i, hi, rfl⟩ := MKS_mem hx
  exact mkw_mrk (by omega)
theorem MKS_not {n : Nat} (hn : n ≤ 20) : ∀ x ∈ MKS n, x ∉ PK6 := fun x hx => by
  obtain ⟨i, hi, rfl⟩ := MKS_mem hx
  exact mkw_not (by omega)
theorem MKS_nodup {n : Nat} (hn : n ≤ 20) : (MKS n).Nodup := by
  show List.Pairwise _ ((List.range n).map mkw)
  rw [List.pairwise_map]
  exact List.Pairwise.imp_of_mem (fun {a b} ha hb hab e => hab (mkw_ne (by have := List.mem_range.mp ha; omega) (by have := List.mem_range.mp hb; omega) e)) (List.nodup_range (n := n))
section
variable {X : Cx}
/-- a text times an int -/
theorem op_mulS : OpR X (binaryOp .Mult) (fun x y H Q => ∃ (z : Str) (i : Int), x = .str z ∧ y = .int i ∧ MulOk z i ∧ Q (.str (Txt.mul z i)) H) := by
  intro pins s σ H x y v u Q I rx ry h
  obtain ⟨z, i, rfl, rfl, hm, q⟩ := h
  obtain ⟨t, rfl⟩ : ∃ t, v = Value.str z t := rx
  obtain ⟨t', rfl⟩ : ∃ t, u = Value.int i t := ry
  exact SB.mul hm fun t2 k => ⟨.str (Txt.mul z i), H, I.tok _, ⟨_, rfl⟩, q⟩
end
section
variable {P : Program} {w : World} {K : PySem.W.Frag} {mg : Str → Option Value} {base : Heap} {aN aS CE : Addr}
abbrev sMks : Stmt := tp 42
abbrev NMk : List Str := ["many", "letters", "at"]
theorem scMks : FnScope NMk ["many"] (defScope sMks) := ⟨rfl, rfl, rfl, by decide +kernel, rfl, by decide +kernel, by decide +kernel⟩
def spMks : Sp := fun vs H Q _ => ∃ (n : Nat), vs = [.int n] ∧ n ≤ 20 ∧ ∀ H' l, Same H H' → H l = none → LsH H' l (MKS n) → Q (.ref l) H'
theorem ok_mks {f : Addr} {fd : FuncData} (F : Fun K "_law_marks" "_law_marks" sMks f fd) (mR : mg "range" = none) : FnOk P w K mg base CX0 1 f fd ["many"] spMks := by
  refine F.ok scMks (fun vs H Q E h => ?_) (fun cdv A outer s H vs Q E hr h => ?_)
  · obtain ⟨_, rfl, _⟩ := h
    rfl
  obtain ⟨n, rfl, hn, q⟩ := h
  refine ⟨_, pss_cons (ps_set (i := 1) scMks.nd rfl (Or.inr rfl) pe_str)
    (pss_one (ps_ret (pe_lc (own := [("at", 2)]) (g := gName 2) rfl scMks.nd (pi_range1 rfl mR (pa_cons (pv 0) pa_nil))
        (blkOk_by (N := NMk) (sc := defScope sMks) (by decide +kernel)) (fun _ _ _ _ _ => pg_name (i := 2) scMks.nd rfl (Or.inl rfl)) (fun _ _ _ _ _ => pts_nil)
        (fun _ _ _ _ _ => pe_op op_add_str (pe_ix ix_str (pv 1) (pe_op op_mod (pv 2) pe_int) (fun _ _ => rfl)) (pe_op op_mulS pe_str (pe_op op_add pe_int (pe_op op_fdiv (pv 2) pe_int))))))), ?_⟩
  refine ⟨_, rfl, n, rfl, by omega, by omega, fun D hD => ?_⟩
  refine lc_inv n (by omega) (fun i acc H' => Same H H' ∧ acc = (MKS i).map V.str) ⟨Same.new hD _, rfl⟩
    (fun i acc H5 Ny Nx hi hacc ⟨s5, ea⟩ qy qx => ?_) (fun acc H5 hacc ⟨s5, ea⟩ => ?_)
  · refine ⟨by show i < (n : Int).toNat; omega, fun x H6 yl => ?_⟩
    obtain ⟨e6, ex⟩ := yl
    subst H6
    have hx : x = .int (0 + (i : Int)) := ex
    subst hx
    have hi20 : i < 20 := by omega
    have em : (0 + (i : Int)) % 23 = (i : Int) := by omega
    have ed : 1 + (0 + (i : Int)) / 23 = 1 := by omega
    refine ⟨rfl, _, rfl, _, rfl, _, _, rfl, rfl, (by show (0 : Int) < 23; decide), ?_⟩
    refine ⟨LET, (i : Int), LET.cps.toList.getD i 0, rfl, congrArg V.int em, (by decide +kernel), atI_nat (mkw_at hi20), ?_⟩
    refine ⟨_, rfl, _, _, rfl, rfl, ⟨by decide, by decide⟩, _, _, rfl, rfl, ?_⟩
    refine ⟨"q", 1, rfl, congrArg V.int ed, ⟨by decide, fun _ h => absurd h (by decide), fun _ h => absurd h (by decide)⟩, ?_⟩
    refine ⟨_, _, rfl, rfl, small_le (by show 1 + (Txt.mul ("q" : Str) 1).length ≤ 1000; decide +kernel), ?_⟩
    have ez : Txt.mul ("q" : Str) 1 = "q" := by decide +kernel
    rw [ez]
    refine qy _ _ hacc ⟨fun b o hb => ?_, ?_⟩
    · rw [upd_ne (ne_of_none hb hD)]
      exact s5 _ _ hb
    · rw [ea]
      show (MKS i).map V.str ++ [V.str (mkw i)] = _
      rw [MKS, MKS, List.range_succ, List.map_append, List.map_append]
      rfl
  · refine ⟨by show (n : Int).toNat ≤ n; omega, ?_⟩
    subst ea
    exact q H5 D s5 hD ⟨hacc, MKS_mrk hn, by rw [MKS_len]; omega⟩
end
end P5

end
section
set_option Elab.async false
set_option linter.all false
set_option maxRecDepth 100000
set_option maxHeartbeats 4000000
namespace P5
open PySem PySem.Spec PySem.SeqAt PyProof.Rows L2
instance : DecidableEq Ed := fun e f => decidable_of_iff (e.a = f.a ∧ e.b = f.b ∧ e.ws = f.ws) ⟨fun h => by
  obtain ⟨a, b, ws⟩ := e
  obtain ⟨a', b', ws'⟩ := f
  obtain ⟨h1, h2, h3⟩ := h
  simp only at h1 h2 h3
  rw [h1, h2, h3], fun h => by subst h; exact ⟨rfl, rfl, rfl⟩⟩
/-! ### patches in the heap -/
/-- a change: two places, and a tuple of words -/
def ChV (K : PySem.W.Frag) (H : Hp) (v : V) (e : Ed) : Prop := ∃ a t, v = .ref a ∧ SqT K H a [.int e.a, .int e.b, .ref t] ∧ SqT K H t (e.ws.map V.str)
def ChsV (K : PySem.W.Frag) (H : Hp) : List V → List Ed → Prop
  | [], [] => True
  | v :: vs, e :: es => ChV K H v e ∧ ChsV K H vs es
  | _, _ => False
theorem ChV.imp {K : PySem.W.Frag} {H H' : Hp} {v : V} {e : Ed} (f : ∀ a xs, SqT K H a xs → SqT K H' a xs) (h : ChV K H v e) : ChV K H' v e := by
  obtain ⟨a, t, h1, h2, h3⟩ := h
  exact ⟨a, t, h1, f _ _ h2, f _ _ h3⟩
theorem ChsV.imp {K : PySem.W.Frag} {H H' : Hp} (f : ∀ a xs, SqT K H a xs → SqT K H' a xs) : ∀ {vs : List V} {es : List Ed}, ChsV K H vs es → ChsV K H' vs es
  | [], [], _ => trivial
  | v :: vs, e :: es, h => ⟨h.1.imp f, ChsV.imp f h.2⟩
  | [], e :: es, h => h.elim
  | v :: vs, [], h => h.elim
theorem ChsV.len {K : PySem.W.Frag} {H : Hp} : ∀ {vs : List V} {es : List Ed}, ChsV K H vs es → vs.length = es.length
  | [], [], _ => rfl
  | v :: vs, e :: es, h => congrArg (· + 1) (ChsV.len h.2)
  | [], e :: es, h => h.elim
  | v :: vs, [], h => h.elim
theorem ChsV.get {K : PySem.W.Frag} {H : Hp} : ∀ {vs : List V} {es : List Ed} {i : Nat} {v : V}, ChsV K H vs es → vs[i]? = some v → ∃ e, es[i]? = some e ∧ ChV K H v e
  | v :: vs, e :: es, 0, _, h, q => by
    cases q
    exact ⟨e, rfl, h.1⟩
  | v :: vs, e :: es, i + 1, v', h, q => by
    obtain ⟨e', h1, h2⟩ := ChsV.get (i := i) h.2 (by simpa using q)
    exact ⟨e', by simpa using h1, h2⟩
  | [], [], i, _, _, q => by simp at q
  | [], e :: es, _, _, h, _ => h.elim
  | v :: vs, [], _, _, h, _ => h.elim
/-- what a patch may be -/
structure PtOk (C : List Ed) (m : Nat) : Prop where
  apt : Apt false 0 C
  fin : endC 0 C ≤ m
  ok : ∀ e ∈ C, e.Ok
  sm : m ≤ 200
  few : C.length ≤ 200
/-- a patch's own attributes -/
def PtFs (t : Addr) (m : Nat) : List (Str × V) := [("changes", .ref t), ("least", .int m)]
def PtH (K : PySem.W.Frag) (CP : Addr) (H : Hp) (p : Addr) (C : List Ed) (m : Nat) : Prop := ∃ dx t vs, H p = some (.ins CP dx (PtFs t m)) ∧ SqT K H t vs ∧ ChsV K H vs C ∧ PtOk C m
theorem PtH.same {K : PySem.W.Frag} {CP p : Addr} {H H' : Hp} {C : List Ed} {m : Nat} (s : Same H H') (h : PtH K CP H p C m) : PtH K CP H' p C m := by
  obtain ⟨dx, t, vs, h1, h2, h3, h4⟩ := h
  exact ⟨dx, t, vs, s _ _ h1, Same.tup s h2, h3.imp fun _ _ q => Same.tup s q, h4⟩
theorem PtH.aft {K : PySem.W.Frag} {CP p d sa : Addr} {H H' : Hp} {C : List Ed} {m : Nat} (hd : DrwS H d sa) (s : Aft H H' d) (h : PtH K CP H p C m) : PtH K CP H' p C m := by
  obtain ⟨dx, t, vs, h1, h2, h3, h4⟩ := h
  exact ⟨dx, t, vs, s _ _ (hd.drw.ne h1 fun _ _ z => by cases z) h1, Aft.tup hd.drw s h2, h3.imp fun _ _ q => Aft.tup hd.drw s q, h4⟩
theorem PtH.ins {K : PySem.W.Frag} {CP p : Addr} {H : Hp} {C : List Ed} {m : Nat} (h : PtH K CP H p C m) : InsI H p CP := by
  obtain ⟨dx, t, vs, h1, _⟩ := h
  exact ⟨dx, _, h1⟩
theorem PtH.insC {X : Cx} {K : PySem.W.Frag} {CP p : Addr} {H : Hp} {C : List Ed} {m : Nat} (h : PtH K CP H p C m) : StX.InsC X H p CP := by
  obtain ⟨dx, t, vs, h1, _⟩ := h
  exact .inr ⟨dx, _, h1⟩
/-- the data of changes -/
def chD (e : Ed) : PyData := .tuple [.int e.a, .int e.b, .tuple (e.ws.map PyData.str)]
theorem dp_ch {K : PySem.W.Frag} {H : Hp} {v : V} {e : Ed} (h : ChV K H v e) : Dp K H v (chD e) := by
  obtain ⟨a, t, rfl, h2, h3⟩ := h
  exact .tup h2 (.cons (.int _) (.cons (.int _) (.cons (.tup h3 (dpAll_marks _)) .nil)))
theorem dp_chs {K : PySem.W.Frag} {H : Hp} : ∀ {vs : List V} {es : List Ed}, ChsV K H vs es → DpAll K H vs (es.map chD)
  | [], [], _ => .nil
  | v :: vs, e :: es, h => .cons (dp_ch h.1) (dp_chs h.2)
  | [], e :: es, h => h.elim
  | v :: vs, [], h => h.elim
theorem eqv_ch (e f : Ed) : PyData.eqv (chD e) (chD f) = decide (e = f) := by
  show ((decide ((e.a : Int) = (f.a : Int))) && ((decide ((e.b : Int) = (f.b : Int))) && (PyData.eqvAll (e.ws.map PyData.str) (f.ws.map PyData.str) && true))) = decide (e = f)
  rw [eqvAll_marks, Bool.and_true]
  obtain ⟨a, b, ws⟩ := e
  obtain ⟨a', b', ws'⟩ := f
  by_cases h1 : a = a'
  · by_cases h2 : b = b'
    · by_cases h3 : ws = ws'
      · subst h1 h2 h3
        simp
      · simp [h1, h2, h3]
    · have : ¬ (b : Int) = (b' : Int) := by omega
      simp [h1, h2, this]
  · have : ¬ (a : Int) = (a' : Int) := by omega
    simp [h1, this]
theorem eqv_chs : ∀ (C D : List Ed), PyData.eqvAll (C.map chD) (D.map chD) = decide (C = D)
  | [], [] => rfl
  | [], y :: D => rfl
  | x :: C, [] => rfl
  | x :: C, y :: D => by
    show (PyData.eqv (chD x) (chD y) && PyData.eqvAll (C.map chD) (D.map chD)) = decide (x :: C = y :: D)
    rw [eqv_ch, eqv_chs C D]
    by_cases h : x = y
    · by_cases h2 : C = D
      · simp [h, h2]
      · simp [h, h2]
    · simp [h]
theorem lay_chs {C : List Ed} (h : ∀ e ∈ C, e.Ok) : PyData.canLayAll0 (C.map chD) = true := lay_mem fun d hd => by
  obtain ⟨e, he, rfl⟩ := List.mem_map.mp hd
  simp only [chD, PyData.canLay0, PyData.canLayAll0, lay_marks (h e he).mrk, Bool.and_true, Bool.and_self]
theorem depth_chs (C : List Ed) : PyData.depthAll (C.map chD) ≤ 2 := depth_mem fun d hd => by
  obtain ⟨e, he, rfl⟩ := List.mem_map.mp hd
  have := depth_marks e.ws
  simp only [chD, PyData.depth, PyData.depthAll]
  omega
theorem shaped_chsL {C : List Ed} (h : ∀ e ∈ C, e.Ok) : shaped (.list (C.map chD)) = true := shaped_mk (by simp only [PyData.canLay0]; exact lay_chs h) (by simp only [PyData.depth]; have := depth_chs C; omega)
theorem shaped_chsT {C : List Ed} (h : ∀ e ∈ C, e.Ok) : shaped (.tuple (C.map chD)) = true := shaped_mk (by simp only [PyData.canLay0]; exact lay_chs h) (by simp only [PyData.depth]; have := depth_chs C; omega)
/-- how many more words there are behind changes -/
def growC (C : List Ed) : Int := (C.map grow).sum
/-- the patch that does what edits do -/
structure NF (es C : List Ed) (m : Nat) : Prop where
  lst : Lst es m
  run : ∀ l : List Str, m ≤ l.length → apC C 0 l = done es l
/-- how many words edits put in -/
def tot (es : List Ed) : Nat := (es.map fun e => e.ws.length).sum
section
variable {P : Program} {w : World} {K : PySem.W.Frag} {mg : Str → Option Value} {base : Heap} {CE CP CB : Addr}
/-- words as a list or a tuple -/
structure WsE (K : PySem.W.Frag) (H : Hp) (l : Addr) (ws : List Str) : Prop where
  at_ : SqE K H l (ws.map V.str)
  mrk : ∀ x ∈ ws, x ∈ MRK
  sm : ws.length ≤ 200
theorem WsE.same {H H' : Hp} {l : Addr} {ws : List Str} (s : Same H H') (h : WsE K H l ws) : WsE K H' l ws := ⟨h.at_.same s, h.mrk, h.sm⟩
theorem LsH.wse {H : Hp} {l : Addr} {ws : List Str} (h : LsH H l ws) : WsE K H l ws := ⟨.inl (SqL.of h.at_), h.mrk, h.sm⟩
def spPatch (K : PySem.W.Frag) (CE CP : Addr) : Sp := fun vs H Q _ => ∃ (l : Addr) (cs : List Addr) (es : List Ed) (n0 : Nat), vs = [.ref l] ∧ SqE K H l (cs.map V.ref) ∧ EdsH K CE H cs es ∧ Fits es n0 ∧ n0 ≤ 60 ∧ tot es ≤ 60 ∧ es.length ≤ 40 ∧
  ∀ H' p C m, Same H H' → H p = none → PtH K CP H' p C m → NF es C m → Q (.ref p) H'
def spPCall (K : PySem.W.Frag) (CP CB : Addr) : Sp := fun vs H Q E => ∃ (p l : Addr) (C : List Ed) (m : Nat) (ws : List Str), vs = [.ref p, .ref l] ∧ PtH K CP H p C m ∧ WsE K H l ws ∧ (apC C 0 ws).length ≤ 200 ∧
  (m ≤ ws.length → ∀ H' q, Same H H' → H q = none → LsH H' q (apC C 0 ws) → Q (.ref q) H') ∧ (ws.length < m → ∀ H', Same H H' → E (.ref CB) none H')
def spPLen (K : PySem.W.Frag) (CP : Addr) : Sp := fun vs H Q _ => ∃ (p : Addr) (C : List Ed) (m : Nat), vs = [.ref p] ∧ PtH K CP H p C m ∧ Q (.int C.length) H
def spPBool (K : PySem.W.Frag) (CP : Addr) : Sp := fun vs H Q _ => ∃ (p : Addr) (C : List Ed) (m : Nat), vs = [.ref p] ∧ PtH K CP H p C m ∧ Q (.bl (!C.isEmpty)) H
def spPGrow (K : PySem.W.Frag) (CP : Addr) : Sp := fun vs H Q _ => ∃ (p : Addr) (C : List Ed) (m : Nat), vs = [.ref p] ∧ PtH K CP H p C m ∧ ∀ H', Same H H' → Q (.int (growC C)) H'
def spPEq (K : PySem.W.Frag) (CP : Addr) : Sp := fun vs H Q _ => ∃ (p q : Addr) (C D : List Ed) (m k : Nat), vs = [.ref p, .ref q] ∧ PtH K CP H p C m ∧ PtH K CP H q D k ∧ Q (.bl (decide (C = D ∧ m = k))) H
def spPEds (K : PySem.W.Frag) (CE CP : Addr) : Sp := fun vs H Q _ => ∃ (p : Addr) (C : List Ed) (m : Nat), vs = [.ref p] ∧ PtH K CP H p C m ∧
  ∀ H' l cs es, Same H H' → H l = none → H' l = some (.lst (cs.map V.ref)) → EdsH K CE H' cs es → es.length = C.length → tot es = tot C → Fits es m → (∀ x : List Str, m ≤ x.length → done es x = apC C 0 x) → Q (.ref l) H'
def spBeh (K : PySem.W.Frag) (CP : Addr) : Sp := fun vs H Q _ => ∃ (p q : Addr) (C D : List Ed) (m k : Nat), vs = [.ref p, .ref q] ∧ PtH K CP H p C m ∧ PtH K CP H q D k ∧ m ≤ 30 ∧ k ≤ 30 ∧ tot C ≤ 30 ∧ tot D ≤ 30 ∧
  ∀ H' r F j, Same H H' → H r = none → PtH K CP H' r F j → (∀ n : Nat, j ≤ n ↔ m ≤ n ∧ (k : Int) ≤ n + growC C) → (∀ x : List Str, j ≤ x.length → apC F 0 x = apC D 0 (apC C 0 x)) → Q (.ref r) H'
end
end P5

end
section
set_option Elab.async false
set_option linter.all false
set_option maxRecDepth 100000
set_option maxHeartbeats 4000000
namespace P5
open PySem PySem.Spec PyProof.Rows L2
/-! ### what edits and changes do, further -/
def growS (es : List Ed) : Int := (es.map grow).sum
theorem app_grow {e : Ed} {l : List Str} (h : e.b ≤ l.length) (h2 : e.a ≤ e.b) : ((app e l).length : Int) = l.length + grow e := by
  have := app_len h h2
  show ((app e l).length : Int) = l.length + ((e.ws.length : Int) - ((e.b : Int) - (e.a : Int)))
  omega
theorem Fits.mono : ∀ {es : List Ed} {n k : Nat}, (∀ e ∈ es, e.a ≤ e.b) → Fits es n → n ≤ k → Fits es k
  | [], _, _, _, _, _ => trivial
  | e :: es, n, k, h, hf, hk => ⟨by have := hf.1; omega, Fits.mono (fun x hx => h x (List.mem_cons_of_mem _ hx)) hf.2 (by have := h e List.mem_cons_self; omega)⟩
theorem done_len : ∀ {es : List Ed} {l : List Str}, (∀ e ∈ es, e.a ≤ e.b) → Fits es l.length → ((done es l).length : Int) = l.length + growS es
  | [], l, _, _ => by show (l.length : Int) = l.length + 0; omega
  | e :: es, l, h, hf => by
    have h1 := h e List.mem_cons_self
    have ih := done_len (es := es) (l := app e l) (fun x hx => h x (List.mem_cons_of_mem _ hx)) (by rw [app_siz hf.1 h1]; exact hf.2)
    show ((done es (app e l)).length : Int) = l.length + (grow e + growS es)
    rw [ih, app_grow hf.1 h1]
    omega
theorem apC_len : ∀ {C : List Ed} {t : Bool} {s : Nat} {l : List Str}, Apt t s C → endC s C ≤ s + l.length → ((apC C s l).length : Int) = l.length + growC C
  | [], _, s, l, _, _ => by show (l.length : Int) = l.length + 0; omega
  | e :: C, _, s, l, .cons h1 _ h3 _ h5, hE => by
    have hz := h5.le_end
    rw [endC_cons] at hE
    have ih := apC_len (C := C) (l := l.drop (e.b - s)) h5 (by rw [List.length_drop]; omega)
    show ((l.take (e.a - s) ++ (e.ws ++ apC C e.b (l.drop (e.b - s)))).length : Int) = l.length + (grow e + growC C)
    rw [List.length_append, List.length_append, List.length_take]
    rw [List.length_drop] at ih
    have eg : grow e = (e.ws.length : Int) - ((e.b : Int) - (e.a : Int)) := rfl
    omega
theorem done_mem : ∀ {es : List Ed} {l : List Str} {x : Str}, x ∈ done es l → x ∈ l ∨ ∃ e ∈ es, x ∈ e.ws
  | [], _, _, h => .inl h
  | e :: es, l, x, h => by
    rcases done_mem (es := es) (l := app e l) h with h | ⟨d, h1, h2⟩
    · unfold app at h
      rcases List.mem_append.mp h with h | h
      · rcases List.mem_append.mp h with h | h
        · exact .inl (List.mem_of_mem_take h)
        · exact .inr ⟨e, List.mem_cons_self, h⟩
      · exact .inl (List.mem_of_mem_drop h)
    · exact .inr ⟨d, List.mem_cons_of_mem _ h1, h2⟩
theorem apC_put : ∀ {C : List Ed} {s : Nat} {l : List Str} {e : Ed} {x : Str}, e ∈ C → x ∈ e.ws → x ∈ apC C s l
  | d :: C, s, l, e, x, he, hx => by
    show x ∈ l.take (d.a - s) ++ (d.ws ++ apC C d.b (l.drop (d.b - s)))
    rcases List.mem_cons.mp he with h | h
    · rw [h] at hx
      exact List.mem_append_right _ (List.mem_append_left _ hx)
    · exact List.mem_append_right _ (List.mem_append_right _ (apC_put h hx))
/-! ### words that are nowhere -/
def frw (N i : Nat) : Str := ⟨(List.replicate (N + i) 0).toArray⟩
theorem frw_len (N i : Nat) : (frw N i).length = N + i := by
  show (List.replicate (N + i) 0).toArray.size = N + i
  simp
theorem exists_fresh (A : List Str) (n : Nat) : ∃ l : List Str, l.length = n ∧ l.Nodup ∧ ∀ x ∈ l, x ∉ A := by
  let N := 1 + (A.map fun x => x.length).sum
  refine ⟨(List.range n).map (frw N), by rw [List.length_map, List.length_range], ?_, fun x hx z => ?_⟩
  · show List.Pairwise _ _
    rw [List.pairwise_map]
    refine List.Pairwise.imp (fun {a b} hab e => hab ?_) (List.nodup_range (n := n))
    have := congrArg Str.length e
    rw [frw_len, frw_len] at this
    omega
  · obtain ⟨i, _, e⟩ := List.mem_map.mp hx
    have h1 : x.length = N + i := by rw [← e, frw_len]
    have h2 : ∀ {A : List Str}, x ∈ A → x.length ≤ (A.map fun x => x.length).sum := fun {A} hA => by
      induction A with
      | nil => cases hA
      | cons y A ih =>
        rw [List.map_cons, List.sum_cons]
        rcases List.mem_cons.mp hA with h | h
        · rw [h]
          omega
        · have := ih h
          omega
    have := h2 z
    omega
/-- all words that changes put in -/
def putC (C : List Ed) : List Str := (C.map fun e => e.ws).flatten
theorem free_of {C : List Ed} {l : List Str} (h : ∀ x ∈ l, x ∉ putC C) : Free C l := fun e he x hx z => h x z (List.mem_flatten.mpr ⟨e.ws, List.mem_map.mpr ⟨e, he, rfl⟩, hx⟩)
/-- changes are told by what they do to all words of a length or more -/
theorem apC_uniq {C D : List Ed} {n : Nat} (hC : Apt false 0 C) (hD : Apt false 0 D) (eC : endC 0 C ≤ n) (eD : endC 0 D ≤ n) (h : ∀ l : List Str, n ≤ l.length → apC C 0 l = apC D 0 l) : C = D := by
  obtain ⟨l, h1, h2, h3⟩ := exists_fresh (putC C ++ putC D) n
  exact apC_inj n h1 hC hD (by omega) (by omega) h2 (free_of fun x hx z => h3 x hx (List.mem_append_left _ z)) (free_of fun x hx z => h3 x hx (List.mem_append_right _ z)) (h l (by omega))
/-- what changes put in, the edits put in -/
theorem nf_words {es C : List Ed} {m : Nat} (h : NF es C m) {e : Ed} {x : Str} (he : e ∈ C) (hx : x ∈ e.ws) : ∃ d ∈ es, x ∈ d.ws := by
  obtain ⟨l, h1, h2, h3⟩ := exists_fresh (putC C) m
  have z : x ∈ done es l := by
    rw [← h.run l (by omega)]
    exact apC_put he hx
  rcases done_mem z with z | z
  · exact absurd z (fun z => h3 x z (List.mem_flatten.mpr ⟨e.ws, List.mem_map.mpr ⟨e, he, rfl⟩, hx⟩))
  · exact z
theorem nf_grow {es C : List Ed} {m : Nat} (h : NF es C m) (hC : PtOk C m) (he : ∀ e ∈ es, e.a ≤ e.b) : growC C = growS es := by
  obtain ⟨l, h1, _, _⟩ := exists_fresh [] m
  have a := apC_len (l := l) hC.apt (by have := hC.fin; omega)
  have b := done_len (es := es) (l := l) he (by rw [h1]; exact h.lst.1)
  rw [h.run l (by omega)] at a
  omega
theorem Lst.uniq {es : List Ed} {m k : Nat} (h : Lst es m) (h' : Lst es k) : m = k := Nat.le_antisymm (h.2 k h'.1) (h'.2 m h.1)
theorem Fits.app_iff : ∀ {es fs : List Ed} {n : Nat}, Fits (es ++ fs) n ↔ Fits es n ∧ Fits fs (siz es n)
  | [], fs, n => ⟨fun h => ⟨trivial, h⟩, fun h => h.2⟩
  | e :: es, fs, n => by
    show (e.b ≤ n ∧ Fits (es ++ fs) _) ↔ (e.b ≤ n ∧ Fits es _) ∧ Fits fs (siz es _)
    rw [Fits.app_iff, and_assoc]
theorem done_app (es fs : List Ed) (l : List Str) : done (es ++ fs) l = done fs (done es l) := by
  unfold done
  rw [List.foldl_append]
theorem done_siz : ∀ {es : List Ed} {l : List Str}, (∀ e ∈ es, e.a ≤ e.b) → Fits es l.length → (done es l).length = siz es l.length
  | [], l, _, _ => rfl
  | e :: es, l, h, hf => by
    have h1 := h e List.mem_cons_self
    have ih := done_siz (es := es) (l := app e l) (fun x hx => h x (List.mem_cons_of_mem _ hx)) (by rw [app_siz hf.1 h1]; exact hf.2)
    show (done es (app e l)).length = siz es (l.length + e.ws.length - (e.b - e.a))
    rw [ih, app_siz hf.1 h1]
/-- two patches one behind the other are the patch of all edits -/
theorem behind_eq {es fs C D F G : List Ed} {m k j i : Nat} (he : ∀ e ∈ es, e.a ≤ e.b) (hf : ∀ e ∈ fs, e.a ≤ e.b) (h1 : NF es C m) (o1 : PtOk C m) (h2 : NF fs D k) (o2 : PtOk D k) (hj : ∀ n : Nat, j ≤ n ↔ m ≤ n ∧ (k : Int) ≤ n + growC C) (oF : PtOk F j)
    (hF : ∀ x : List Str, j ≤ x.length → apC F 0 x = apC D 0 (apC C 0 x)) (h3 : NF (es ++ fs) G i) (o3 : PtOk G i) : F = G ∧ j = i := by
  have key : ∀ n : Nat, j ≤ n ↔ Fits (es ++ fs) n := fun n => by
    rw [hj, Fits.app_iff]
    constructor
    · rintro ⟨a, b⟩
      have c : Fits es n := h1.lst.1.mono he a
      refine ⟨c, h2.lst.1.mono hf ?_⟩
      obtain ⟨l, hl, _, _⟩ := exists_fresh [] n
      have z1 := done_siz (l := l) he (by rw [hl]; exact c)
      have z2 := done_len (l := l) he (by rw [hl]; exact c)
      rw [nf_grow h1 o1 he] at b
      rw [hl] at z1 z2
      omega
    · rintro ⟨a, b⟩
      refine ⟨h1.lst.2 n a, ?_⟩
      have c := h2.lst.2 _ b
      obtain ⟨l, hl, _, _⟩ := exists_fresh [] n
      have z1 := done_siz (l := l) he (by rw [hl]; exact a)
      have z2 := done_len (l := l) he (by rw [hl]; exact a)
      rw [nf_grow h1 o1 he]
      rw [hl] at z1 z2
      omega
  have ij : j = i := by
    apply Nat.le_antisymm
    · exact (key i).mpr h3.lst.1
    · exact h3.lst.2 j ((key j).mp (Nat.le_refl _))
  subst ij
  refine ⟨apC_uniq oF.apt o3.apt oF.fin o3.fin fun l hl => ?_, rfl⟩
  rw [hF l hl, h3.run l hl, done_app]
  have q := (hj l.length).mp hl
  rw [h1.run l q.1, h2.run]
  have z2 := done_len (es := es) (l := l) he (h1.lst.1.mono he q.1)
  rw [nf_grow h1 o1 he] at q
  omega
end P5

end
section
set_option Elab.async false
set_option linter.all false
set_option maxRecDepth 100000
set_option maxHeartbeats 4000000
namespace P5
open PySem PySem.Spec PyProof.Rows L2
/-! ### the law: what it calls -/
abbrev sLaw : Stmt := tp 44
abbrev NL : List Str := ["script", "draw", "many", "one", "other", "first", "second", "words", "marks", "alike", "late", "start", "kept", "begin", "end", "new", "places", "gaps", "at", "place", "before", "whole", "both", "edit", "word"]
theorem scLaw : FnScope NL ["script"] (defScope sLaw) := ⟨rfl, rfl, rfl, by decide +kernel, rfl, by decide +kernel, by decide +kernel⟩
abbrev stL (i : Nat) : Stmt := (defBody sLaw).getD i (.Pass ⟨0, 0, 0, 0⟩)
abbrev XL (P : Program) (w : World) (K : PySem.W.Frag) (mg : Str → Option Value) (base : Heap) (fL : Addr) (cdv : Value) (A : Around) (outer : List Env) (s : Shared) (H : Hp) (E : XK) : Cx :=
  (cxOf CX0 P w K mg base NL "law" (defScope sLaw) fL cdv A outer s H E).nox
theorem and_one {t u : TT} {σ : L2.St} {H : Hp} {Q : Bool → Hp → Prop} {c d : Prop} [Decidable c] [Decidable d] (ht : ∀ Q' : Bool → Hp → Prop, Q' (decide c) H → t σ H Q') (hu : c → ∀ Q' : Bool → Hp → Prop, Q' (decide d) H → u σ H Q')
    (q : Q (decide (c ∧ d)) H) : tAnd t u σ H Q := by
  unfold tAnd
  refine ht _ ?_
  by_cases hc : c
  · rw [decide_eq_true hc]
    refine iteT (hu hc _ ?_)
    have e : decide (c ∧ d) = decide d := by
      by_cases hd : d
      · rw [decide_eq_true hd, decide_eq_true ⟨hc, hd⟩]
      · rw [decide_eq_false hd, decide_eq_false fun z => hd z.2]
    rw [← e]
    exact q
  · rw [decide_eq_false hc]
    refine iteF ?_
    rw [decide_eq_false fun z => hc z.1] at q
    exact q
theorem ite2d {c A B : Prop} [Decidable c] (h1 : c → A) (h2 : ¬ c → B) : if decide c = true then A else B := by
  by_cases h : c
  · rw [decide_eq_true h]
    exact iteT (h1 h)
  · rw [decide_eq_false h]
    exact iteF (h2 h)
theorem or_one {t u : TT} {σ : L2.St} {H : Hp} {Q : Bool → Hp → Prop} {c d : Prop} [Decidable c] [Decidable d] (ht : ∀ Q' : Bool → Hp → Prop, Q' (decide c) H → t σ H Q') (hu : ¬ c → ∀ Q' : Bool → Hp → Prop, Q' (decide d) H → u σ H Q')
    (q : Q (decide (c ∨ d)) H) : tOr t u σ H Q := by
  unfold tOr
  refine ht _ ?_
  by_cases hc : c
  · rw [decide_eq_true hc]
    refine iteT ?_
    rw [decide_eq_true (Or.inl hc)] at q
    exact q
  · rw [decide_eq_false hc]
    refine iteF (hu hc _ ?_)
    have e : decide (c ∨ d) = decide d := by
      by_cases hd : d
      · rw [decide_eq_true hd, decide_eq_true (Or.inr hd)]
      · rw [decide_eq_false hd, decide_eq_false fun z => z.elim hc hd]
    rw [← e]
    exact q
/-- a def of the module -/
structure Cl (P : Program) (w : World) (K : PySem.W.Frag) (mg : Str → Option Value) (base : Heap) (x : Str) (ps : List Str) (sp : Sp) : Prop where
  ex : ∃ f fd, FnOk P w K mg base CX0 20 f fd ps sp ∧ L2.Binds K fd ps [] ∧ PySem.W.keepIn K (.ref f) = true ∧ mg x = some (.ref f)
theorem pe_cl {X : Cx} {x : Str} {ps : List Str} {sp : Sp} {e : Expr} {es : List Expr} {t : TA} {p pos : Pos} (C : Cl X.prog X.w X.K X.mg X.base x ps sp) (hr : Room 20 X.A) (ha : PA X (e :: es) t) (hg : Gl X x := by rfl)
    (hdb : (x == ("__debug__" : Str)) = false := by decide) (he : starEach (e :: es) X.env = (false, eval e X.env) :: starEach es X.env := by rfl) (hpl : (backTo pos (starEach es X.env)).any (·.1) = false := by rfl) :
    PE X (.Call (.Name x p) (e :: es) [] pos) (tCall sp [] E0 t) := by
  obtain ⟨f, fd, G, b, k, m⟩ := C.ex
  exact pe_call G hr hg m k b .nil pass0 ha hdb he hpl
/-- a method of the class at C -/
structure MtC (P : Program) (w : World) (K : PySem.W.Frag) (mg : Str → Option Value) (base : Heap) (C : Addr) (m : Str) (ps : List Str) (sp : Sp) : Prop where
  ex : ∃ f fd, Meth K C m f ∧ FnOk P w K mg base CX0 20 f fd ps sp ∧ L2.Binds K fd ps []
/-- a special method of the class at C -/
structure SpC (P : Program) (w : World) (K : PySem.W.Frag) (mg : Str → Option Value) (base : Heap) (C : Addr) (m : Str) (ps : List Str) (sp : Sp) : Prop where
  ex : ∃ f fd, PySem.W.findIn K (.ref C) m = some (some (.ref f)) ∧ PySem.W.isFn K (.ref f) = true ∧ FnOk P w K mg base CX0 12 f fd ps sp ∧ L2.Binds K fd ps []
theorem passLN {X : Cx} : Passes (L2N.CX X.prog X.w) X E0 := fun _ _ _ _ _ _ _ h => by
  obtain ⟨_, _, _, _, _, _, _, _, _, _, _, _, z⟩ := h
  exact z.elim
/-- patches are called; one that does not fit raises -/
structure ClP (P : Program) (w : World) (K : PySem.W.Frag) (mg : Str → Option Value) (base : Heap) (CP CB : Addr) : Prop where
  ex : ∃ f, StX.CallO K CP f ∧ FnR P w K mg base (L2N.CX P w) 20 f (fun vs H Q E => spPCall K CP CB (vs ++ []) H Q E)
/-- the class of patches -/
structure PC (K : PySem.W.Frag) (C : Addr) : Prop where
  cl : Cls K C
  nC : NoAttr K C "changes"
  nL : NoAttr K C "least"
structure CK (P : Program) (w : World) (K : PySem.W.Frag) (mg : Str → Option Value) (base : Heap) (CE CP CB : Addr) : Prop where
  next : Cl P w K mg base "_law_next" ["draw", "bound"] spNext
  wds : Cl P w K mg base "_law_words" ["draw", "many"] spWds
  les : Cl P w K mg base "_law_edits" ["draw", "many", "turns"] (spLEs K CE)
  dn : Cl P w K mg base "_law_done" ["edits", "words"] (spDn K CE)
  mks : Cl P w K mg base "_law_marks" ["many"] spMks
  lst : Cl P w K mg base "_law_least" ["edits"] (spLst K CE)
  pat : Cl P w K mg base "patch" ["edits"] (spPatch K CE CP)
  beh : Cl P w K mg base "behind" ["one", "other"] (spBeh K CP)
  gE : MtC P w K mg base CE "growth" ["self"] (spGrow K CE)
  gP : MtC P w K mg base CP "growth" ["self"] (spPGrow K CP)
  eds : MtC P w K mg base CP "edits" ["self"] (spPEds K CE CP)
  lenP : SpC P w K mg base CP "__len__" ["self"] (spPLen K CP)
  boolP : SpC P w K mg base CP "__bool__" ["self"] (spPBool K CP)
  eqP : SpC P w K mg base CP "__eq__" ["self", "other"] (spPEq K CP)
  neP : PySem.W.findIn K (.ref CP) "__ne__" = some (some (.builtin "object.__ne__"))
  obP : PySem.W.subIn K (.ref CP) (.type "object") = some true
  call : ClP P w K mg base CP CB
  mkE : ∃ fI fdI, MkE P w K mg base CE fI fdI
  clE : EC K CE
  clP : PC K CP
  range : mg "range" = none
  len : mg "len" = none
  bool : mg "bool" = none
  sum : mg "sum" = none
  tup : mg "tuple" = none
  lst' : mg "list" = none
  enum : mg "enumerate" = none
theorem mk_edV {K : PySem.W.Frag} {CE : Addr} {Q : Addr → Hp → Prop} {E : XK} {l : Addr} {i j : Int} {e : Ed} {H : Hp} (hi : i = e.a) (hj : j = e.b) (hS : SqE K H l (e.ws.map V.str)) (he : e.Ok) (q : ∀ H' x, Same H H' → H x = none → EdH K CE H' x e → Q x H') :
    ∀ x dx, H x = none → H dx = none → dx ≠ x → spInit K CE (.ref x :: ([.int i, .int j, .ref l] ++ [])) (upd (upd H dx (.own x)) x (.ins CE dx [])) (fun v H2 => v = .non ∧ Q x H2) E := by
  subst hi hj
  intro x dx hx hdx hne
  have s1 : Same H (upd (upd H dx (.own x)) x (.ins CE dx [])) := (Same.new hdx _).trans (Same.new (by rw [upd_ne (Ne.symm hne)]; exact hx) _)
  refine ⟨x, dx, l, e, rfl, upd_same, hS.same s1, he, fun H' hB hE => ⟨rfl, q H' x (fun b o hb => hB _ _ (fun z => ?_) (s1 _ _ hb)) hx hE⟩⟩
  rw [z, hx] at hb
  cases hb
section
variable {P : Program} {w : World} {K : PySem.W.Frag} {mg : Str → Option Value} {base : Heap} {fL CE CP CB : Addr} {cdv : Value} {A : Around} {outer : List Env} {s : Shared} {H0 : Hp} {E : XK}
theorem law0 : ∃ t, PS (XL P w K mg base fL cdv A outer s H0 E) (stL 0) t ∧ ∀ (D : Ends) (a : Addr) (ns : List Int) (v : Option V) (r : List (Option V)) (H : Hp), SqL K H a (ns.map V.int) → ns.length ≤ 63 →
    (∀ d sa H', DrwS H' d sa → D.nx (some (.ref a) :: some (.ref d) :: r) H') → t D (some (.ref a) :: v :: r) H := by
  refine ⟨_, ps_set (i := 1) scLaw.nd rfl (Or.inl rfl) (pe_lst (pa_cons (pe_slice (r := rSlL K) sl_list (pv 0) po_none (po_some pe_int)) (pa_cons pe_int (pa_cons pe_int pa_nil)))), ?_⟩
  intro D a ns v r H hS hl q
  refine ⟨_, rfl, _, rfl, a, _, rfl, hS, fun p hp => ⟨(by show 3 ≤ sizeLine; decide), fun d hd => ?_⟩⟩
  have s1 := Same.new hp (.lst (cutV (ns.map V.int) none (some 63)))
  have s2 := Same.new hd (.lst [.ref p, .int 0, .int 0])
  refine q d p _ ⟨ns.take 63, 0, upd_same, s2 _ _ ?_, by rw [List.length_take]; omega, Int.le_refl _⟩
  rw [upd_same]
  unfold cutV
  rw [show HT.sIx (ns.map V.int).length 0 none = 0 from rfl, show (some (63 : Int)) = some ((63 : Nat) : Int) from rfl, six0, List.drop_zero, Nat.sub_zero, List.map_take]
  by_cases h : 63 ≤ (ns.map V.int).length
  · rw [Nat.min_eq_left h]
  · rw [Nat.min_eq_right (by omega), List.take_of_length_le (Nat.le_refl _), List.take_of_length_le (by omega)]
theorem law1 (hr : Room 20 (XL P w K mg base fL cdv A outer s H0 E).A) (C : CK P w K mg base CE CP CB) : ∃ t, PS (XL P w K mg base fL cdv A outer s H0 E) (stL 1) t ∧ ∀ (D : Ends) (a d sa : Addr) (v : Option V) (r : List (Option V)) (H : Hp), DrwS H d sa →
    (∀ (n : Nat) H', DrwS H' d sa → 3 ≤ n → n ≤ 10 → D.nx (some (.ref a) :: some (.ref d) :: some (.int n) :: r) H') → t D (some (.ref a) :: some (.ref d) :: v :: r) H := by
  refine ⟨_, ps_set (i := 2) scLaw.nd rfl (Or.inl rfl) (pe_op op_add pe_int (pe_cl C.next hr (pa_cons (pv 1) (pa_cons pe_int pa_nil)))), ?_⟩
  intro D a d sa v r H hd q
  refine ⟨_, rfl, d, sa, 8, rfl, hd, by decide, fun r1 H1 r10 r11 a1 d1 => ⟨_, _, rfl, rfl, ?_⟩⟩
  obtain ⟨k, rfl⟩ : ∃ k : Nat, r1 = k := ⟨r1.toNat, by omega⟩
  have := q (3 + k) H1 d1 (by omega) (by omega)
  rw [show ((3 + k : Nat) : Int) = 3 + (k : Int) from by omega] at this
  exact this
/-- a drawn row of edits -/
structure RowH (K : PySem.W.Frag) (CE : Addr) (H : Hp) (l : Addr) (cs : List Addr) (es : List Ed) : Prop where
  at_ : H l = some (.lst (cs.map V.ref))
  eds : EdsH K CE H cs es
theorem RowH.same {H H' : Hp} {l : Addr} {cs : List Addr} {es : List Ed} (s : Same H H') (h : RowH K CE H l cs es) : RowH K CE H' l cs es := ⟨s _ _ h.at_, h.eds.imp fun _ _ q => q.same s⟩
theorem RowH.ne {H : Hp} {l d sa : Addr} {cs : List Addr} {es : List Ed} (hd : DrwS H d sa) (h : RowH K CE H l cs es) : l ≠ d := hd.drw.ne h.at_ refs_nd
theorem RowH.aft {H H' : Hp} {l d sa : Addr} {cs : List Addr} {es : List Ed} (hd : DrwS H d sa) (s : Aft H H' d) (h : RowH K CE H l cs es) : RowH K CE H' l cs es := ⟨s _ _ (h.ne hd) h.at_, h.eds.imp fun _ _ q => q.aft hd s⟩
/-- what the law's edits are -/
structure RowOk (es : List Ed) (n k : Nat) : Prop where
  fits : Fits es n
  few : Few es
  len : es.length ≤ k
  siz : siz es n ≤ n + 2 * k
theorem RowH.ok {H : Hp} {l : Addr} {cs : List Addr} {es : List Ed} (h : RowH K CE H l cs es) : ∀ e ∈ es, e.Ok := fun e he => by
  obtain ⟨i, hi⟩ := List.getElem?_of_mem he
  have hlen := h.eds.len
  have hilt : i < es.length := by
    by_cases z : i < es.length
    · exact z
    · rw [List.getElem?_eq_none (by omega)] at hi
      cases hi
  obtain ⟨e', h1, h2⟩ := h.eds.get (i := i) (c := cs[i]'(by omega)) (List.getElem?_eq_getElem (by omega))
  rw [hi] at h1
  cases h1
  obtain ⟨_, _, _, _, ho⟩ := h2
  exact ho
theorem law2 (hr : Room 20 (XL P w K mg base fL cdv A outer s H0 E).A) (C : CK P w K mg base CE CP CB) : ∃ t, PS (XL P w K mg base fL cdv A outer s H0 E) (stL 2) t ∧ ∀ (D : Ends) (a d sa : Addr) (n : Nat) (v v' : Option V) (r : List (Option V)) (H : Hp), DrwS H d sa → n ≤ 10 →
    (∀ o1 o2 c1 c2 e1 e2 H', DrwS H' d sa → RowH K CE H' o1 c1 e1 → RowH K CE H' o2 c2 e2 → RowOk e1 n 5 → RowOk e2 n 3 → o2 ≠ d → o2 ≠ sa → o1 ≠ o2 → D.nx (some (.ref a) :: some (.ref d) :: some (.int n) :: some (.ref o1) :: some (.ref o2) :: r) H') →
    t D (some (.ref a) :: some (.ref d) :: some (.int n) :: v :: v' :: r) H := by
  refine ⟨_, ps_par (i := 3) (j := 4) rfl scLaw.nd rfl rfl (by decide) rfl rfl (pa_cons (pe_cl C.les hr (pa_cons (pv 1) (pa_cons (pv 2) (pa_cons (pe_cl C.next hr (pa_cons (pv 1) (pa_cons pe_int pa_nil))) pa_nil))))
    (pa_cons (pe_cl C.les hr (pa_cons (pv 1) (pa_cons (pv 2) (pa_cons (pe_cl C.next hr (pa_cons (pv 1) (pa_cons pe_int pa_nil))) pa_nil)))) pa_nil)) rfl, ?_⟩
  intro D a d sa n v v' r H hd hn q
  refine ⟨_, rfl, _, rfl, _, rfl, d, sa, 6, rfl, hd, by decide, fun r1 H1 r10 r11 a1 d1 => ?_⟩
  obtain ⟨k1, rfl⟩ : ∃ k : Nat, r1 = k := ⟨r1.toNat, by omega⟩
  refine ⟨d, sa, n, k1, rfl, d1, by omega, by omega, fun H2 o1 c1 e1 a2 d2 f1 n1 m1 hb1 he1 l1 t1 w1 z1 => ?_⟩
  refine ⟨_, rfl, _, rfl, _, rfl, d, sa, 4, rfl, d2, by decide, fun r3 H3 r30 r31 a3 d3 => ?_⟩
  obtain ⟨k2, rfl⟩ : ∃ k : Nat, r3 = k := ⟨r3.toNat, by omega⟩
  refine ⟨d, sa, n, k2, rfl, d3, by omega, by omega, fun H4 o2 c2 e2 a4 d4 f2 n2 m2 hb2 he2 l2 t2 w2 z2 => ⟨_, _, rfl, ?_⟩⟩
  have R1 : RowH K CE H2 o1 c1 e1 := ⟨hb1, he1⟩
  have R3 := R1.aft d2 a3
  refine q o1 o2 c1 c2 e1 e2 H4 d4 (R3.aft d3 a4) ⟨hb2, he2⟩ ⟨t1, w1, by omega, by omega⟩ ⟨t2, w2, by omega, by omega⟩ n2 m2 ?_
  exact ne_of_none R3.at_ f2
end
end P5

end
section
set_option Elab.async false
set_option linter.all false
set_option maxRecDepth 100000
set_option maxHeartbeats 4000000
namespace P5
open PySem PySem.Spec PyProof.Rows L2
section
variable {P : Program} {w : World} {K : PySem.W.Frag} {mg : Str → Option Value} {base : Heap} {fL CE CP CB : Addr} {cdv : Value} {A : Around} {outer : List Env} {s : Shared} {H0 : Hp} {E : XK}
theorem law3 (hr : Room 20 (XL P w K mg base fL cdv A outer s H0 E).A) (C : CK P w K mg base CE CP CB) : ∃ t, PS (XL P w K mg base fL cdv A outer s H0 E) (stL 3) t ∧ ∀ (D : Ends) (a d sa o1 o2 : Addr) (c1 c2 : List Addr) (e1 e2 : List Ed) (n : Nat) (H : Hp), DrwS H d sa → RowH K CE H o1 c1 e1 → RowH K CE H o2 c2 e2 → RowOk e1 n 5 → RowOk e2 n 3 →
    (∀ o2 c2 e2 H', DrwS H' d sa → RowH K CE H' o1 c1 e1 → RowH K CE H' o2 c2 e2 → RowOk e2 n 6 → D.nx [some (.ref a), some (.ref d), some (.int n), some (.ref o1), some (.ref o2), none, none, none, none, none, none, none, none, none, none, none, none, none, none, none, none, none, none, none, none] H') → t D [some (.ref a), some (.ref d), some (.int n), some (.ref o1), some (.ref o2), none, none, none, none, none, none, none, none, none, none, none, none, none, none, none, none, none, none, none, none] H := by
  obtain ⟨fI, fdI, J⟩ := C.mkE
  refine ⟨_, ps_if (pt_cmpR op_eq (pe_cl C.next hr (pa_cons (pv 1) (pa_cons pe_int pa_nil))) pe_int (nomark _))
    (pss_cons (ps_setLc (i := 4) (own := [("edit", 23)]) (g := gName 23) rfl scLaw.nd rfl rfl (sw_true rfl rfl rfl (by decide +kernel)) (pi_list (pv 3))
      (blkOk_by (N := NL) (sc := defScope sLaw) (by decide +kernel)) (fun _ _ _ _ _ => pg_name (i := 23) scLaw.nd rfl (Or.inl rfl)) (fun _ _ _ _ _ => pts_nil) (fun _ _ _ _ _ => pv 23))
    (pss_one (ps_expr (pe_bm PySem.F.plainAttrs_list PySem.F.slot_list_append PySem.F.type_list_append mt_append (pv 4)
      (pa_cons (pe_make (E := E0) J.M J.F (hr.mono (by decide)) rfl J.m J.b .nil pass0 (pa_cons pe_int (pa_cons pe_int (pa_cons (pe_lst pa_nil) pa_nil)))) pa_nil))))) pss_nil, ?_⟩
  intro D a d sa o1 o2 c1 c2 e1 e2 n H hd h1 h2 k1 k2 q
  refine ⟨_, rfl, d, sa, 3, rfl, hd, by decide, fun r1 H1 r10 r11 a1 d1 => ⟨rfl, _, rfl, ite2 (fun c => ?_) (fun c => ?_)⟩⟩
  · have R1 := h1.aft hd a1
    refine ⟨_, rfl, o1, rfl, ⟨_, SqL.of R1.at_⟩, fun L hL => ?_⟩
    have nL := d1.new hL
    have hcl : c1.length ≤ 10 := by have := R1.eds.len; have := k1.len; omega
    refine lcL (c1.map V.ref) (by rw [List.length_map]) (by rw [List.length_map]; omega) (SqL.of R1.at_) hL (fun i y x H' Q' hx hy s k => ?_) fun H2 s2 hL2 => ?_
    · have e : x = y := by rw [hx] at hy; exact Option.some.inj hy
      subst e
      exact ⟨rfl, _, rfl, k H' (Same.refl _)⟩
    · refine ⟨_, rfl, .inl ⟨rfl, _, .inl (.inl hL2)⟩, (by show 0 ≤ sizeLine; decide), fun p hp => ?_⟩
      have s3 := Same.new hp (.lst [])
      have c3 : upd H2 p (.lst []) p = some (.lst (([] : List Str).map V.str)) := upd_same
      generalize upd H2 p (.lst []) = H3 at *
      refine mk_edV (i := 0) (j := 0) (e := ⟨0, 0, []⟩) rfl rfl (.inl (SqL.of c3)) ⟨Nat.le_refl _, fun x hx => (nomatch hx), Nat.zero_le _, Nat.zero_le _⟩ fun H4 x0 s4 hx0 hE0 => ?_
      have s24 := s3.trans s4
      have hL4 := s24 _ _ hL2
      have s14 := s2.trans s24
      refine ⟨L, _, .ref x0, rfl, rfl, hL4, small1000 (by rw [List.length_map]; omega), ?_⟩
      have R4 := R1.same s14
      have hne : o1 ≠ L := ne_of_none R1.at_ hL
      refine q L (c1 ++ [x0]) (e1 ++ [⟨0, 0, []⟩]) _ ((d1.same s14).upd nL.1 nL.2) ⟨by rw [upd_ne hne]; exact R4.at_, R4.eds.imp fun _ _ z => z.put hL4⟩ ⟨by rw [upd_same, List.map_append]; rfl, EdsH.snoc (hE0.put hL4) (R4.eds.imp fun _ _ z => z.put hL4)⟩ ⟨k1.fits.snoc (Nat.zero_le _), ?_, ?_, ?_⟩
      · intro e' he'
        rcases List.mem_append.mp he' with h' | h'
        · exact k1.few e' h'
        · cases List.mem_singleton.mp h'
          exact ⟨Nat.zero_le _, fun x hx => (nomatch hx)⟩
      · rw [List.length_append]
        have := k1.len
        show e1.length + 1 ≤ 6
        omega
      · rw [siz_snoc]
        have := k1.siz
        show siz e1 n + 0 - (0 - 0) ≤ n + 2 * 6
        omega
  · have z := k2.len
    have z2 := k2.siz
    exact q o2 c2 e2 H1 d1 (h1.aft hd a1) (h2.aft hd a1) ⟨k2.fits, k2.few, by omega, by omega⟩
theorem few_tot {es : List Ed} {k : Nat} (h : Few es) (hl : es.length ≤ k) : tot es ≤ 2 * k := by
  have z : ∀ {es : List Ed}, Few es → tot es ≤ 2 * es.length := fun {es} h => by
    induction es with
    | nil => exact Nat.le_refl _
    | cons e es ih =>
      have h1 := (h e List.mem_cons_self).1
      have h2 := ih fun x hx => h x (List.mem_cons_of_mem _ hx)
      show e.ws.length + tot es ≤ 2 * (es.length + 1)
      omega
  have := z h
  omega
theorem law4 (hr : Room 20 (XL P w K mg base fL cdv A outer s H0 E).A) (C : CK P w K mg base CE CP CB) : ∃ t, PS (XL P w K mg base fL cdv A outer s H0 E) (stL 4) t ∧ ∀ (D : Ends) (a d sa o1 o2 : Addr) (c1 c2 : List Addr) (e1 e2 : List Ed) (n : Nat) (H : Hp), DrwS H d sa → RowH K CE H o1 c1 e1 → RowH K CE H o2 c2 e2 → RowOk e1 n 5 → RowOk e2 n 6 → n ≤ 10 →
    (∀ p1 p2 C1 C2 m1 m2 H', Same H H' → PtH K CP H' p1 C1 m1 → PtH K CP H' p2 C2 m2 → NF e1 C1 m1 → NF e2 C2 m2 → D.nx [some (.ref a), some (.ref d), some (.int n), some (.ref o1), some (.ref o2), some (.ref p1), some (.ref p2), none, none, none, none, none, none, none, none, none, none, none, none, none, none, none, none, none, none] H') → t D [some (.ref a), some (.ref d), some (.int n), some (.ref o1), some (.ref o2), none, none, none, none, none, none, none, none, none, none, none, none, none, none, none, none, none, none, none, none] H := by
  refine ⟨_, ps_par (i := 5) (j := 6) rfl scLaw.nd rfl rfl (by decide) rfl rfl (pa_cons (pe_cl C.pat hr (pa_cons (pv 3) pa_nil)) (pa_cons (pe_cl C.pat hr (pa_cons (pe_callTy call_tuple_of rfl C.tup (by decide +kernel) (pa_cons (pv 4) pa_nil)) pa_nil)) pa_nil)) rfl, ?_⟩
  intro D a d sa o1 o2 c1 c2 e1 e2 n H hd h1 h2 k1 k2 hn q
  have t1 := few_tot k1.few k1.len
  have t2 := few_tot k2.few k2.len
  have l1 := k1.len
  have l2 := k2.len
  refine ⟨_, rfl, o1, c1, e1, n, rfl, .inl (SqL.of h1.at_), h1.eds, k1.fits, by omega, by omega, by omega, fun H1 p1 C1 m1 s1 f1 q1 nf1 => ?_⟩
  have R2 := h2.same s1
  refine ⟨_, rfl, o2, _, rfl, .inl ⟨SqL.of R2.at_, fun l hl => ?_⟩⟩
  have s2 := Same.new hl (.tup (c2.map V.ref))
  have R3 := R2.same s2
  refine ⟨l, c2, e2, n, rfl, .inr (SqT.of upd_same), R3.eds, k2.fits, by omega, by omega, by omega, fun H3 p2 C2 m2 s3 f2 q2 nf2 => ⟨_, _, rfl, ?_⟩⟩
  exact q p1 p2 C1 C2 m1 m2 H3 ((s1.trans s2).trans s3) (q1.same (s2.trans s3)) q2 nf1 nf2
end
end P5

end
section
set_option Elab.async false
set_option linter.all false
set_option maxRecDepth 100000
set_option maxHeartbeats 4000000
namespace P5
open PySem PySem.Spec PyProof.Rows L2
section
variable {P : Program} {w : World} {K : PySem.W.Frag} {mg : Str → Option Value} {base : Heap} {fL CE CP CB : Addr} {cdv : Value} {A : Around} {outer : List Env} {s : Shared} {H0 : Hp} {E : XK}
theorem done_le : ∀ {es : List Ed} {l : List Str}, (∀ e ∈ es, e.Ok) → Few es → Fits es l.length → (done es l).length ≤ l.length + 2 * es.length
  | [], l, _, _, _ => Nat.le_refl _
  | e :: es, l, ho, h, hf => by
    have h1 := (h e List.mem_cons_self).1
    have hle := (ho e List.mem_cons_self).le
    have hs := app_siz hf.1 hle
    have ih := done_le (es := es) (l := app e l) (fun x hx => ho x (List.mem_cons_of_mem _ hx)) (fun x hx => h x (List.mem_cons_of_mem _ hx)) (by rw [hs]; exact hf.2)
    show (done es (app e l)).length ≤ l.length + 2 * (es.length + 1)
    omega
/-- the law's words: as many as are drawn, or some more -/
structure WdH (H : Hp) (lw : Addr) (ws : List Str) (n : Nat) : Prop where
  ls : LsH H lw ws
  lo : n ≤ ws.length
  hi : ws.length ≤ n + 5
theorem law5 (hr : Room 20 (XL P w K mg base fL cdv A outer s H0 E).A) (C : CK P w K mg base CE CP CB) : ∃ t, PS (XL P w K mg base fL cdv A outer s H0 E) (stL 5) t ∧ ∀ (D : Ends) (a d sa o1 o2 p1 p2 : Addr) (c1 c2 : List Addr) (e1 e2 C1 C2 : List Ed) (n m1 m2 : Nat) (H : Hp), DrwS H d sa → RowH K CE H o1 c1 e1 → RowH K CE H o2 c2 e2 → RowOk e1 n 5 → RowOk e2 n 6 → n ≤ 10 →
    PtH K CP H p1 C1 m1 → PtH K CP H p2 C2 m2 → NF e1 C1 m1 → NF e2 C2 m2 →
    (∀ v7 H', Aft H H' d → DrwS H' d sa → D.nx [some (.ref a), some (.ref d), some (.int n), some (.ref o1), some (.ref o2), some (.ref p1), some (.ref p2), v7, none, none, none, none, none, none, none, none, none, none, none, none, none, none, none, none, none] H') → t D [some (.ref a), some (.ref d), some (.int n), some (.ref o1), some (.ref o2), some (.ref p1), some (.ref p2), none, none, none, none, none, none, none, none, none, none, none, none, none, none, none, none, none, none] H := by
  obtain ⟨fC, cC, GC⟩ := C.call.ex
  have hu := hu64 hr
  refine ⟨_, ps_for PassesOwn.never rfl (pi_list (pe_lst (pa_cons (pe_cl C.mks hr (pa_cons (pv 2) pa_nil)) (pa_cons (pe_cl C.wds hr (pa_cons (pv 1) (pa_cons (pv 2) pa_nil))) (pa_cons (pe_cl C.mks hr (pa_cons (pe_op op_add (pv 2) pe_int) pa_nil)) pa_nil)))))
      (pg_name (i := 7) scLaw.nd rfl (Or.inl rfl))
    (pss_one (ps_if (PW.pt (pw_or (pt_cmpR (op_neW hu) (StX.pe_callO (pv 5) cC GC hr passLN (pa_cons (pv 7) pa_nil)) (pe_cl C.dn hr (pa_cons (pv 3) (pa_cons (pv 7) pa_nil))) (nomark _))
      (pw_or1 (pt_cmpR (op_neW hu) (StX.pe_callO (pv 6) cC GC hr passLN (pa_cons (pe_callTy call_tuple_of rfl C.tup (by decide +kernel) (pa_cons (pv 7) pa_nil)) pa_nil)) (pe_cl C.dn hr (pa_cons (pv 4) (pa_cons (pv 7) pa_nil))) (nomark _))))) (pss_one ps_never) pss_nil)), ?_⟩
  intro D a d sa o1 o2 p1 p2 c1 c2 e1 e2 C1 C2 n m1 m2 H hd h1 h2 k1 k2 hn q1 q2 nf1 nf2 q
  refine ⟨_, rfl, n, rfl, by omega, fun H1 l1 s1 f1 L1 => ?_⟩
  have d1 := hd.same s1
  refine ⟨_, rfl, _, rfl, d, sa, n, rfl, d1, by omega, fun H2 l2 w2 a2 d2 f2 L2' hw2 hp2 => ?_⟩
  refine ⟨_, rfl, _, _, rfl, rfl, n + 5, congrArg (fun z : Int => [V.int z]) (by omega), by omega, fun H3 l3 s3 f3 L3 => ?_⟩
  refine ⟨(by show 3 ≤ sizeLine; decide), fun p hp => ?_⟩
  have s4 := Same.new hp (.lst [.ref l1, .ref l2, .ref l3])
  have hp4 : upd H3 p (.lst [.ref l1, .ref l2, .ref l3]) p = some (.lst [.ref l1, .ref l2, .ref l3]) := upd_same
  have W1 : WdH (upd H3 p (.lst [.ref l1, .ref l2, .ref l3])) l1 (MKS n) n := ⟨((L1.aft d1 a2).same s3).same s4, by rw [MKS_len]; omega, by rw [MKS_len]; omega⟩
  have W2 : WdH (upd H3 p (.lst [.ref l1, .ref l2, .ref l3])) l2 w2 n := ⟨(L2'.same s3).same s4, by omega, by omega⟩
  have W3 : WdH (upd H3 p (.lst [.ref l1, .ref l2, .ref l3])) l3 (MKS (n + 5)) n := ⟨L3.same s4, by rw [MKS_len]; omega, by rw [MKS_len]; omega⟩
  have aA : Aft H (upd H3 p (.lst [.ref l1, .ref l2, .ref l3])) d := ((Aft.of s1).trans a2).trans ((Aft.of s3).trans (Aft.of s4))
  have dA := (d2.same s3).same s4
  generalize upd H3 p (.lst [.ref l1, .ref l2, .ref l3]) = HA at *
  have g1 := h1.aft hd aA
  have g2 := h2.aft hd aA
  have r1 := q1.aft hd aA
  have r2 := q2.aft hd aA
  refine ⟨p, rfl, ⟨_, SqL.of hp4⟩, ?_⟩
  refine for_list (xs := [.ref l1, .ref l2, .ref l3]) (fun i σ H' => Same HA H' ∧ ∃ v7, σ = [some (.ref a), some (.ref d), some (.int n), some (.ref o1), some (.ref o2), some (.ref p1), some (.ref p2), v7, none, none, none, none, none, none, none, none, none, none, none, none, none, none, none, none, none]) ⟨Same.refl _, none, rfl⟩ (fun i σ H' _ ⟨s2, _⟩ => SqL.of (s2 _ _ hp4)) ?_ ?_
  · rintro i x σ H5 hx ⟨s5, v7, rfl⟩
    obtain ⟨lw, ws, rfl, hW⟩ : ∃ lw ws, x = V.ref lw ∧ WdH HA lw ws n := by
      rcases i with _ | _ | _ | i
      · cases hx
        exact ⟨l1, _, rfl, W1⟩
      · cases hx
        exact ⟨l2, _, rfl, W2⟩
      · cases hx
        exact ⟨l3, _, rfl, W3⟩
      · simp at hx
    have hl := hW.ls.same s5
    have lo := hW.lo
    have hi := hW.hi
    have G1 := g1.same s5
    have G2 := g2.same s5
    have F1 : Fits e1 ws.length := k1.fits.mono (fun e he => (G1.ok e he).le) lo
    have F2 : Fits e2 ws.length := k2.fits.mono (fun e he => (G2.ok e he).le) lo
    have M1 : m1 ≤ ws.length := nf1.lst.2 _ F1
    have M2 : m2 ≤ ws.length := nf2.lst.2 _ F2
    have z1 := done_le (fun e he => G1.ok e he) k1.few F1
    have z2 := done_le (fun e he => G2.ok e he) k2.few F2
    have y1 := k1.len
    have y2 := k2.len
    have R1 := nf1.run ws M1
    have R2 := nf2.run ws M2
    refine ⟨_, rfl, p1, rfl, _, rfl, (r1.same s5).insC, p1, lw, C1, m1, ws, rfl, r1.same s5, hl.wse, by rw [R1]; omega, fun _ H6 u6 s6 f6 L6 => ?_, fun z => absurd z (by omega)⟩
    rw [R1] at L6
    refine ⟨_, rfl, _, rfl, o1, lw, c1, e1, ws, rfl, SqL.of (G1.same s6).at_, (G1.same s6).eds, (hl.same s6).wsl, F1, k1.few, by omega, by omega, fun H7 u7 s7 f7 L7 _ => ?_⟩
    refine ⟨u6, u7, done e1 ws, done e1 ws, rfl, rfl, (L6.same s7).wsl.at_, L7.wsl.at_, L6.mrk, L6.mrk, _, rfl, iteFF (by rw [decide_eq_true rfl]; rfl) ?_⟩
    have s57 := s6.trans s7
    refine ⟨_, rfl, p2, rfl, _, rfl, lw, _, rfl, .inl ⟨(hl.same s57).wsl.at_, fun tt htt => ?_⟩⟩
    have s8 := Same.new htt (.tup (ws.map V.str))
    have hT : WsE K (upd H7 tt (.tup (ws.map V.str))) tt ws := ⟨.inr (SqT.of upd_same), hl.mrk, hl.sm⟩
    have s58 := s57.trans s8
    generalize upd H7 tt (.tup (ws.map V.str)) = H8 at *
    have r28 := (r2.same s5).same s58
    refine ⟨r28.insC, p2, tt, C2, m2, ws, rfl, r28, hT, by rw [R2]; omega, fun _ H9 u9 s9 f9 L9 => ?_, fun z => absurd z (by omega)⟩
    rw [R2] at L9
    have s59 := s58.trans s9
    have G29 := G2.same s59
    refine ⟨_, rfl, _, rfl, o2, lw, c2, e2, ws, rfl, SqL.of G29.at_, G29.eds, (hl.same s59).wsl, F2, k2.few, by omega, by omega, fun H10 u10 s10 f10 L10 _ => ?_⟩
    refine ⟨u9, u10, done e2 ws, done e2 ws, rfl, rfl, (L9.same s10).wsl.at_, L10.wsl.at_, L9.mrk, L9.mrk, _, rfl, iteFF (by rw [decide_eq_true rfl]; rfl) ?_⟩
    exact ⟨s5.trans (s59.trans s10), _, rfl⟩
  · rintro σ H5 ⟨s5, v7, rfl⟩
    exact q v7 H5 (aA.trans (Aft.of s5)) (dA.same s5)
theorem law6 (hr : Room 20 (XL P w K mg base fL cdv A outer s H0 E).A) (C : CK P w K mg base CE CP CB) : ∃ t, PS (XL P w K mg base fL cdv A outer s H0 E) (stL 6) t ∧ ∀ (D : Ends) (a d o1 o2 p1 p2 : Addr) (c1 : List Addr) (e1 C1 : List Ed) (n m1 : Nat) (v7 : Option V) (H : Hp), RowH K CE H o1 c1 e1 → RowOk e1 n 5 → n ≤ 10 →
    PtH K CP H p1 C1 m1 → NF e1 C1 m1 → (∀ H', Same H H' → D.nx [some (.ref a), some (.ref d), some (.int n), some (.ref o1), some (.ref o2), some (.ref p1), some (.ref p2), v7, none, none, none, none, none, none, none, none, none, none, none, none, none, none, none, none, none] H') → t D [some (.ref a), some (.ref d), some (.int n), some (.ref o1), some (.ref o2), some (.ref p1), some (.ref p2), v7, none, none, none, none, none, none, none, none, none, none, none, none, none, none, none, none, none] H := by
  obtain ⟨fG, fdG, MG, GG, bG⟩ := C.gP.ex
  obtain ⟨fE, fdE, ME, GE, bE⟩ := C.gE.ex
  refine ⟨_, ps_if (PW.pt (pw_or (pt_cmpR op_ne (pe_fld (pv 5) rfl) (pe_cl C.lst hr (pa_cons (pv 3) pa_nil)) (nomark _))
    (pw_or1 (pt_cmpR op_ne (pe_meth0 (pv 5) C.clP.cl MG GG hr bG .nil pass0) (pe_callB (cr_sum rfl) rfl C.sum (by decide +kernel) (pa_cons
      (pe_lc (own := [("edit", 23)]) (g := gName 23) rfl scLaw.nd (pi_list (pv 3)) (blkOk_by (N := NL) (sc := defScope sLaw) (by decide +kernel)) (fun _ _ _ _ _ => pg_name (i := 23) scLaw.nd rfl (Or.inl rfl)) (fun _ _ _ _ _ => pts_nil)
        (fun _ _ _ _ _ => pe_meth0 (pv 23) C.clE.cl ME GE hr bE .nil pass0)) pa_nil)) (nomark _))))) (pss_one ps_never) pss_nil, ?_⟩
  intro D a d o1 o2 p1 p2 c1 e1 C1 n m1 v7 H h1 k1 hn q1 nf1 q
  obtain ⟨dx, t, vs, hp, hT, hV, hO⟩ := id q1
  refine ⟨_, rfl, p1, CP, dx, _, .int m1, rfl, hp, C.clP.cl, C.clP.nL, rfl, _, rfl, o1, c1, e1, n, rfl, SqL.of h1.at_, h1.eds, k1.fits, by omega, fun m hm => ?_⟩
  have e := hm.uniq nf1.lst
  subst e
  refine ⟨rfl, _, rfl, iteFF (by rw [decide_eq_true rfl]; rfl) ?_⟩
  refine ⟨_, rfl, p1, dx, _, rfl, hp, rfl, p1, C1, m, rfl, q1, fun H1 s1 => ?_⟩
  have R1 := h1.same s1
  have hcl : c1.length ≤ 10 := by have := R1.eds.len; have := k1.len; omega
  refine ⟨_, rfl, o1, rfl, ⟨_, SqL.of R1.at_⟩, fun L hL => lcL ((e1.map grow).map V.int) (by rw [List.length_map, List.length_map, List.length_map]; exact R1.eds.len.symm) (by rw [List.length_map]; omega) (SqL.of R1.at_) hL (fun i y x H' Q' hx hy s k => ?_) fun H2 s2 hL2 => ?_⟩
  · rw [List.getElem?_map] at hx
    cases ec : c1[i]? with
    | none => rw [ec] at hx; cases hx
    | some c =>
      rw [ec] at hx
      cases hx
      obtain ⟨e, hre, hE⟩ := R1.eds.get ec
      rw [List.getElem?_map, List.getElem?_map, hre] at hy
      cases hy
      have hE' := hE.same s
      obtain ⟨dxe, te, hie, _⟩ := id hE'
      exact ⟨rfl, _, rfl, c, dxe, _, rfl, hie, rfl, c, e, rfl, hE', k H' (Same.refl _)⟩
  · refine ⟨L, e1.map grow, rfl, SqL.of hL2, rfl, _, rfl, ?_⟩
    have eg : growC C1 = (e1.map grow).sum := nf_grow nf1 hO fun e he => (h1.ok e he).le
    rw [eg]
    exact iteFF (by rw [decide_eq_true rfl]; rfl) (q H2 (s1.trans s2))
end
end P5

end
section
set_option Elab.async false
set_option linter.all false
set_option maxRecDepth 100000
set_option maxHeartbeats 4000000
namespace P5
open PySem PySem.Spec PyProof.Rows L2
section
variable {P : Program} {w : World} {K : PySem.W.Frag} {mg : Str → Option Value} {base : Heap} {fL CE CP CB : Addr} {cdv : Value} {A : Around} {outer : List Env} {s : Shared} {H0 : Hp} {E : XK}
theorem op_eqI {X : Cx} {CE f : Addr} {fd : FuncData} {k : Nat} {ps : List Str} {sp : Sp} (hs : PySem.W.findIn X.K (.ref CE) "__eq__" = some (some (.ref f))) (hf : PySem.W.isFn X.K (.ref f) = true) (F : FnOk X.prog X.w X.K X.mg X.base CX0 k f fd ps sp) (hb : L2.Binds X.K fd ps []) (hr : Room k X.A) :
    OpR X (compareOp .Eq) (fun x y H Q => ∃ (a b : Addr), x = .ref a ∧ y = .ref b ∧ InsI H a CE ∧ InsI H b CE ∧ sp [.ref a, .ref b] H (fun v H' => ∃ c, v = .bl c ∧ Q (.bl c) H') (fun _ _ _ => False)) := by
  intro pins s σ H x y v u Q I rx ry h
  obtain ⟨a, b, rfl, rfl, ho, ho2, q⟩ := h
  cases (show v = Value.ref a from rx)
  cases (show u = Value.ref b from ry)
  show wpAny (model X.prog X.w) X.A (richCompare .Eq (.ref a) (.ref b)) (EP X pins σ Q) X.xe s
  obtain ⟨ox, od, J⟩ := insI_at I ho
  obtain ⟨ox2, od2, J2⟩ := insI_at I ho2
  obtain ⟨m, hF⟩ := I.fr
  refine PySem.W.cmp_K (op := .Eq) (tb := .ref CE) hr.units0 hF I.ok.mod.kin J J2.type (by simp [PySem.W.notFirst]) hs hf ?_
  refine wpAny_mono (call_own (us := [.ref a, .ref b]) (vs := [.ref a, .ref b]) F hr hb I I.env0 (.cons rfl (.cons rfl .nil)) q) (fun z s' hz => ?_) fun _ _ e => e
  obtain ⟨v', H', I', rz, c, rfl, hQ⟩ := hz
  cases (show z = Value.bool c from rz)
  exact ⟨.bl c, H', I', rfl, hQ⟩
/-- list(a patch) -/
def rListP (K : PySem.W.Frag) (CP : Addr) : List V → Hp → VK → Prop := fun xs H Q => ∃ (p dx t : Addr) (vs : List V) (C : List Ed) (m : Nat), xs = [.ref p] ∧ H p = some (.ins CP dx (PtFs t m)) ∧ SqT K H t vs ∧ ChsV K H vs C ∧ PtOk C m ∧ ∀ H' l, Same H H' → H l = none → H' l = some (.lst vs) → Q (.ref l) H'
theorem law7 (hr : Room 20 (XL P w K mg base fL cdv A outer s H0 E).A) (C : CK P w K mg base CE CP CB) : ∃ t, PS (XL P w K mg base fL cdv A outer s H0 E) (stL 7) t ∧ ∀ (D : Ends) (a d o1 o2 p1 p2 : Addr) (n : Nat) (v7 : Option V) (H : Hp), n ≤ 10 →
    (∀ lm H', Same H H' → H lm = none → LsH H' lm (MKS (n + 3)) → D.nx [some (.ref a), some (.ref d), some (.int n), some (.ref o1), some (.ref o2), some (.ref p1), some (.ref p2), v7, some (.ref lm), none, none, none, none, none, none, none, none, none, none, none, none, none, none, none, none] H') → t D [some (.ref a), some (.ref d), some (.int n), some (.ref o1), some (.ref o2), some (.ref p1), some (.ref p2), v7, none, none, none, none, none, none, none, none, none, none, none, none, none, none, none, none, none] H := by
  refine ⟨_, ps_set (i := 8) scLaw.nd rfl (Or.inr rfl) (pe_cl C.mks hr (pa_cons (pe_op op_add (pv 2) pe_int) pa_nil)), ?_⟩
  intro D a d o1 o2 p1 p2 n v7 H hn q
  exact ⟨_, rfl, _, _, rfl, rfl, n + 3, congrArg (fun z : Int => [V.int z]) (by omega), by omega, fun H1 lm s1 f1 L1 => q lm H1 s1 f1 L1⟩
theorem law8 (hr : Room 20 (XL P w K mg base fL cdv A outer s H0 E).A) (C : CK P w K mg base CE CP CB) : ∃ t, PS (XL P w K mg base fL cdv A outer s H0 E) (stL 8) t ∧ ∀ (D : Ends) (a d o1 o2 p1 p2 lm : Addr) (c1 c2 : List Addr) (e1 e2 C1 C2 : List Ed) (n m1 m2 : Nat) (v7 : Option V) (H : Hp), RowH K CE H o1 c1 e1 → RowH K CE H o2 c2 e2 → RowOk e1 n 5 → RowOk e2 n 6 → n ≤ 10 →
    PtOk C1 m1 → PtOk C2 m2 → NF e1 C1 m1 → NF e2 C2 m2 → LsH H lm (MKS (n + 3)) → (∀ al H', al = decide (C1 = C2 ∧ m1 = m2) → Same H H' → D.nx [some (.ref a), some (.ref d), some (.int n), some (.ref o1), some (.ref o2), some (.ref p1), some (.ref p2), v7, some (.ref lm), some (.bl al), none, none, none, none, none, none, none, none, none, none, none, none, none, none, none] H') → t D [some (.ref a), some (.ref d), some (.int n), some (.ref o1), some (.ref o2), some (.ref p1), some (.ref p2), v7, some (.ref lm), none, none, none, none, none, none, none, none, none, none, none, none, none, none, none, none] H := by
  have hu := hu64 hr
  refine ⟨_, ps_set (i := 9) scLaw.nd rfl (Or.inl rfl) (pe_and (pe_cmpR (op_eqW hu) (pe_cl C.dn hr (pa_cons (pv 3) (pa_cons (pv 8) pa_nil))) (pe_cl C.dn hr (pa_cons (pv 4) (pa_cons (pv 8) pa_nil))) (nomark _))
    (pe_one (pe_cmpR op_eq (pe_cl C.lst hr (pa_cons (pv 3) pa_nil)) (pe_cl C.lst hr (pa_cons (pv 4) pa_nil)) (nomark _)))), ?_⟩
  intro D a d o1 o2 p1 p2 lm c1 c2 e1 e2 C1 C2 n m1 m2 v7 H h1 h2 k1 k2 hn O1 O2 nf1 nf2 hm q
  have ML : (MKS (n + 3)).length = n + 3 := MKS_len _
  have F1 : Fits e1 (MKS (n + 3)).length := k1.fits.mono (fun e he => (h1.ok e he).le) (by omega)
  have F2 : Fits e2 (MKS (n + 3)).length := k2.fits.mono (fun e he => (h2.ok e he).le) (by omega)
  have y1 := k1.len
  have y2 := k2.len
  have M1 := nf1.lst.2 _ F1
  have M2 := nf2.lst.2 _ F2
  refine ⟨_, rfl, _, rfl, o1, lm, c1, e1, _, rfl, SqL.of h1.at_, h1.eds, hm.wsl, F1, k1.few, by omega, by omega, fun H1 u1 s1 f1 L1 _ => ?_⟩
  have h2' := h2.same s1
  refine ⟨_, rfl, _, rfl, o2, lm, c2, e2, _, rfl, SqL.of h2'.at_, h2'.eds, (hm.same s1).wsl, F2, k2.few, by omega, by omega, fun H2 u2 s2 f2 L2' _ => ?_⟩
  refine ⟨u1, u2, _, _, rfl, rfl, (L1.same s2).wsl.at_, L2'.wsl.at_, L1.mrk, L2'.mrk, _, rfl, ?_⟩
  have s12 := s1.trans s2
  have fr : ∀ {es C : List Ed} {m : Nat}, NF es C m → Few es → Free C (MKS (n + 3)) := fun {es C m} nf hf e he x hx z => by
    obtain ⟨dd, hdd, hxd⟩ := nf_words nf he hx
    exact MKS_not (by omega) x z ((hf dd hdd).2 x hxd)
  have key : (C1 = C2 ∧ m1 = m2) ↔ (done e1 (MKS (n + 3)) = done e2 (MKS (n + 3)) ∧ m1 = m2) := by
    constructor
    · rintro ⟨e, em⟩
      refine ⟨?_, em⟩
      rw [← nf1.run _ M1, ← nf2.run _ M2, e]
    · rintro ⟨e, em⟩
      refine ⟨apC_inj _ rfl O1.apt O2.apt (by have := O1.fin; omega) (by have := O2.fin; omega) (MKS_nodup (by omega)) (fr nf1 k1.few) (fr nf2 k2.few) ?_, em⟩
      rw [nf1.run _ M1, nf2.run _ M2, e]
  refine ite2d (fun c => ?_) (fun c => ?_)
  · refine ⟨_, rfl, o1, c1, e1, n, rfl, SqL.of (h1.same s12).at_, (h1.same s12).eds, k1.fits, by omega, fun i1 j1 => ?_⟩
    refine ⟨_, rfl, o2, c2, e2, n, rfl, SqL.of (h2.same s12).at_, (h2.same s12).eds, k2.fits, by omega, fun i2 j2 => ⟨rfl, ?_⟩⟩
    have x1 := j1.uniq nf1.lst
    have x2 := j2.uniq nf2.lst
    subst x1 x2
    refine q _ H2 ?_ s12
    by_cases z : i1 = i2
    · rw [decide_eq_true (by rw [z]), decide_eq_true (key.mpr ⟨c, z⟩)]
    · rw [decide_eq_false fun e => z (by have := V.int.inj e; omega), decide_eq_false fun e => z e.2]
  · refine q _ H2 ?_ s12
    rw [decide_eq_false fun e => c (key.mp e).1]
theorem law9 (hr : Room 20 (XL P w K mg base fL cdv A outer s H0 E).A) (C : CK P w K mg base CE CP CB) (hLi : CallR (XL P w K mg base fL cdv A outer s H0 E) (.type "list") (rListP K CP)) : ∃ t, PS (XL P w K mg base fL cdv A outer s H0 E) (stL 9) t ∧ ∀ (D : Ends) (a d o1 o2 p1 p2 lm : Addr) (C1 C2 : List Ed) (n m1 m2 : Nat) (al : Bool) (v7 : Option V) (H : Hp), PtH K CP H p1 C1 m1 → PtH K CP H p2 C2 m2 → al = decide (C1 = C2 ∧ m1 = m2) →
    (∀ H', Same H H' → D.nx [some (.ref a), some (.ref d), some (.int n), some (.ref o1), some (.ref o2), some (.ref p1), some (.ref p2), v7, some (.ref lm), some (.bl al), none, none, none, none, none, none, none, none, none, none, none, none, none, none, none] H') → t D [some (.ref a), some (.ref d), some (.int n), some (.ref o1), some (.ref o2), some (.ref p1), some (.ref p2), v7, some (.ref lm), some (.bl al), none, none, none, none, none, none, none, none, none, none, none, none, none, none, none] H := by
  obtain ⟨fQ, fdQ, hQ1, hQ2, GQ, bQ⟩ := C.eqP.ex
  obtain ⟨fN, fdN, hN1, hN2, GN, bN⟩ := C.lenP.ex
  obtain ⟨fB, fdB, hB1, hB2, GB, bB⟩ := C.boolP.ex
  have hu := hu64 hr
  refine ⟨_, ps_if (PW.pt (pw_or (pt_cmpR op_ne (pe_cmpR (op_eqI hQ1 hQ2 GQ bQ (hr.mono (by decide))) (pv 5) (pv 6) (nomark _)) (pv 9) (nomark _))
    (pw_or (pt_cmpR (op_neD hu) (pe_callTy hLi rfl C.lst' (by decide +kernel) (pa_cons (pv 5) pa_nil)) (pe_callTy call_list_of rfl C.lst' (by decide +kernel) (pa_cons (pe_fld (pv 5) rfl) pa_nil)) (nomark _))
    (pw_or1 (pt_cmpR op_ne (pe_callTy (call_boolI hB1 hB2 GB bB (hr.mono (by decide))) rfl C.bool (by decide +kernel) (pa_cons (pv 5) pa_nil))
      (pe_cmpR op_gt (pe_callB (call_lenI hN1 hN2 GN bN (hr.mono (by decide))) rfl C.len PySem.boot_len (pa_cons (pv 5) pa_nil)) pe_int (nomark _)) (nomark _)))))) (pss_one ps_never) pss_nil, ?_⟩
  intro D a d o1 o2 p1 p2 lm C1 C2 n m1 m2 al v7 H q1 q2 hal q
  refine ⟨_, rfl, _, rfl, p1, p2, rfl, rfl, q1.ins, q2.ins, p1, p2, C1, C2, m1, m2, rfl, q1, q2, _, rfl, _, rfl, rfl, _, rfl, iteFF (by rw [hal, decide_eq_true rfl]; rfl) ?_⟩
  obtain ⟨dx, t, vs, hp, hT, hV, hO⟩ := id q1
  refine ⟨_, rfl, p1, dx, t, vs, C1, m1, rfl, hp, hT, hV, hO, fun H1 l1 s1 f1 hl1 => ?_⟩
  have hT1 := Same.tup s1 hT
  refine ⟨_, rfl, p1, CP, dx, _, .ref t, rfl, s1 _ _ hp, C.clP.cl, C.clP.nC, rfl, t, _, rfl, .inr hT1, fun l2 hl2 => ?_⟩
  have s2 := Same.new hl2 (.lst vs)
  have s12 := s1.trans s2
  have hV2 : ChsV K (upd H1 l2 (.lst vs)) vs C1 := hV.imp fun _ _ z => Same.tup s12 z
  refine ⟨.list (C1.map chD), .list (C1.map chD), .lst (SqL.of (s2 _ _ hl1)) (dp_chs hV2), .lst (SqL.of upd_same) (dp_chs hV2), shaped_chsL hO.ok, shaped_chsL hO.ok, _, rfl, ?_⟩
  rw [show PyData.eqv (.list (C1.map chD)) (.list (C1.map chD)) = decide (C1 = C1) from eqv_chs C1 C1]
  refine iteFF (by rw [decide_eq_true rfl]; rfl) ?_
  have q12 := q1.same s12
  refine ⟨_, rfl, p1, rfl, q12.ins, p1, C1, m1, rfl, q12, _, rfl, ?_⟩
  refine ⟨_, rfl, p1, rfl, q12.ins, p1, C1, m1, rfl, q12, C1.length, rfl, by have := hO.few; omega, _, _, rfl, rfl, rfl, _, rfl, ?_⟩
  have z : decide ((0 : Int) < (C1.length : Int)) = !C1.isEmpty := by
    cases C1 with
    | nil => rfl
    | cons x xs =>
      rw [decide_eq_true (by show (0 : Int) < ((xs.length + 1 : Nat) : Int); omega)]
      rfl
  exact iteFF (by show (!decide (V.bl (!C1.isEmpty) = V.bl (decide ((0 : Int) < (C1.length : Int))))) = false; rw [z, decide_eq_true rfl]; rfl) (q _ s12)
theorem law10 (hr : Room 20 (XL P w K mg base fL cdv A outer s H0 E).A) (C : CK P w K mg base CE CP CB) : ∃ t, PS (XL P w K mg base fL cdv A outer s H0 E) (stL 10) t ∧ ∀ (D : Ends) (a d o1 o2 p1 p2 lm : Addr) (e1 C1 : List Ed) (n m1 : Nat) (al : Bool) (v7 : Option V) (H : Hp), PtH K CP H p1 C1 m1 → NF e1 C1 m1 → LsH H lm (MKS (n + 3)) → n ≤ 10 → m1 ≤ n → (done e1 (MKS (n + 3))).length ≤ 30 →
    (∀ ll lk H', Same H H' → LsH H' ll (done e1 (MKS (n + 3))) → H' lk = some (.lst []) → D.nx [some (.ref a), some (.ref d), some (.int n), some (.ref o1), some (.ref o2), some (.ref p1), some (.ref p2), v7, some (.ref lm), some (.bl al), some (.ref ll), some (.int 0), some (.ref lk), none, none, none, none, none, none, none, none, none, none, none, none] H') → t D [some (.ref a), some (.ref d), some (.int n), some (.ref o1), some (.ref o2), some (.ref p1), some (.ref p2), v7, some (.ref lm), some (.bl al), none, none, none, none, none, none, none, none, none, none, none, none, none, none, none] H := by
  obtain ⟨fC, cC, GC⟩ := C.call.ex
  refine ⟨_, ps_par3 (i := 10) (j := 11) (l := 12) rfl scLaw.nd rfl rfl rfl (by decide) (by decide) (by decide) rfl rfl rfl (pa_cons (StX.pe_callO (pv 5) cC GC hr passLN (pa_cons (pv 8) pa_nil)) (pa_cons pe_int (pa_cons (pe_lst pa_nil) pa_nil))) rfl, ?_⟩
  intro D a d o1 o2 p1 p2 lm e1 C1 n m1 al v7 H q1 nf1 hm hn hmn hl q
  have ML : (MKS (n + 3)).length = n + 3 := MKS_len _
  have R1 := nf1.run (MKS (n + 3)) (by omega)
  refine ⟨_, rfl, p1, rfl, _, rfl, q1.insC, p1, lm, C1, m1, _, rfl, q1, hm.wse, by rw [R1]; omega, fun _ H6 u6 s6 f6 L6 => ?_, fun z => absurd z (by omega)⟩
  rw [R1] at L6
  refine ⟨(by show 0 ≤ sizeLine; decide), fun lk hlk => ⟨_, _, _, rfl, ?_⟩⟩
  have s7 := Same.new hlk (.lst [])
  exact q u6 lk _ (s6.trans s7) (L6.same s7) upd_same
end
end P5

end
section
set_option Elab.async false
set_option linter.all false
set_option maxRecDepth 100000
set_option maxHeartbeats 4000000
namespace P5
open PySem PySem.Spec PyProof.Rows L2
section
variable {P : Program} {w : World} {K : PySem.W.Frag} {mg : Str → Option Value} {base : Heap} {fL CE CP CB : Addr} {cdv : Value} {A : Around} {outer : List Env} {s : Shared} {H0 : Hp} {E : XK}
theorem law11 (hr : Room 20 (XL P w K mg base fL cdv A outer s H0 E).A) (C : CK P w K mg base CE CP CB) : ∃ t, PS (XL P w K mg base fL cdv A outer s H0 E) (stL 11) t ∧ ∀ (D : Ends) (a d o1 o2 p1 p2 lm ll lk : Addr) (C1 : List Ed) (n m1 : Nat) (al : Bool) (v7 : Option V) (H : Hp), PtH K CP H p1 C1 m1 → LsH H lm (MKS (n + 3)) → n ≤ 10 → m1 ≤ n → (apC C1 0 (MKS (n + 3))).length ≤ 100 → H lk = some (.lst []) →
    (∀ (lk : Addr) (ss : Nat) (Lk : List Str) (v13 v14 v15 : Option V) H', Same H H' → LsH H' lk Lk → ss ≤ n → Lk ++ (MKS (n + 3)).drop ss = apC C1 0 (MKS (n + 3)) → D.nx [some (.ref a), some (.ref d), some (.int n), some (.ref o1), some (.ref o2), some (.ref p1), some (.ref p2), v7, some (.ref lm), some (.bl al), some (.ref ll), some (.int ss), some (.ref lk), v13, v14, v15, none, none, none, none, none, none, none, none, none] H') → t D [some (.ref a), some (.ref d), some (.int n), some (.ref o1), some (.ref o2), some (.ref p1), some (.ref p2), v7, some (.ref lm), some (.bl al), some (.ref ll), some (.int 0), some (.ref lk), none, none, none, none, none, none, none, none, none, none, none, none] H := by
  have hu := hu64 hr
  refine ⟨_, ps_for PassesOwn.never rfl (pi_tup (pe_fld (pv 5) rfl)) (pg_tup rfl (pgs_cons (pg_name (i := 13) scLaw.nd rfl (Or.inl rfl)) (pgs_cons (pg_name (i := 14) scLaw.nd rfl (Or.inl rfl)) (pgs_cons (pg_name (i := 15) scLaw.nd rfl (Or.inl rfl)) pgs_nil))))
    (pss_cons (ps_set (i := 12) scLaw.nd rfl (Or.inl rfl) (pe_op op_cat (pe_op op_cat (pv 12) (pe_slice (r := rSlL K) sl_list (pv 8) (po_some (pv 11)) (po_some (pv 13)))) (pe_callTy call_list_of rfl C.lst' (by decide +kernel) (pa_cons (pv 15) pa_nil))))
    (pss_cons (ps_if (PW.pt (pw_or (pt_cmpR op_lt (pv 13) (pv 11) (nomark _)) (pw_or (PW.pt (pw_and (pt_cmpR op_eq (pv 13) (pv 11) (nomark _)) (pw_and1 (pt_cmpR op_gt (pv 11) pe_int (nomark _)))))
      (pw_or1 (PW.pt (pw_and (pt_cmpR op_eq (pv 13) (pv 14) (nomark _)) (pw_and1 (pt_cmpR (op_eqTW hu) (pv 15) (pe_tup pa_nil) (nomark _))))))))) (pss_one ps_never) pss_nil)
    (pss_one (ps_set (i := 11) scLaw.nd rfl (Or.inl rfl) (pv 14))))), ?_⟩
  intro D a d o1 o2 p1 p2 lm ll lk C1 n m1 al v7 H q1 hm hn hmn hlen hlk q
  obtain ⟨dx, t, vs, hp, hT, hV, hO⟩ := id q1
  have ML : (MKS (n + 3)).length = n + 3 := MKS_len _
  have MLV : ((MKS (n + 3)).map V.str).length = n + 3 := by rw [List.length_map, ML]
  have hfin := hO.fin
  refine ⟨_, rfl, p1, CP, dx, _, .ref t, rfl, hp, C.clP.cl, C.clP.nC, rfl, t, rfl, ⟨_, hT⟩, ?_⟩
  have hvl : vs.length = C1.length := hV.len
  refine for_tup (xs := vs) (fun i σ H' => Same H H' ∧ ∃ (lk : Addr) (ss : Nat) (Lk : List Str) (v13 v14 v15 : Option V), LsH H' lk Lk ∧ ss ≤ n ∧ (Apt true ss (C1.drop i) ∨ (ss = 0 ∧ Apt false ss (C1.drop i))) ∧ endC ss (C1.drop i) ≤ n ∧ Lk ++ apC (C1.drop i) ss ((MKS (n + 3)).drop ss) = apC C1 0 (MKS (n + 3)) ∧ σ = [some (.ref a), some (.ref d), some (.int n), some (.ref o1), some (.ref o2), some (.ref p1), some (.ref p2), v7, some (.ref lm), some (.bl al), some (.ref ll), some (.int ss), some (.ref lk), v13, v14, v15, none, none, none, none, none, none, none, none, none])
    ⟨Same.refl _, lk, 0, [], none, none, none, ⟨hlk, fun x hx => (nomatch hx), Nat.zero_le _⟩, Nat.zero_le _, .inr ⟨rfl, hO.apt⟩, by show endC 0 C1 ≤ n; omega, rfl, rfl⟩ (fun i σ H' _ ⟨s2, _⟩ => Same.tup s2 hT) ?_ ?_
  · rintro i x σ H1 hx ⟨s1, lk, ss, Lk, v13, v14, v15, hL, hss, hA, hE, hK, rfl⟩
    obtain ⟨e, hre, hch⟩ := hV.get hx
    have hi : i < C1.length := by
      by_cases z : i < C1.length
      · exact z
      · rw [List.getElem?_eq_none (by omega)] at hre
        cases hre
    have hdr : C1.drop i = e :: C1.drop (i + 1) := by
      rw [List.getElem?_eq_getElem hi] at hre
      rw [List.drop_eq_getElem_cons hi, Option.some.inj hre]
    rw [hdr] at hA hE hK
    rw [endC_cons] at hE
    have hAl : Apt false ss (e :: C1.drop (i + 1)) := hA.elim (fun h => h.loose) fun h => h.2
    obtain ⟨ha1, ha3, ha4, ha5⟩ : ss ≤ e.a ∧ e.a ≤ e.b ∧ (e.a < e.b ∨ e.ws ≠ []) ∧ Apt true e.b (C1.drop (i + 1)) := by
      cases hAl with
      | cons h1 h2 h3 h4 h5 => exact ⟨h1, h3, h4, h5⟩
    have hbe := ha5.le_end
    have heo := hO.ok e (List.mem_of_getElem? hre)
    have hlenK : Lk.length + (e.a - ss) + e.ws.length ≤ 100 := by
      have := congrArg List.length hK
      rw [List.length_append] at this
      have z : (apC (e :: C1.drop (i + 1)) ss ((MKS (n + 3)).drop ss)).length = (e.a - ss) + (e.ws.length + (apC (C1.drop (i + 1)) e.b (((MKS (n + 3)).drop ss).drop (e.b - ss))).length) := by
        show (((MKS (n + 3)).drop ss).take (e.a - ss) ++ (e.ws ++ _)).length = _
        rw [List.length_append, List.length_append, List.length_take, List.length_drop, ML, Nat.min_eq_left (by omega)]
      omega
    obtain ⟨ca, ct, rfl, hct, hcw⟩ := hch.imp (fun _ _ z => Same.tup s1 z)
    refine ⟨ca, _, rfl, hct, rfl, _, _, rfl, _, _, rfl, _, _, rfl, rfl, ?_⟩
    have hm1 := hm.same s1
    refine ⟨_, rfl, _, rfl, _, rfl, ss, rfl, _, rfl, e.a, rfl, lm, _, rfl, SqL.of hm1.at_, fun l1 hl1 => ?_⟩
    have s2 := Same.new hl1 (.lst (cutV ((MKS (n + 3)).map V.str) (some (ss : Int)) (some (e.a : Int))))
    have c1 : upd H1 l1 (.lst (cutV ((MKS (n + 3)).map V.str) (some (ss : Int)) (some (e.a : Int)))) l1 = some (.lst ((((MKS (n + 3)).take e.a).drop ss).map V.str)) := by
      rw [upd_same, cut_mid _ _ _ ha1 (by omega), List.map_drop, List.map_take]
    generalize upd H1 l1 (.lst (cutV ((MKS (n + 3)).map V.str) (some (ss : Int)) (some (e.a : Int)))) = H2 at *
    refine ⟨lk, l1, _, _, rfl, rfl, (hL.same s2).at_, c1, small_le (by rw [List.length_map, List.length_map, List.length_drop, List.length_take]; omega), fun l2 hl2 => ?_⟩
    have s3 := Same.new hl2 (.lst (Lk.map V.str ++ (((MKS (n + 3)).take e.a).drop ss).map V.str))
    have c2 : upd H2 l2 (.lst (Lk.map V.str ++ (((MKS (n + 3)).take e.a).drop ss).map V.str)) l2 = some (.lst (Lk.map V.str ++ (((MKS (n + 3)).take e.a).drop ss).map V.str)) := upd_same
    generalize upd H2 l2 (.lst (Lk.map V.str ++ (((MKS (n + 3)).take e.a).drop ss).map V.str)) = H3 at *
    have s23 := s2.trans s3
    refine ⟨_, rfl, ct, _, rfl, .inr (Same.tup s23 hcw), fun l3 hl3 => ?_⟩
    have s4 := Same.new hl3 (.lst (e.ws.map V.str))
    have c3 : upd H3 l3 (.lst (e.ws.map V.str)) l3 = some (.lst (e.ws.map V.str)) := upd_same
    have c2' := s4 _ _ c2
    generalize upd H3 l3 (.lst (e.ws.map V.str)) = H4 at *
    refine ⟨l2, l3, _, _, rfl, rfl, c2', c3, small_le (by rw [List.length_append, List.length_map, List.length_map, List.length_map, List.length_drop, List.length_take]; omega), fun l4 hl4 => ?_⟩
    have s5 := Same.new hl4 (.lst ((Lk.map V.str ++ (((MKS (n + 3)).take e.a).drop ss).map V.str) ++ e.ws.map V.str))
    have hnew : LsH (upd H4 l4 (.lst ((Lk.map V.str ++ (((MKS (n + 3)).take e.a).drop ss).map V.str) ++ e.ws.map V.str))) l4 (Lk ++ ((MKS (n + 3)).take e.a).drop ss ++ e.ws) := by
      refine ⟨by rw [upd_same, List.map_append, List.map_append], fun y hy => ?_, by rw [List.length_append, List.length_append, List.length_drop, List.length_take]; omega⟩
      rcases List.mem_append.mp hy with h | h
      · rcases List.mem_append.mp h with h | h
        · exact hL.mrk y h
        · exact hm.mrk y (List.mem_of_mem_take (List.mem_of_mem_drop h))
      · exact heo.mrk y h
    generalize upd H4 l4 (.lst ((Lk.map V.str ++ (((MKS (n + 3)).take e.a).drop ss).map V.str) ++ e.ws.map V.str)) = H5 at *
    have s15 := (s23.trans s4).trans s5
    refine ⟨_, rfl, _, rfl, _, _, rfl, rfl, _, rfl, iteFF (decide_eq_false (by omega)) ?_⟩
    refine and_one (c := (V.int (e.a : Int)) = V.int (ss : Int)) (d := (0 : Int) < (ss : Int)) (fun Q' q' => ⟨_, rfl, _, rfl, rfl, _, rfl, q'⟩) (fun _ Q' q' => ⟨_, rfl, _, _, rfl, rfl, _, rfl, q'⟩) (iteFF (decide_eq_false ?_) ?_)
    · rintro ⟨z1, z2⟩
      have z3 : (e.a : Int) = ss := V.int.inj z1
      rcases hA with h | h
      · cases h with
        | cons h1 h2 h3 h4 h5 => have := h2 rfl; omega
      · have := h.1
        omega
    have hKn : (Lk ++ ((MKS (n + 3)).take e.a).drop ss ++ e.ws) ++ apC (C1.drop (i + 1)) e.b ((MKS (n + 3)).drop e.b) = apC C1 0 (MKS (n + 3)) := by
      rw [← hK]
      show _ = Lk ++ (((MKS (n + 3)).drop ss).take (e.a - ss) ++ (e.ws ++ apC (C1.drop (i + 1)) e.b (((MKS (n + 3)).drop ss).drop (e.b - ss))))
      rw [List.drop_drop, show ss + (e.b - ss) = e.b from by omega, List.drop_take, List.append_assoc, List.append_assoc]
    have fin : ∀ H6, Same H5 H6 → Same H H6 ∧ ∃ (lk : Addr) (ss : Nat) (Lk : List Str) (v13 v14 v15 : Option V), LsH H6 lk Lk ∧ ss ≤ n ∧ (Apt true ss (C1.drop (i + 1)) ∨ (ss = 0 ∧ Apt false ss (C1.drop (i + 1)))) ∧ endC ss (C1.drop (i + 1)) ≤ n ∧ Lk ++ apC (C1.drop (i + 1)) ss ((MKS (n + 3)).drop ss) = apC C1 0 (MKS (n + 3)) ∧
        [some (.ref a), some (.ref d), some (.int n), some (.ref o1), some (.ref o2), some (.ref p1), some (.ref p2), v7, some (.ref lm), some (.bl al), some (.ref ll), some (.int e.b), some (.ref l4), some (.int e.a), some (.int e.b), some (.ref ct), none, none, none, none, none, none, none, none, none] = [some (.ref a), some (.ref d), some (.int n), some (.ref o1), some (.ref o2), some (.ref p1), some (.ref p2), v7, some (.ref lm), some (.bl al), some (.ref ll), some (.int ss), some (.ref lk), v13, v14, v15, none, none, none, none, none, none, none, none, none] :=
      fun H6 s6 => ⟨(s1.trans s15).trans s6, l4, e.b, _, some (.int e.a), some (.int e.b), some (.ref ct), hnew.same s6, by omega, .inl ha5, hE, hKn, rfl⟩
    refine ⟨_, rfl, _, rfl, rfl, _, rfl, ite2 (fun c => ?_) (fun c => iteF ⟨_, rfl, fin H5 (Same.refl _)⟩)⟩
    have hab : e.a = e.b := by
      have := V.int.inj (of_decide_eq_true c)
      omega
    refine ⟨_, rfl, (by show 0 ≤ sizeLine; decide), fun tt htt => ?_⟩
    have s6 := Same.new htt (.tup [])
    have c6 : upd H5 tt (.tup []) tt = some (.tup (([] : List Str).map V.str)) := upd_same
    refine ⟨ct, tt, e.ws, [], rfl, rfl, Same.tup (s15.trans s6) hcw, SqT.of c6, heo.mrk, fun y hy => (nomatch hy), _, rfl, iteFF (decide_eq_false (ha4.resolve_left (by omega))) ⟨_, rfl, fin _ s6⟩⟩
  · rintro σ H1 ⟨s1, lk, ss, Lk, v13, v14, v15, hL, hss, hA, hE, hK, rfl⟩
    rw [hvl, List.drop_of_length_le (Nat.le_refl _)] at hK
    exact q lk ss Lk v13 v14 v15 H1 s1 hL hss hK
theorem law12 (hr : Room 20 (XL P w K mg base fL cdv A outer s H0 E).A) (C : CK P w K mg base CE CP CB) : ∃ t, PS (XL P w K mg base fL cdv A outer s H0 E) (stL 12) t ∧ ∀ (D : Ends) (a d o1 o2 p1 p2 lm ll lk : Addr) (C1 : List Ed) (n m1 ss : Nat) (Lk : List Str) (al : Bool) (v7 v13 v14 v15 : Option V) (H : Hp), PtH K CP H p1 C1 m1 → LsH H lm (MKS (n + 3)) → n ≤ 10 → m1 ≤ n → tot C1 ≤ 60 → LsH H lk Lk → LsH H ll (apC C1 0 (MKS (n + 3))) → ss ≤ n → Lk ++ (MKS (n + 3)).drop ss = apC C1 0 (MKS (n + 3)) → C1.length ≤ 40 →
    (∀ H', Same H H' → D.nx [some (.ref a), some (.ref d), some (.int n), some (.ref o1), some (.ref o2), some (.ref p1), some (.ref p2), v7, some (.ref lm), some (.bl al), some (.ref ll), some (.int ss), some (.ref lk), v13, v14, v15, none, none, none, none, none, none, none, none, none] H') → t D [some (.ref a), some (.ref d), some (.int n), some (.ref o1), some (.ref o2), some (.ref p1), some (.ref p2), v7, some (.ref lm), some (.bl al), some (.ref ll), some (.int ss), some (.ref lk), v13, v14, v15, none, none, none, none, none, none, none, none, none] H := by
  obtain ⟨fE, fdE, ME, GE, bE⟩ := C.eds.ex
  obtain ⟨fN, fdN, hN1, hN2, GN, bN⟩ := C.lenP.ex
  have hu := hu64 hr
  refine ⟨_, ps_if (PW.pt (pw_or (pt_cmpR (op_neW hu) (pe_op op_cat (pv 12) (pe_slice (r := rSlL K) sl_list (pv 8) (po_some (pv 11)) po_none)) (pv 10) (nomark _))
    (pw_or (pt_cmpR (op_neD hu) (pe_fld (pe_cl C.pat hr (pa_cons (pe_meth0 (pv 5) C.clP.cl ME GE hr bE .nil pass0) pa_nil)) rfl) (pe_fld (pv 5) rfl) (nomark _))
    (pw_or1 (pt_cmpR op_ne (pe_callB call_len_seq rfl C.len PySem.boot_len (pa_cons (pe_meth0 (pv 5) C.clP.cl ME GE hr bE .nil pass0) pa_nil)) (pe_callB (call_lenI hN1 hN2 GN bN (hr.mono (by decide))) rfl C.len PySem.boot_len (pa_cons (pv 5) pa_nil)) (nomark _)))))) (pss_one ps_never) pss_nil, ?_⟩
  intro D a d o1 o2 p1 p2 lm ll lk C1 n m1 ss Lk al v7 v13 v14 v15 H q1 hm hn hmn htot hL hl hss hK hC40 q
  have ML : (MKS (n + 3)).length = n + 3 := MKS_len _
  obtain ⟨dx, t, vs, hp, hT, hV, hO⟩ := id q1
  have hlen := hl.sm
  refine ⟨_, rfl, _, rfl, _, rfl, ss, rfl, lm, _, rfl, SqL.of hm.at_, fun l1 hl1 => ?_⟩
  have s1 := Same.new hl1 (.lst (cutV ((MKS (n + 3)).map V.str) (some (ss : Int)) none))
  have c1 : upd H l1 (.lst (cutV ((MKS (n + 3)).map V.str) (some (ss : Int)) none)) l1 = some (.lst (((MKS (n + 3)).drop ss).map V.str)) := by
    rw [upd_same, cut_from _ _ (by rw [List.length_map]; omega), List.map_drop]
  generalize upd H l1 (.lst (cutV ((MKS (n + 3)).map V.str) (some (ss : Int)) none)) = H1 at *
  have hk2 := congrArg List.length hK
  rw [List.length_append] at hk2
  refine ⟨lk, l1, _, _, rfl, rfl, (hL.same s1).at_, c1, small_le (by rw [List.length_map, List.length_map]; omega), fun l2 hl2 => ?_⟩
  have s2 := Same.new hl2 (.lst (Lk.map V.str ++ ((MKS (n + 3)).drop ss).map V.str))
  have c2 : upd H1 l2 (.lst (Lk.map V.str ++ ((MKS (n + 3)).drop ss).map V.str)) l2 = some (.lst ((apC C1 0 (MKS (n + 3))).map V.str)) := by
    rw [upd_same, ← List.map_append, hK]
  generalize upd H1 l2 (.lst (Lk.map V.str ++ ((MKS (n + 3)).drop ss).map V.str)) = H2 at *
  have s12 := s1.trans s2
  refine ⟨_, rfl, l2, ll, _, _, rfl, rfl, SqL.of c2, (hl.same s12).wsl.at_, hl.mrk, hl.mrk, _, rfl, iteFF (by rw [decide_eq_true rfl]; rfl) ?_⟩
  have q12 := q1.same s12
  refine ⟨_, rfl, p1, dx, _, rfl, s12 _ _ hp, rfl, p1, C1, m1, rfl, q12, fun H3 le cs es s3 f3 hle hes el et ef ed => ?_⟩
  refine ⟨le, cs, es, m1, rfl, .inl (SqL.of hle), hes, ef, by omega, by omega, by omega, fun H4 pp CC mm s4 f4 qq nf => ?_⟩
  obtain ⟨dx4, t4, vs4, hp4, hT4, hV4, hO4⟩ := id qq
  have s14 := (s12.trans s3).trans s4
  have hmm : mm ≤ m1 := nf.lst.2 _ ef
  have eC : CC = C1 := apC_uniq hO4.apt hO.apt (by have := hO4.fin; omega) hO.fin fun l hl => by rw [nf.run l (by omega), ed l hl]
  subst eC
  refine ⟨pp, CP, dx4, _, .ref t4, rfl, hp4, C.clP.cl, C.clP.nC, rfl, _, rfl, p1, CP, dx, _, .ref t, rfl, s14 _ _ hp, C.clP.cl, C.clP.nC, rfl, .tuple (CC.map chD), .tuple (CC.map chD), .tup hT4 (dp_chs hV4), .tup (Same.tup s14 hT) (dp_chs (hV.imp fun _ _ z => Same.tup s14 z)), shaped_chsT hO.ok, shaped_chsT hO.ok, _, rfl, ?_⟩
  rw [show PyData.eqv (.tuple (CC.map chD)) (.tuple (CC.map chD)) = decide (CC = CC) from eqv_chs CC CC]
  refine iteFF (by rw [decide_eq_true rfl]; rfl) ?_
  have q14 := q1.same s14
  refine ⟨_, rfl, p1, dx, _, rfl, s14 _ _ hp, rfl, p1, CC, m1, rfl, q14, fun H5 le5 cs5 es5 s5 f5 hle5 hes5 el5 et5 ef5 ed5 => ?_⟩
  refine ⟨le5, _, rfl, .inl (SqL.of hle5), ?_⟩
  have q15 := q14.same s5
  refine ⟨_, rfl, p1, rfl, q15.ins, p1, CC, m1, rfl, q15, CC.length, rfl, by omega, rfl, _, rfl, ?_⟩
  have hcl : (cs5.map V.ref).length = CC.length := by rw [List.length_map, hes5.len, el5]
  exact iteFF (by show (!decide (V.int (((cs5.map V.ref).length : Nat) : Int) = V.int (CC.length : Int))) = false; rw [hcl, decide_eq_true rfl]; rfl) (q H5 (s14.trans s5))
end
end P5

end
section
set_option Elab.async false
set_option linter.all false
set_option maxRecDepth 100000
set_option maxHeartbeats 4000000
namespace P5
open PySem PySem.Spec PyProof.Rows L2
section
variable {P : Program} {w : World} {K : PySem.W.Frag} {mg : Str → Option Value} {base : Heap} {fL CE CP CB : Addr} {cdv : Value} {A : Around} {outer : List Env} {s : Shared} {H0 : Hp} {E : XK}
theorem atI_nat {α : Type} (xs : List α) (i : Nat) : atI xs (i : Int) = xs[i]? := by
  unfold atI ixN
  rw [if_pos (by omega)]
  by_cases h : i < xs.length
  · rw [if_pos (by omega), Int.toNat_natCast]
    rfl
  · rw [if_neg (by omega), List.getElem?_eq_none (by omega)]
    rfl
theorem atI_zero (p : Int) (P : List Int) : atI ((p :: P).map V.int) 0 = some (V.int p) := atI_nat ((p :: P).map V.int) 0
theorem type_list_index : typeOf (.builtin "list.index") = pure (.type "method_descriptor") := by show builtinType _ = _; rw [builtinType_eq_fast]; kernel_rfl
theorem inV_str (x : Str) : ∀ (M : List Str), inV (.str x) (M.map V.str) = decide (x ∈ M)
  | [] => rfl
  | y :: M => by
    show ((y == x) || inV (.str x) (M.map V.str)) = _
    rw [inV_str x M]
    by_cases h : y = x
    · subst h
      simp
    · have h2 : ¬ x = y := fun z => h z.symm
      simp [h, h2]
theorem flat_strs (M : List Str) : (M.map V.str).all flatV = true := by
  rw [List.all_eq_true]
  intro v hv
  obtain ⟨x, _, e⟩ := List.mem_map.mp hv
  rw [← e]
  rfl
theorem idx_first {M : List Str} {x : Str} (h : x ∈ M) : M[M.idxOf x]? = some x ∧ ∀ m y, m < M.idxOf x → M[m]? = some y → y ≠ x := by
  have h1 : M.idxOf x < M.length := List.idxOf_lt_length_iff.mpr h
  refine ⟨by rw [List.getElem?_eq_getElem h1]; simp, fun m y hm hy e => ?_⟩
  subst e
  induction M generalizing m with
  | nil => simp at hm
  | cons z M ih =>
    by_cases hz : z = y
    · subst hz
      simp at hm
    · have e : (z :: M).idxOf y = M.idxOf y + 1 := by rw [List.idxOf_cons, beq_false_of_ne hz]; rfl
      rw [e] at hm
      cases m with
      | zero => exact hz (by simpa using hy)
      | succ m =>
        have hxM : y ∈ M := (List.mem_cons.mp h).resolve_left fun q => hz q.symm
        exact ih m (by simpa using hy) hxM (List.idxOf_lt_length_iff.mpr hxM) (by omega)
theorem law13 (hr : Room 20 (XL P w K mg base fL cdv A outer s H0 E).A) (C : CK P w K mg base CE CP CB) : ∃ t, PS (XL P w K mg base fL cdv A outer s H0 E) (stL 13) t ∧ ∀ (D : Ends) (a d o1 o2 p1 p2 lm ll lk : Addr) (n ss : Nat) (al : Bool) (v7 v13 v14 v15 : Option V) (M L : List Str) (H : Hp), LsH H lm M → LsH H ll L →
    (∀ pl H', Same H H' → H' pl = some (.lst ((L.map (plW M)).map V.int)) → D.nx [some (.ref a), some (.ref d), some (.int n), some (.ref o1), some (.ref o2), some (.ref p1), some (.ref p2), v7, some (.ref lm), some (.bl al), some (.ref ll), some (.int ss), some (.ref lk), v13, v14, v15, some (.ref pl), none, none, none, none, none, none, none, none] H') → t D [some (.ref a), some (.ref d), some (.int n), some (.ref o1), some (.ref o2), some (.ref p1), some (.ref p2), v7, some (.ref lm), some (.bl al), some (.ref ll), some (.int ss), some (.ref lk), v13, v14, v15, none, none, none, none, none, none, none, none, none] H := by
  refine ⟨_, ps_setLc (i := 16) (own := [("word", 24)]) (g := gName 24) rfl scLaw.nd rfl rfl (sw_true rfl rfl rfl (by decide +kernel)) (pi_list (pv 10))
      (blkOk_by (N := NL) (sc := defScope sLaw) (by decide +kernel)) (fun _ _ _ _ _ => pg_name (i := 24) scLaw.nd rfl (Or.inl rfl)) (fun _ _ _ _ _ => pts_nil)
      (fun _ _ _ _ _ => pe_ifExp (pt_cmpR (r := rIn K false) op_in_seq (pv 24) (pv 8) (by rfl)) (show PE _ _ (tBM K _ (rIndex K) _ _) from pe_bm PySem.F.plainAttrs_list PySem.F.slot_list_index type_list_index mt_index (pv 8) (pa_cons (pv 24) pa_nil)) (pe_un un_neg pe_int)), ?_⟩
  intro D a d o1 o2 p1 p2 lm ll lk n ss al v7 v13 v14 v15 M L H hm hl q
  have hls := hl.sm
  refine ⟨_, rfl, ll, rfl, ⟨_, SqL.of hl.at_⟩, fun N hN => ?_⟩
  refine lcL ((L.map (plW M)).map V.int) (by simp) (by rw [List.length_map]; omega) (SqL.of hl.at_) hN (fun i y x H' Q' hx hy s k => ?_) fun H2 s2 hL2 => q N H2 s2 hL2
  rw [List.getElem?_map] at hx
  cases ec : L[i]? with
  | none => rw [ec] at hx; cases hx
  | some z =>
    rw [ec] at hx
    cases hx
    rw [List.getElem?_map, List.getElem?_map, ec] at hy
    cases hy
    have hm' := hm.same s
    refine ⟨rfl, ⟨_, rfl, _, rfl, lm, _, rfl, .inl (SqL.of hm'.at_), rfl, flat_strs M, _, rfl, ?_⟩⟩
    rw [if_neg (by decide : ¬ (false = true)), inV_str]
    refine ite2d (fun c => ?_) (fun c => ?_)
    · obtain ⟨h1, h2⟩ := idx_first c
      refine ⟨_, rfl, .inl ⟨rfl, _, .inl (.inl hm'.at_)⟩, _, rfl, lm, _, _, M.idxOf z, .str z, rfl, rfl, SqL.of hm'.at_, rfl, flat_strs M, by rw [List.getElem?_map, h1]; rfl, (by show (z == z) = true; simp), fun m z' hm1 hz' => ?_, ?_⟩
      · rw [List.getElem?_map] at hz'
        cases ey : M[m]? with
        | none => rw [ey] at hz'; cases hz'
        | some y =>
          rw [ey] at hz'
          cases hz'
          show (y == z) = false
          have := h2 m y hm1 ey
          simp [this]
      · have e : V.int ((M.idxOf z : Nat) : Int) = V.int (plW M z) := by rw [plW, if_pos c]
        rw [e]
        exact k H' (Same.refl _)
    · refine ⟨_, rfl, ?_⟩
      have e : V.int (-1) = V.int (plW M z) := by rw [plW, if_neg c]
      show Q' (V.int (-1)) H'
      rw [e]
      exact k H' (Same.refl _)
/-- 1, if the first place is not the first word's -/
def gap0 : List Int → Nat
  | [] => 0
  | p :: _ => if 0 < p then 1 else 0
theorem law14 (hr : Room 20 (XL P w K mg base fL cdv A outer s H0 E).A) (C : CK P w K mg base CE CP CB) : ∃ t, PS (XL P w K mg base fL cdv A outer s H0 E) (stL 14) t ∧ ∀ (D : Ends) (a d o1 o2 p1 p2 lm ll lk : Addr) (n ss : Nat) (al : Bool) (v7 v13 v14 v15 : Option V) (pl : Addr) (L : List Str) (P : List Int) (H : Hp), LsH H ll L → H pl = some (.lst (P.map V.int)) → P.length = L.length →
    (∀ (g : Nat) H', g = gap0 P → Same H H' → D.nx [some (.ref a), some (.ref d), some (.int n), some (.ref o1), some (.ref o2), some (.ref p1), some (.ref p2), v7, some (.ref lm), some (.bl al), some (.ref ll), some (.int ss), some (.ref lk), v13, v14, v15, some (.ref pl), some (.int g), none, none, none, none, none, none, none] H') → t D [some (.ref a), some (.ref d), some (.int n), some (.ref o1), some (.ref o2), some (.ref p1), some (.ref p2), v7, some (.ref lm), some (.bl al), some (.ref ll), some (.int ss), some (.ref lk), v13, v14, v15, some (.ref pl), none, none, none, none, none, none, none, none] H := by
  have hu := hu64 hr
  refine ⟨_, ps_set (i := 17) scLaw.nd rfl (Or.inl rfl) (pe_ifExp (PW.pt (pw_and (pt_cmpR (op_neW hu) (pv 10) (pe_lst pa_nil) (nomark _)) (pw_and1 (pt_cmpR op_gt (pe_ix ix_list (pv 16) pe_int (fun _ _ => rfl)) pe_int (nomark _))))) pe_int pe_int), ?_⟩
  intro D a d o1 o2 p1 p2 lm ll lk n ss al v7 v13 v14 v15 pl L P H hl hp hPL q
  refine ⟨_, rfl, (by show 0 ≤ sizeLine; decide), fun e he => ?_⟩
  have s1 := Same.new he (.lst [])
  have c1 : upd H e (.lst []) e = some (.lst (([] : List Str).map V.str)) := upd_same
  have hl1 := hl.same s1
  have hp1 := s1 _ _ hp
  generalize upd H e (.lst []) = H1 at *
  refine ⟨ll, e, L, [], rfl, rfl, SqL.of hl1.at_, SqL.of c1, hl1.mrk, fun y hy => (nomatch hy), _, rfl, ?_⟩
  cases L with
  | nil =>
    cases P with
    | cons p P => cases hPL
    | nil => exact iteFF (by rw [decide_eq_true rfl]; rfl) (iteF (q 0 H1 rfl s1))
  | cons w L =>
    cases P with
    | nil => cases hPL
    | cons p P =>
      refine iteTT (by rw [decide_eq_false (fun z => by cases z)]; rfl) ?_
      refine ⟨_, rfl, pl, _, 0, .int p, rfl, rfl, SqL.of hp1, atI_zero _ _, _, _, rfl, rfl, _, rfl, ?_⟩
      refine ite2d (fun c => ?_) (fun c => ?_)
      · exact q 1 H1 (by show 1 = if 0 < p then 1 else 0; rw [if_pos c]) s1
      · exact q 0 H1 (by show 0 = if 0 < p then 1 else 0; rw [if_neg c]) s1
end
end P5

end
section
set_option Elab.async false
set_option linter.all false
set_option maxRecDepth 100000
set_option maxHeartbeats 4000000
namespace P5
open PySem PySem.Spec PyProof.Rows L2
section
variable {P : Program} {w : World} {K : PySem.W.Frag} {mg : Str → Option Value} {base : Heap} {fL CE CP CB : Addr} {cdv : Value} {A : Around} {outer : List Env} {s : Shared} {H0 : Hp} {E : XK}
theorem gn_if {i : Nat} {v : V} {σ : L2.St} {H : Hp} {c : TT} {t u : TS} {D : Ends} (h : c (σ.set i (some v)) H fun b H1 => if b = true then t D (σ.set i (some v)) H1 else u D (σ.set i (some v)) H1) : gName i v σ H (tIfS c t u D) := h
theorem ifx_one {t : TT} {ta tb : TE} {σ : L2.St} {H : Hp} {Q : VK} {c : Prop} [Decidable c] {v : V} (ht : ∀ Q' : Bool → Hp → Prop, Q' (decide c) H → t σ H Q') (ha : c → ∀ Q' : VK, Q' v H → ta σ H Q') (hb : ¬ c → ∀ Q' : VK, Q' v H → tb σ H Q')
    (q : Q v H) : tIf t ta tb σ H Q := ht _ (ite2d (fun h => ha h _ q) (fun h => hb h _ q))
theorem eqd_int {i j : Int} {Q : Bool → Hp → Prop} {H : Hp} (q : Q (decide (i = j)) H) : Q (decide (V.int i = V.int j)) H := by
  rw [show decide (V.int i = V.int j) = decide (i = j) from decide_eq_decide.mpr ⟨V.int.inj, congrArg V.int⟩]
  exact q
theorem ned_int {i j : Int} {Q : Bool → Hp → Prop} {H : Hp} (q : Q (decide (i ≠ j)) H) : Q (!decide (V.int i = V.int j)) H := by
  rw [show (!decide (V.int i = V.int j)) = decide (i ≠ j) from by rw [show decide (V.int i = V.int j) = decide (i = j) from decide_eq_decide.mpr ⟨V.int.inj, congrArg V.int⟩]; exact decide_not.symm]
  exact q
/-- where the next kept place is, behind one -/
def stp (p : Int) : Option Nat := if p < 0 then none else some (p.toNat + 1)
/-- the gaps so far, before turn i, and all of them -/
def GapI (P : List Int) (i g : Nat) : Prop := (i = 0 ∧ g = gap0 P) ∨ ∃ j p, i = j + 1 ∧ P[j]? = some p ∧ g + cnt (stp p) (P.drop (j + 1)) = cnt (some 0) P
theorem gapI_end {P : List Int} {g : Nat} (h : GapI P P.length g) : g = cnt (some 0) P := by
  rcases h with ⟨h1, h2⟩ | ⟨j, p, h1, h2, h3⟩
  · rw [List.length_eq_zero_iff.mp h1] at h2 ⊢
    exact h2
  · rw [← h1, List.drop_length] at h3
    have z : cnt (stp p) [] = 0 := by
      unfold stp
      by_cases hp : p < 0
      · rw [if_pos hp]; rfl
      · rw [if_neg hp]; rfl
    omega
theorem cnt_stp (q : Int) (r : List Int) : (∀ E, cnt (some E) (q :: r) = (if q < 0 ∨ q ≠ (E : Int) then 1 else 0) + cnt (stp q) r) ∧ cnt none (q :: r) = cnt (stp q) r := by
  constructor
  · intro E
    rw [cnt]
    unfold stp
    by_cases h : q < 0
    · rw [if_pos h, if_pos h, if_pos (Or.inl h)]
    · rw [if_neg h, if_neg h]
      by_cases h2 : q = (E : Int)
      · rw [if_pos h2, if_neg (fun z => z.elim h (fun z => z h2))]
      · rw [if_neg h2, if_pos (Or.inr h2)]
  · rw [cnt]
    unfold stp
    by_cases h : q < 0
    · rw [if_pos h, if_pos h]
    · rw [if_neg h, if_neg h]
theorem gapI_next {P : List Int} {i g : Nat} {p b : Int} (h : GapI P i g) (hp : P[i]? = some p) (hb : b = if 0 < i then P.getD (i - 1) 0 else 0) :
    GapI P (i + 1) (g + if (p < 0 ∧ (i = 0 ∨ 0 ≤ b)) ∨ (0 < i ∧ 0 ≤ p ∧ 0 ≤ b ∧ p ≠ b + 1) then 1 else 0) := by
  refine .inr ⟨i, p, rfl, hp, ?_⟩
  have hi : i < P.length := by
    by_cases z : i < P.length
    · exact z
    · rw [List.getElem?_eq_none (by omega)] at hp
      cases hp
  have hdr : P.drop i = p :: P.drop (i + 1) := by
    rw [List.getElem?_eq_getElem hi] at hp
    rw [List.drop_eq_getElem_cons hi, Option.some.inj hp]
  rcases h with ⟨h1, h2⟩ | ⟨j, q, h1, h2, h3⟩
  · subst h1
    cases P with
    | nil => cases hp
    | cons x R =>
      have ex : x = p := by simpa using hp
      subst ex
      rw [(cnt_stp x R).1 0, h2]
      show (if 0 < x then 1 else 0) + _ + cnt (stp x) R = _
      split <;> split <;> split <;> omega
  · subst h1
    have hbq : b = q := by
      rw [hb, if_pos (by omega), Nat.add_sub_cancel, List.getD_eq_getElem?_getD, h2]
      rfl
    rw [hdr] at h3
    rw [← h3]
    by_cases c : q < 0
    · have e : stp q = none := if_pos c
      rw [e, (cnt_stp p _).2]
      split <;> omega
    · have e : stp q = some (q.toNat + 1) := if_neg c
      rw [e, (cnt_stp p _).1]
      have e2 : ((q.toNat + 1 : Nat) : Int) = b + 1 := by omega
      rw [e2]
      split <;> split <;> omega
theorem law15 (hr : Room 20 (XL P w K mg base fL cdv A outer s H0 E).A) (C : CK P w K mg base CE CP CB) : ∃ t, PS (XL P w K mg base fL cdv A outer s H0 E) (stL 15) t ∧ ∀ (D : Ends) (a d o1 o2 p1 p2 lm ll lk : Addr) (n ss : Nat) (al : Bool) (v7 v13 v14 v15 : Option V) (pl : Addr) (P : List Int) (g : Nat) (H : Hp), H pl = some (.lst (P.map V.int)) → P.length ≤ 200 → g = gap0 P →
    (∀ (g : Nat) (v18 v19 v20 : Option V) H', g = cnt (some 0) P → Same H H' → D.nx [some (.ref a), some (.ref d), some (.int n), some (.ref o1), some (.ref o2), some (.ref p1), some (.ref p2), v7, some (.ref lm), some (.bl al), some (.ref ll), some (.int ss), some (.ref lk), v13, v14, v15, some (.ref pl), some (.int g), v18, v19, v20, none, none, none, none] H') → t D [some (.ref a), some (.ref d), some (.int n), some (.ref o1), some (.ref o2), some (.ref p1), some (.ref p2), v7, some (.ref lm), some (.bl al), some (.ref ll), some (.int ss), some (.ref lk), v13, v14, v15, some (.ref pl), some (.int g), none, none, none, none, none, none, none] H := by
  refine ⟨_, ps_for PassesOwn.never rfl (pi_enum rfl C.enum (pa_cons (pv 16) pa_nil)) (pg_tup rfl (pgs_cons (pg_name (i := 18) scLaw.nd rfl (Or.inl rfl)) (pgs_cons (pg_name (i := 19) scLaw.nd rfl (Or.inl rfl)) pgs_nil)))
    (pss_cons (ps_set (i := 20) scLaw.nd rfl (Or.inl rfl) (pe_ifExp (pt_cmpR op_gt (pv 18) pe_int (nomark _)) (pe_ix ix_list (pv 16) (pe_op op_sub (pv 18) pe_int) (fun _ _ => rfl)) pe_int))
    (pss_one (ps_if (PW.pt (pw_or (PW.pt (pw_and (pt_cmpR op_lt (pv 19) pe_int (nomark _)) (pw_and1 (PW.pt (pw_or (pt_cmpR op_eq (pv 18) pe_int (nomark _)) (pw_or1 (pt_cmpR op_ge (pv 20) pe_int (nomark _))))))))
      (pw_or1 (PW.pt (pw_and (pt_cmpR op_gt (pv 18) pe_int (nomark _)) (pw_and (pt_cmpR op_ge (pv 19) pe_int (nomark _)) (pw_and (pt_cmpR op_ge (pv 20) pe_int (nomark _)) (pw_and1 (pt_cmpR op_ne (pv 19) (pe_op op_add (pv 20) pe_int) (nomark _))))))))))
      (pss_one (ps_set (i := 17) scLaw.nd rfl (Or.inl rfl) (pe_op op_add (pv 17) pe_int))) pss_nil))), ?_⟩
  intro D a d o1 o2 p1 p2 lm ll lk n ss al v7 v13 v14 v15 pl P g H hp hl hg q
  refine ⟨_, rfl, pl, _, rfl, SqL.of hp, ?_⟩
  have hlen : (P.map V.int).length = P.length := List.length_map ..
  refine for_it (walk_enum (K := K) (a := pl) (xs := P.map V.int)) (fun i σ H' => Same H H' ∧ ∃ (g : Nat) (v18 v19 v20 : Option V), GapI P i g ∧ σ = [some (.ref a), some (.ref d), some (.int n), some (.ref o1), some (.ref o2), some (.ref p1), some (.ref p2), v7, some (.ref lm), some (.bl al), some (.ref ll), some (.int ss), some (.ref lk), v13, v14, v15, some (.ref pl), some (.int g), v18, v19, v20, none, none, none, none])
    ⟨Same.refl _, g, none, none, none, .inl ⟨rfl, hg⟩, rfl⟩ (fun i σ H' _ ⟨s, _⟩ => SqL.of (s _ _ hp)) ?_ ?_
  · rintro i x σ H1 H2 hi ⟨s1, g, v18, v19, v20, hG, rfl⟩ ⟨T, x1, x2, rfl, hT, rfl, h1, h2⟩
    cases h1
    replace h2 : (P.map V.int)[i]? = some x2 := h2
    rw [List.getElem?_map] at h2
    cases ep : P[i]? with
    | none => rw [ep] at h2; cases h2
    | some p =>
      rw [ep] at h2
      cases h2
      have s2 := Same.new hT (.tup [V.int (i : Nat), V.int p])
      have c2 : upd H1 T (.tup [V.int (i : Nat), V.int p]) T = some (.tup [V.int (i : Nat), V.int p]) := upd_same
      generalize upd H1 T (.tup [V.int (i : Nat), V.int p]) = H2 at *
      have s12 := s1.trans s2
      refine ⟨T, _, rfl, SqT.of c2, rfl, _, _, rfl, _, _, rfl, rfl, ?_⟩
      have step : ∀ b : Int, (b = if 0 < i then P.getD (i - 1) 0 else 0) → ∀ (g' : Nat), (g' = g + if (p < 0 ∧ (i = 0 ∨ 0 ≤ b)) ∨ (0 < i ∧ 0 ≤ p ∧ 0 ≤ b ∧ p ≠ b + 1) then 1 else 0) →
          Same H H2 ∧ ∃ (g : Nat) (v18 v19 v20 : Option V), GapI P (i + 1) g ∧ [some (.ref a), some (.ref d), some (.int n), some (.ref o1), some (.ref o2), some (.ref p1), some (.ref p2), v7, some (.ref lm), some (.bl al), some (.ref ll), some (.int ss), some (.ref lk), v13, v14, v15, some (.ref pl), some (.int g'), some (.int i), some (.int p), some (.int b), none, none, none, none] = [some (.ref a), some (.ref d), some (.int n), some (.ref o1), some (.ref o2), some (.ref p1), some (.ref p2), v7, some (.ref lm), some (.bl al), some (.ref ll), some (.int ss), some (.ref lk), v13, v14, v15, some (.ref pl), some (.int g), v18, v19, v20, none, none, none, none] := fun b hb g' hg' => by
        refine ⟨s12, g', some (.int i), some (.int p), some (.int b), ?_, rfl⟩
        rw [hg']
        exact gapI_next hG ep hb
      have hp2 := s12 _ _ hp
      obtain ⟨b, hb⟩ : ∃ b : Int, b = if 0 < i then P.getD (i - 1) 0 else 0 := ⟨_, rfl⟩
      refine ifx_one (c := 0 < (i : Int)) (v := .int b) (fun Q' q' => ⟨_, rfl, _, _, rfl, rfl, _, rfl, q'⟩) (fun c Q' q' => ⟨_, rfl, _, rfl, _, _, rfl, rfl, pl, _, _, .int b, rfl, rfl, SqL.of hp2, ?_, q'⟩) (fun c Q' q' => ?_) ?_
      · have hi0 : 0 < i := by omega
        rw [show (i : Int) - 1 = ((i - 1 : Nat) : Int) from by omega, atI_nat, List.getElem?_map, hb, if_pos hi0, List.getD_eq_getElem?_getD, List.getElem?_eq_getElem (by rw [hlen] at hi; omega)]
        rfl
      · have e : b = 0 := by rw [hb, if_neg (by omega)]
        rw [e] at q'
        exact q'
      · dsimp only [gName]
        unfold tIfS
        refine or_one (c := p < 0 ∧ ((i : Int) = 0 ∨ 0 ≤ b)) (d := 0 < (i : Int) ∧ 0 ≤ p ∧ 0 ≤ b ∧ p ≠ b + 1) (fun Q' q' => ?_) (fun _ Q' q' => ?_) ?_
        · exact and_one (c := p < 0) (d := (i : Int) = 0 ∨ 0 ≤ b) (fun Q' q' => ⟨_, rfl, _, _, rfl, rfl, _, rfl, q'⟩)
            (fun _ Q' q' => or_one (c := (i : Int) = 0) (d := 0 ≤ b) (fun Q' q' => ⟨_, rfl, rfl, _, rfl, eqd_int q'⟩) (fun _ Q' q' => ⟨_, rfl, _, _, rfl, rfl, _, rfl, q'⟩) q') q'
        · exact and_one (c := 0 < (i : Int)) (d := 0 ≤ p ∧ 0 ≤ b ∧ p ≠ b + 1) (fun Q' q' => ⟨_, rfl, _, _, rfl, rfl, _, rfl, q'⟩)
            (fun _ Q' q' => and_one (c := 0 ≤ p) (d := 0 ≤ b ∧ p ≠ b + 1) (fun Q' q' => ⟨_, rfl, _, _, rfl, rfl, _, rfl, q'⟩)
              (fun _ Q' q' => and_one (c := 0 ≤ b) (d := p ≠ b + 1) (fun Q' q' => ⟨_, rfl, _, _, rfl, rfl, _, rfl, q'⟩)
                (fun _ Q' q' => ⟨_, rfl, _, rfl, _, _, rfl, rfl, rfl, _, rfl, ned_int q'⟩) q') q') q'
        · refine ite2d (fun c => ?_) (fun c => ?_)
          · refine ⟨_, rfl, _, _, rfl, rfl, ?_⟩
            exact step b hb (g + 1) (by rw [if_pos (by omega)])
          · exact step b hb g (by rw [if_neg (by omega), Nat.add_zero])
  · rintro σ H1 ⟨s1, g, v18, v19, v20, hG, rfl⟩
    rw [hlen] at hG
    exact q g v18 v19 v20 H1 (gapI_end hG) s1
theorem law16 (hr : Room 20 (XL P w K mg base fL cdv A outer s H0 E).A) (C : CK P w K mg base CE CP CB) : ∃ t, PS (XL P w K mg base fL cdv A outer s H0 E) (stL 16) t ∧ ∀ (D : Ends) (a d o1 o2 p1 p2 lm ll lk : Addr) (n ss : Nat) (al : Bool) (v7 v13 v14 v15 : Option V) (pl : Addr) (v18 v19 v20 : Option V) (C1 : List Ed) (m1 g : Nat) (H : Hp), PtH K CP H p1 C1 m1 → g = C1.length → 
    (∀ H', Same H H' → D.nx [some (.ref a), some (.ref d), some (.int n), some (.ref o1), some (.ref o2), some (.ref p1), some (.ref p2), v7, some (.ref lm), some (.bl al), some (.ref ll), some (.int ss), some (.ref lk), v13, v14, v15, some (.ref pl), some (.int g), v18, v19, v20, none, none, none, none] H') → t D [some (.ref a), some (.ref d), some (.int n), some (.ref o1), some (.ref o2), some (.ref p1), some (.ref p2), v7, some (.ref lm), some (.bl al), some (.ref ll), some (.int ss), some (.ref lk), v13, v14, v15, some (.ref pl), some (.int g), v18, v19, v20, none, none, none, none] H := by
  obtain ⟨fN, fdN, hN1, hN2, GN, bN⟩ := C.lenP.ex
  refine ⟨_, ps_if (pt_cmpR op_ne (pe_callB (call_lenI hN1 hN2 GN bN (hr.mono (by decide))) rfl C.len PySem.boot_len (pa_cons (pv 5) pa_nil)) (pv 17) (nomark _)) (pss_one ps_never) pss_nil, ?_⟩
  intro D a d o1 o2 p1 p2 lm ll lk n ss al v7 v13 v14 v15 pl v18 v19 v20 C1 m1 g H q1 hg q
  obtain ⟨dx, t, vs, hp, hT, hV, hO⟩ := id q1
  refine ⟨_, rfl, p1, rfl, q1.ins, p1, C1, m1, rfl, q1, C1.length, rfl, by have := hO.few; omega, _, rfl, rfl, _, rfl, ?_⟩
  exact iteFF (by rw [hg, decide_eq_true rfl]; rfl) (q H (Same.refl _))
end
end P5

end
section
set_option Elab.async false
set_option linter.all false
set_option maxRecDepth 100000
set_option maxHeartbeats 4000000
namespace P5
open PySem PySem.Spec PyProof.Rows L2
section
variable {P : Program} {w : World} {K : PySem.W.Frag} {mg : Str → Option Value} {base : Heap} {fL CE CP CB : Addr} {cdv : Value} {A : Around} {outer : List Env} {s : Shared} {H0 : Hp} {E : XK}
theorem EdsH.app {K : PySem.W.Frag} {CE : Addr} {H : Hp} : ∀ {cs ds : List Addr} {es fs : List Ed}, EdsH K CE H cs es → EdsH K CE H ds fs → EdsH K CE H (cs ++ ds) (es ++ fs)
  | [], _, [], _, _, h2 => h2
  | a :: cs, _, b :: es, _, h, h2 => ⟨h.1, EdsH.app h.2 h2⟩
  | [], _, b :: es, _, h, _ => h.elim
  | a :: cs, _, [], _, h, _ => h.elim
theorem tot_app (es fs : List Ed) : tot (es ++ fs) = tot es + tot fs := by
  unfold tot
  rw [List.map_append, List.sum_append]
/-- how many words changes put in, and how many changes there are -/
theorem tot_le : ∀ {C : List Ed} {t : Bool} {s : Nat}, Apt t s C → (tot C : Int) + s ≤ growC C + endC s C ∧ (C.length : Int) + s ≤ tot C + endC s C
  | [], _, s, _ => ⟨by show (0 : Int) + s ≤ 0 + s; omega, by show ((0 : Nat) : Int) + s ≤ ((0 : Nat) : Int) + s; omega⟩
  | e :: C, _, s, .cons h1 _ h3 h4 h5 => by
    obtain ⟨i1, i2⟩ := tot_le h5
    rw [endC_cons]
    have eg : growC (e :: C) = grow e + growC C := rfl
    have et : tot (e :: C) = e.ws.length + tot C := rfl
    have el : (e :: C).length = C.length + 1 := rfl
    have eg2 : grow e = (e.ws.length : Int) - ((e.b : Int) - (e.a : Int)) := rfl
    rw [eg, et, el, eg2]
    have h6 : 1 ≤ e.ws.length + (e.b - e.a) := by
      rcases h4 with h | h
      · omega
      · have : e.ws.length ≠ 0 := fun z => h (List.length_eq_zero_iff.mp z)
        omega
    constructor <;> omega
theorem growS_le : ∀ {es : List Ed}, (∀ e ∈ es, e.a ≤ e.b) → growS es ≤ tot es
  | [], _ => Int.le_refl _
  | e :: es, h => by
    have i := growS_le fun x hx => h x (List.mem_cons_of_mem _ hx)
    have h1 := h e List.mem_cons_self
    have eg : growS (e :: es) = grow e + growS es := rfl
    have et : tot (e :: es) = e.ws.length + tot es := rfl
    have eg2 : grow e = (e.ws.length : Int) - ((e.b : Int) - (e.a : Int)) := rfl
    rw [eg, et, eg2]
    omega
/-- a patch of few edits is small -/
theorem nf_small {es C : List Ed} {m : Nat} (h : NF es C m) (hC : PtOk C m) (he : ∀ e ∈ es, e.a ≤ e.b) : tot C ≤ tot es + m ∧ C.length ≤ tot es + m + m := by
  obtain ⟨a1, a2⟩ := tot_le hC.apt
  have b := nf_grow h hC he
  have c := growS_le he
  have d := hC.fin
  constructor <;> omega
theorem rowOk_few {es : List Ed} {n k : Nat} (h : RowOk es n k) : tot es ≤ 2 * k := few_tot h.few h.len
theorem law17 (hr : Room 20 (XL P w K mg base fL cdv A outer s H0 E).A) (C : CK P w K mg base CE CP CB) : ∃ t, PS (XL P w K mg base fL cdv A outer s H0 E) (stL 17) t ∧ ∀ (D : Ends) (a d o1 o2 p1 p2 lm ll lk pl : Addr) (n ss g : Nat) (al : Bool) (v7 v13 v14 v15 v18 v19 v20 : Option V) (sa : Addr) (c1 : List Addr) (e1 C1 : List Ed) (m1 : Nat) (H : Hp), DrwS H d sa → RowH K CE H o1 c1 e1 → RowOk e1 n 5 → n ≤ 10 → PtH K CP H p1 C1 m1 → NF e1 C1 m1 →
    (∀ lw c3 e3 H', Aft H H' d → DrwS H' d sa → RowH K CE H' lw (c1 ++ c3) (e1 ++ e3) → Fits e3 (siz e1 n) → Few e3 → e3.length = 2 → D.nx [some (.ref a), some (.ref d), some (.int n), some (.ref o1), some (.ref o2), some (.ref p1), some (.ref p2), v7, some (.ref lm), some (.bl al), some (.ref ll), some (.int ss), some (.ref lk), v13, v14, v15, some (.ref pl), some (.int g), v18, v19, v20, some (.ref lw), none, none, none] H') → t D [some (.ref a), some (.ref d), some (.int n), some (.ref o1), some (.ref o2), some (.ref p1), some (.ref p2), v7, some (.ref lm), some (.bl al), some (.ref ll), some (.int ss), some (.ref lk), v13, v14, v15, some (.ref pl), some (.int g), v18, v19, v20, none, none, none, none] H := by
  obtain ⟨fG, fdG, MG, GG, bG⟩ := C.gP.ex
  refine ⟨_, ps_set (i := 21) scLaw.nd rfl (Or.inl rfl) (pe_op op_cat (pv 3) (pe_cl C.les hr (pa_cons (pv 1) (pa_cons (pe_op op_add (pv 2) (pe_meth0 (pv 5) C.clP.cl MG GG hr bG .nil pass0)) (pa_cons pe_int pa_nil))))), ?_⟩
  intro D a d o1 o2 p1 p2 lm ll lk pl n ss g al v7 v13 v14 v15 v18 v19 v20 sa c1 e1 C1 m1 H hd h1 k1 hn q1 nf1 q
  obtain ⟨dx, t, vs, hp, hT, hV, hO⟩ := id q1
  have hle : ∀ e ∈ e1, e.a ≤ e.b := fun e he => (h1.ok e he).le
  have hk : ((siz e1 n : Nat) : Int) = n + growC C1 := by
    have z1 := done_siz (l := MKS n) hle (by rw [MKS_len]; exact k1.fits)
    have z2 := done_len (l := MKS n) hle (by rw [MKS_len]; exact k1.fits)
    rw [MKS_len] at z1 z2
    rw [nf_grow nf1 hO hle, ← z1]
    exact z2
  have hks := k1.siz
  refine ⟨_, rfl, _, rfl, _, rfl, _, rfl, p1, dx, _, rfl, hp, rfl, p1, C1, m1, rfl, q1, fun H1 s1 => ?_⟩
  have d1 := hd.same s1
  have R1 := h1.same s1
  refine ⟨_, _, rfl, rfl, d, sa, siz e1 n, 2, ?_, d1, by omega, by omega, fun H2 l c3 e3 a2 d2 f2 n2 m2 hb he l3 t3 w3 z3 => ?_⟩
  · rw [hk]
    rfl
  have R2 := R1.aft d1 a2
  have y1 := R1.eds.len
  have y2 := k1.len
  have y3 := he.len
  refine ⟨o1, l, _, _, rfl, rfl, R2.at_, hb, small_le (by rw [List.length_map, List.length_map]; omega), fun p hp2 => ?_⟩
  have s3 := Same.new hp2 (.lst (c1.map V.ref ++ c3.map V.ref))
  have R3 := R2.same s3
  refine q p c3 e3 _ (((Aft.of s1).trans a2).trans (Aft.of s3)) (d2.same s3) ⟨by rw [upd_same, List.map_append], R3.eds.app (he.imp fun _ _ z => z.same s3)⟩ t3 w3 l3
/-- what is known behind row 17 -/
structure WhH (K : PySem.W.Frag) (CE CP : Addr) (H : Hp) (lw o1 p1 lm : Addr) (c1 c3 : List Addr) (e1 e3 C1 : List Ed) (n m1 : Nat) : Prop where
  w : RowH K CE H lw (c1 ++ c3) (e1 ++ e3)
  r : RowH K CE H o1 c1 e1
  k : RowOk e1 n 5
  n10 : n ≤ 10
  f3 : Fits e3 (siz e1 n)
  w3 : Few e3
  l3 : e3.length = 2
  pt : PtH K CP H p1 C1 m1
  nf : NF e1 C1 m1
  mx : LsH H lm (MKS (n + 3))
theorem EdsH.right {H : Hp} : ∀ {cs ds : List Addr} {es fs : List Ed}, cs.length = es.length → EdsH K CE H (cs ++ ds) (es ++ fs) → EdsH K CE H ds fs
  | [], _, [], _, _, h => h
  | a :: cs, _, b :: es, _, hl, h => EdsH.right (by simpa using hl) h.2
  | [], _, b :: es, _, hl, _ => by cases hl
  | a :: cs, _, [], _, hl, _ => by cases hl
theorem law18 (hr : Room 20 (XL P w K mg base fL cdv A outer s H0 E).A) (C : CK P w K mg base CE CP CB) : ∃ t, PS (XL P w K mg base fL cdv A outer s H0 E) (stL 18) t ∧ ∀ (D : Ends) (a d o1 o2 p1 p2 lm ll lk pl : Addr) (n ss g : Nat) (al : Bool) (v7 v13 v14 v15 v18 v19 v20 : Option V) (lw : Addr) (c1 c3 : List Addr) (e1 e3 C1 : List Ed) (m1 : Nat) (H : Hp), WhH K CE CP H lw o1 p1 lm c1 c3 e1 e3 C1 n m1 →
    (∀ pb (F : List Ed) (j : Nat) (C3 : List Ed) (m3 : Nat) H', Same H H' → PtH K CP H' pb F j → PtOk C3 m3 → NF e3 C3 m3 → (∀ n : Nat, j ≤ n ↔ m1 ≤ n ∧ (m3 : Int) ≤ n + growC C1) → (∀ x : List Str, j ≤ x.length → apC F 0 x = apC C3 0 (apC C1 0 x)) → D.nx [some (.ref a), some (.ref d), some (.int n), some (.ref o1), some (.ref o2), some (.ref p1), some (.ref p2), v7, some (.ref lm), some (.bl al), some (.ref ll), some (.int ss), some (.ref lk), v13, v14, v15, some (.ref pl), some (.int g), v18, v19, v20, some (.ref lw), some (.ref pb), none, none] H') →
    t D [some (.ref a), some (.ref d), some (.int n), some (.ref o1), some (.ref o2), some (.ref p1), some (.ref p2), v7, some (.ref lm), some (.bl al), some (.ref ll), some (.int ss), some (.ref lk), v13, v14, v15, some (.ref pl), some (.int g), v18, v19, v20, some (.ref lw), none, none, none] H := by
  refine ⟨_, ps_set (i := 22) scLaw.nd rfl (Or.inl rfl) (pe_cl C.beh hr (pa_cons (pv 5) (pa_cons (pe_cl C.pat hr (pa_cons (pe_slice (r := rSlL K) sl_list (pv 21) (po_some (pe_callB call_len_seq rfl C.len PySem.boot_len (pa_cons (pv 3) pa_nil))) po_none) pa_nil)) pa_nil))), ?_⟩
  intro D a d o1 o2 p1 p2 lm ll lk pl n ss g al v7 v13 v14 v15 v18 v19 v20 lw c1 c3 e1 e3 C1 m1 H W q
  obtain ⟨dx, t, vs, hp, hT, hV, hO⟩ := id W.pt
  have y1 := W.r.eds.len
  have y2 := W.k.len
  have y3 := W.l3
  have y4 := W.n10
  have y5 := W.k.siz
  have hle1 : ∀ e ∈ e1, e.a ≤ e.b := fun e he => (W.r.ok e he).le
  have hle3 : ∀ e ∈ e3, e.a ≤ e.b := fun e he => (W.w.ok e (List.mem_append_right _ he)).le
  have M1 : m1 ≤ n := W.nf.lst.2 _ W.k.fits
  have T1 := few_tot W.k.few W.k.len
  have T3 := few_tot W.w3 (Nat.le_of_eq W.l3)
  have B1 := nf_small W.nf hO hle1
  refine ⟨_, rfl, _, rfl, _, rfl, o1, _, rfl, .inl (SqL.of W.r.at_), _, rfl, lw, _, rfl, SqL.of W.w.at_, fun l1 hl1 => ?_⟩
  have s1 := Same.new hl1 (.lst (cutV ((c1 ++ c3).map V.ref) (some ((c1.map V.ref).length : Int)) none))
  have c1' : upd H l1 (.lst (cutV ((c1 ++ c3).map V.ref) (some ((c1.map V.ref).length : Int)) none)) l1 = some (.lst (c3.map V.ref)) := by
    rw [upd_same, cut_from _ _ (by rw [List.length_map, List.length_map, List.length_append]; omega), List.map_append, List.drop_left]
  generalize upd H l1 (.lst (cutV ((c1 ++ c3).map V.ref) (some ((c1.map V.ref).length : Int)) none)) = H1 at *
  have E3 : EdsH K CE H1 c3 e3 := (EdsH.right y1 W.w.eds).imp fun _ _ z => z.same s1
  refine ⟨l1, c3, e3, siz e1 n, rfl, .inl (SqL.of c1'), E3, W.f3, by omega, by omega, by omega, fun H2 p3 C3 m3 s2 f2 q3 nf3 => ?_⟩
  obtain ⟨dx3, t3, vs3, hp3, hT3, hV3, hO3⟩ := id q3
  have M3 : m3 ≤ siz e1 n := nf3.lst.2 _ W.f3
  have B3 := nf_small nf3 hO3 hle3
  have s12 := s1.trans s2
  exact ⟨p1, p3, C1, C3, m1, m3, rfl, W.pt.same s12, q3, by omega, by omega, by omega, by omega, fun H3 pb F j s3 f3 qF hj hF => q pb F j C3 m3 H3 (s12.trans s3) qF hO3 nf3 hj hF⟩
theorem law19 (hr : Room 20 (XL P w K mg base fL cdv A outer s H0 E).A) (C : CK P w K mg base CE CP CB) : ∃ t, PS (XL P w K mg base fL cdv A outer s H0 E) (stL 19) t ∧ ∀ (D : Ends) (a d o1 o2 p1 p2 lm ll lk pl : Addr) (n ss g : Nat) (al : Bool) (v7 v13 v14 v15 v18 v19 v20 : Option V) (lw pb : Addr) (c1 c3 : List Addr) (e1 e3 C1 F C3 : List Ed) (m1 j m3 : Nat) (H : Hp), WhH K CE CP H lw o1 p1 lm c1 c3 e1 e3 C1 n m1 →
    PtH K CP H pb F j → PtOk C3 m3 → NF e3 C3 m3 → (∀ n : Nat, j ≤ n ↔ m1 ≤ n ∧ (m3 : Int) ≤ n + growC C1) → (∀ x : List Str, j ≤ x.length → apC F 0 x = apC C3 0 (apC C1 0 x)) →
    (∀ H', Same H H' → D.nx [some (.ref a), some (.ref d), some (.int n), some (.ref o1), some (.ref o2), some (.ref p1), some (.ref p2), v7, some (.ref lm), some (.bl al), some (.ref ll), some (.int ss), some (.ref lk), v13, v14, v15, some (.ref pl), some (.int g), v18, v19, v20, some (.ref lw), some (.ref pb), none, none] H') → t D [some (.ref a), some (.ref d), some (.int n), some (.ref o1), some (.ref o2), some (.ref p1), some (.ref p2), v7, some (.ref lm), some (.bl al), some (.ref ll), some (.int ss), some (.ref lk), v13, v14, v15, some (.ref pl), some (.int g), v18, v19, v20, some (.ref lw), some (.ref pb), none, none] H := by
  obtain ⟨fQ, fdQ, hQ1, hQ2, GQ, bQ⟩ := C.eqP.ex
  obtain ⟨fC, cC, GC⟩ := C.call.ex
  have hu := hu64 hr
  refine ⟨_, ps_if (PW.pt (pw_or (pt_cmpR (op_neI hQ1 hQ2 C.neP C.obP GQ bQ (hr.mono (by decide))) (pv 22) (pe_cl C.pat hr (pa_cons (pv 21) pa_nil)) (nomark _))
    (pw_or1 (pt_cmpR (op_neW hu) (StX.pe_callO (pv 22) cC GC hr passLN (pa_cons (pv 8) pa_nil)) (pe_cl C.dn hr (pa_cons (pv 21) (pa_cons (pv 8) pa_nil))) (nomark _))))) (pss_one ps_never) pss_nil, ?_⟩
  intro D a d o1 o2 p1 p2 lm ll lk pl n ss g al v7 v13 v14 v15 v18 v19 v20 lw pb c1 c3 e1 e3 C1 F C3 m1 j m3 H W qF hO3 nf3 hj hF q
  have ML : (MKS (n + 3)).length = n + 3 := MKS_len _
  obtain ⟨dx, t, vs, hp, hT, hV, hO⟩ := id W.pt
  have y1 := W.r.eds.len
  have y2 := W.k.len
  have y3 := W.l3
  have y4 := W.n10
  have y5 := W.k.siz
  have y6 := W.w.eds.len
  have hle1 : ∀ e ∈ e1, e.a ≤ e.b := fun e he => (W.r.ok e he).le
  have hle3 : ∀ e ∈ e3, e.a ≤ e.b := fun e he => (W.w.ok e (List.mem_append_right _ he)).le
  have T1 := few_tot W.k.few W.k.len
  have T3 := few_tot W.w3 (Nat.le_of_eq W.l3)
  have hfit : Fits (e1 ++ e3) n := Fits.app_iff.mpr ⟨W.k.fits, W.f3⟩
  have hel : (e1 ++ e3).length ≤ 7 := by rw [List.length_append]; omega
  have hwf : Few (e1 ++ e3) := fun e he => (List.mem_append.mp he).elim (W.k.few e) (W.w3 e)
  refine ⟨_, rfl, _, rfl, lw, c1 ++ c3, e1 ++ e3, n, rfl, .inl (SqL.of W.w.at_), W.w.eds, hfit, by omega, by rw [tot_app]; omega, by omega, fun H1 pw G i s1 f1 qG nfG => ?_⟩
  obtain ⟨dxG, tG, vsG, hpG, hTG, hVG, hOG⟩ := id qG
  obtain ⟨dxF, tF, vsF, hpF, hTF, hVF, hOF⟩ := id qF
  obtain ⟨eF, ej⟩ := behind_eq hle1 hle3 W.nf hO nf3 hO3 hj hOF hF nfG hOG
  subst eF ej
  refine ⟨pb, pw, rfl, rfl, (qF.same s1).ins, qG.ins, pb, pw, F, F, j, j, rfl, qF.same s1, qG, _, rfl, _, rfl, iteFF (by rw [decide_eq_true ⟨rfl, rfl⟩]; rfl) ?_⟩
  have qF1 := qF.same s1
  have J : j ≤ n := nfG.lst.2 _ hfit
  have hfit3 : Fits (e1 ++ e3) (MKS (n + 3)).length := by
    rw [ML]
    exact hfit.mono (fun e he => (W.w.ok e he).le) (by omega)
  have z1 := done_le (fun e he => W.w.ok e he) hwf hfit3
  have RF := nfG.run (MKS (n + 3)) (by omega)
  refine ⟨_, rfl, pb, rfl, _, rfl, qF1.insC, pb, lm, F, j, _, rfl, qF1, (W.mx.same s1).wse, by rw [RF]; omega, fun _ H2 u2 s2 f2 L2 => ?_, fun z => absurd z (by omega)⟩
  rw [RF] at L2
  have s12 := s1.trans s2
  have Rw := W.w.same s12
  refine ⟨_, rfl, _, rfl, lw, lm, c1 ++ c3, e1 ++ e3, _, rfl, SqL.of Rw.at_, Rw.eds, (W.mx.same s12).wsl, hfit3, hwf, by omega, by omega, fun H3 u3 s3 f3 L3 _ => ?_⟩
  exact ⟨u2, u3, _, _, rfl, rfl, (L2.same s3).wsl.at_, L3.wsl.at_, L3.mrk, L3.mrk, _, rfl, iteFF (by rw [decide_eq_true rfl]; rfl) (q H3 (s12.trans s3))⟩
end
end P5

end
section
set_option Elab.async false
set_option linter.all false
set_option maxRecDepth 100000
set_option maxHeartbeats 4000000
namespace P5
open PySem PySem.Spec PyProof.Rows L2
section
variable {P : Program} {w : World} {K : PySem.W.Frag} {mg : Str → Option Value} {base : Heap} {fL CE CP CB : Addr} {cdv : Value} {A : Around} {outer : List Env} {s : Shared} {H0 : Hp} {E : XK}
/-- making a patch, from changes that are ones -/
def spPInit (K : PySem.W.Frag) (CP : Addr) : Sp := fun vs H Q _ => ∃ (p dx t : Addr) (cs : List V) (C : List Ed) (m : Nat), vs = [.ref p, .ref t, .int m] ∧ H p = some (.ins CP dx []) ∧ SqT K H t cs ∧ ChsV K H cs C ∧ PtOk C m ∧
  ∀ H', But p H H' → PtH K CP H' p C m → Q .non H'
/-- patches are made, and asked whether they are equal, while an exception is handled -/
structure MkP (P : Program) (w : World) (K : PySem.W.Frag) (mg : Str → Option Value) (base : Heap) (CP : Addr) : Prop where
  ex : ∃ fI fdI, Mk K CP fI ∧ L2H.FnH P w K mg base CX0 12 fI fdI ["self", "changes", "least"] (spPInit K CP) ∧ L2.Binds K fdI ["self", "changes", "least"] []
  eq : ∃ f fd, PySem.W.findIn K (.ref CP) "__eq__" = some (some (.ref f)) ∧ PySem.W.isFn K (.ref f) = true ∧ L2H.FnH P w K mg base CX0 12 f fd ["self", "other"] (spPEq K CP) ∧ L2.Binds K fd ["self", "other"] []
  m : mg "Patch" = some (.ref CP)
theorem mk_pt {K : PySem.W.Frag} {CP : Addr} {Q : Addr → Hp → Prop} {E : XK} {t : Addr} {cs : List V} {C : List Ed} {m : Nat} {H : Hp} (hT : SqT K H t cs) (hV : ChsV K H cs C) (hO : PtOk C m) (q : ∀ H' x, Same H H' → H x = none → PtH K CP H' x C m → Q x H') :
    ∀ x dx, H x = none → H dx = none → dx ≠ x → spPInit K CP (.ref x :: ([.ref t, .int m] ++ [])) (upd (upd H dx (.own x)) x (.ins CP dx [])) (fun v H2 => v = .non ∧ Q x H2) E := by
  intro x dx hx hdx hne
  have s1 : Same H (upd (upd H dx (.own x)) x (.ins CP dx [])) := (Same.new hdx _).trans (Same.new (by rw [upd_ne (Ne.symm hne)]; exact hx) _)
  refine ⟨x, dx, t, cs, C, m, rfl, upd_same, Same.tup s1 hT, hV.imp fun _ _ z => Same.tup s1 z, hO, fun H' hB hE => ⟨rfl, q H' x (fun b o hb => hB _ _ (fun z => ?_) (s1 _ _ hb)) hx hE⟩⟩
  rw [z, hx] at hb
  cases hb
theorem apC_le : ∀ {C : List Ed} {t : Bool} {s : Nat} (l : List Str), Apt t s C → (apC C s l).length ≤ l.length + tot C
  | [], _, s, l, _ => Nat.le_add_right _ _
  | e :: C, _, s, l, .cons h1 _ h3 _ h5 => by
    show (l.take (e.a - s) ++ (e.ws ++ apC C e.b (l.drop (e.b - s)))).length ≤ l.length + (e.ws.length + tot C)
    have ih := apC_le (l.drop (e.b - s)) h5
    rw [List.length_append, List.length_append, List.length_take]
    rw [List.length_drop] at ih
    omega
end
section
variable {X : Cx} {CX : CXT} {k : Nat} {C g : Addr} {sp : Sp} {E : L2.St → XK} {e fe : Expr} {es : List Expr} {tf : TE} {t : TA} {pos : Pos}
/-- a call of an instance; what it lets out is told at the slots as they stand -/
def tCallOS (X : Cx) (C : Addr) (sp : Sp) (E : L2.St → XK) (tf : TE) (t : TA) : TE := fun σ H Q => tf σ H fun y H1 => ∃ a, y = V.ref a ∧ t σ H1 fun vs H2 => StX.InsC X H2 a C ∧ sp (V.ref a :: vs) H2 Q (E σ)
theorem pe_callOS (hf : PE X fe tf) (c : StX.CallO X.K C g) (F : FnR X.prog X.w X.K X.mg X.base CX k g sp) (hr : Room k X.A) (hx : ∀ σ, PassesAt CX X σ (E σ)) (ha : PA X (e :: es) t)
    (ht : eval (.Call fe (e :: es) [] pos) X.env = (do callWith pos (← eval fe X.env) [] (backTo pos (starEach (e :: es) X.env)) (backToKw pos (keywordEach [] X.env))) := by rfl)
    (he : starEach (e :: es) X.env = (false, eval e X.env) :: starEach es X.env := by rfl) (hpl : (backTo pos (starEach es X.env)).any (·.1) = false := by rfl) : PE X (.Call fe (e :: es) [] pos) (tCallOS X C sp E tf t) :=
  ⟨fun pins s σ H Q I h => Call_ (thn (hf.run pins s σ H _ I h) fun u s1 z => by
    obtain ⟨y, H1, I1, ry, a, ey, q⟩ := z
    subst ey
    obtain rfl : u = Value.ref a := ry
    refine StX.callO_with (thn (ha.run pos pins s1 σ H1 _ I1 q) fun us s2 z2 => ?_) he hpl
    obtain ⟨vs, H2, I2, r, hi, q2⟩ := z2
    obtain ⟨ox, od, J, hd⟩ := StX.insC_at I2 hi
    refine ⟨⟨C, ox, od, J, hd⟩, wpAny_call (PySem.W.kco_code I2.kIn J hd c.at_ c.fn c.fi (codeAny_mono (F X.A X.stack s2 H2 (.ref a :: us) (.ref a :: vs) Q (E σ) hr I2.env0 (.cons rfl r) q2) fun r s' hq => ?_))⟩
    match r, hq with
    | .error e, hq => exact hx σ pins H2 s2 e s' I2 hq
    | .ok (.ret u), hq => exact I2.after hq) ht⟩
/-- an instance is made while an exception is handled -/
theorem run_makeH {f : Addr} {fd : FuncData} {ps : List Str} {pins : List (Addr × Obj)} {σ : L2.St} {H : Hp} {s : Shared} {Q : VK} {us : List Value} {vs : List V} (M : Mk X.K C f) (F : L2H.FnH X.prog X.w X.K X.mg X.base CX0 k f fd ps sp) (hr : L2H.RoomH (k + 1) X.A) (hc : L2H.HotC X) (hb : L2.Binds X.K fd ps [])
    (I : Inv X pins σ H s) (r : Vals vs us)
    (h : ∀ x dx, H x = none → H dx = none → dx ≠ x → sp (.ref x :: (vs ++ [])) (upd (upd H dx (.own x)) x (.ins C dx [])) (fun v H2 => v = .non ∧ Q (.ref x) H2) E0) : wpAny (model X.prog X.w) X.A (call (.ref C) us) (EP X pins σ Q) X.xe s := by
  obtain ⟨p, hot, hp⟩ := hc
  have hq := h (s.heap.objs.size + 1) s.heap.objs.size (I.hok.fresh (Nat.le_succ _)) (I.hok.fresh (Nat.le_refl _)) (Nat.ne_of_lt (Nat.lt_succ_self _))
  rw [List.append_nil] at hq
  have I2 := Inv.made (C := C) I
  have r2 : Vals (V.ref (s.heap.objs.size + 1) :: vs) (Value.ref (s.heap.objs.size + 1) :: us) := .cons rfl r
  have hl : (Value.ref (s.heap.objs.size + 1) :: us).length = ps.length := by
    rw [← r2.length]
    exact F.len _ _ _ _ hq
  have P1 := I2.pin p (List.mem_append_left _ hp)
  have b2 := hb _ (Value.ref (s.heap.objs.size + 1) :: us) I2.kIn (by rw [List.append_nil]; exact hl)
  rw [List.append_nil] at b2
  refine wpAny_call (make_map (f := f) I.kIn M.makes M.init (beq_iff_eq.mp M.fn) (codeAny_mono (F.run _ X.stack _ _ ⟨Value.ref (s.heap.objs.size + 1) :: us, []⟩ (Value.ref (s.heap.objs.size + 1) :: us) _ _ E0 p (hr.make C us []) ⟨hot.1, hot.2⟩
    ⟨P1.1, P1.2.1, fun hm => (List.mem_cons.mp (I2.stkSub p.1 hm)).elim P1.2.2.1 P1.2.2.2.1, P1.2.2.2.2⟩ (I2.env0.make C us []) b2 r2 hq) fun r s' hq' => ?_))
  match r, hq' with
  | .error e, hq' => exact (show False from hq').elim
  | .ok (.ret u), hq' =>
    obtain ⟨v, H', I3, rv, ev, q3⟩ := I2.after hq'
    subst ev
    exact ⟨rv, ⟨V.ref (s.heap.objs.size + 1), H', I3, rfl, q3⟩⟩
theorem pe_makeH {f : Addr} {fd : FuncData} {ps : List Str} {x : Str} {p : Pos} (M : Mk X.K C f) (F : L2H.FnH X.prog X.w X.K X.mg X.base CX0 k f fd ps sp) (hr : L2H.RoomH (k + 1) X.A) (hc : L2H.HotC X) (hg : Gl X x) (hm : X.mg x = some (.ref C)) (hb : L2.Binds X.K fd ps [])
    (ha : PA X (e :: es) t) (hdb : (x == ("__debug__" : Str)) = false := by decide) (he : starEach (e :: es) X.env = (false, eval e X.env) :: starEach es X.env := by rfl) (hpl : (backTo pos (starEach es X.env)).any (·.1) = false := by rfl) :
    PE X (.Call (.Name x p) (e :: es) [] pos) (tMake C sp [] E0 t) :=
  ⟨fun pins s σ H Q I h => wpAny_Call_Name_kw (ld_glob I hg hm (PySem.W.callWith_K (h₀ := X.base) I.ok.mod.kin M.kp (thn (ha.run pos pins s σ H _ I h) fun us s1 ⟨vs, H1, I1, r, q⟩ => ⟨I1.kIn, run_makeH M F hr hc hb I1 r q⟩) he hpl) hdb)⟩
/-- x == y of two instances with an own __eq__, while an exception is handled -/
theorem op_eqIH {f : Addr} {fd : FuncData} {ps : List Str} (hs : PySem.W.findIn X.K (.ref C) "__eq__" = some (some (.ref f))) (hf : PySem.W.isFn X.K (.ref f) = true) (F : L2H.FnH X.prog X.w X.K X.mg X.base CX0 k f fd ps sp) (hb : L2.Binds X.K fd ps []) (hr : L2H.RoomH k X.A) (hc : L2H.HotC X) :
    OpR X (compareOp .Eq) (fun x y H Q => ∃ (a b : Addr), x = .ref a ∧ y = .ref b ∧ InsI H a C ∧ InsI H b C ∧ sp [.ref a, .ref b] H (fun v H' => ∃ c, v = .bl c ∧ Q (.bl c) H') E0) := by
  intro pins s σ H x y v u Q I rx ry h
  obtain ⟨a, b, rfl, rfl, ho, ho2, q⟩ := h
  cases (show v = Value.ref a from rx)
  cases (show u = Value.ref b from ry)
  show wpAny (model X.prog X.w) X.A (richCompare .Eq (.ref a) (.ref b)) (EP X pins σ Q) X.xe s
  obtain ⟨ox, od, J⟩ := insI_at I ho
  obtain ⟨ox2, od2, J2⟩ := insI_at I ho2
  obtain ⟨m, hF⟩ := I.fr
  refine PySem.W.cmp_K (op := .Eq) (tb := .ref C) (by have := hr.un; omega) hF I.ok.mod.kin J J2.type (by simp [PySem.W.notFirst]) hs hf ?_
  refine wpAny_mono (L2H.run_fnH (us := [.ref a, .ref b]) (vs := [.ref a, .ref b]) (E := fun _ => E0) F hr hc hb (fun _ _ _ _ _ _ z => (show False from z).elim) I (.cons rfl (.cons rfl .nil)) q) (fun z s' hz => ?_) fun _ _ e => e
  obtain ⟨v', H', I', rz, c, rfl, hQ⟩ := hz
  cases (show z = Value.bool c from rz)
  exact ⟨.bl c, H', I', rfl, hQ⟩
end
section
variable {P : Program} {w : World} {K : PySem.W.Frag} {mg : Str → Option Value} {base : Heap} {fL CE CP CB : Addr} {cdv : Value} {A : Around} {outer : List Env} {s : Shared} {H0 : Hp} {E : XK}
theorem law20 (hr : Room 20 (XL P w K mg base fL cdv A outer s H0 E).A) (C : CK P w K mg base CE CP CB) : ∃ t, PS (XL P w K mg base fL cdv A outer s H0 E) (stL 20) t ∧ ∀ (D : Ends) (p1 : Addr) (C1 : List Ed) (m1 : Nat) (σ : L2.St) (H : Hp), σ[5]? = some (some (.ref p1)) → PtH K CP H p1 C1 m1 → (m1 = 0 → D.rt (.bl true) H) → (0 < m1 → D.nx σ H) → t D σ H := by
  refine ⟨_, ps_if (pt_cmpR op_eq (pe_fld (pv 5) rfl) pe_int (nomark _)) (pss_one (ps_ret pe_bl)) pss_nil, ?_⟩
  intro D p1 C1 m1 σ H h5 q1 q0 q
  obtain ⟨dx, t, vs, hp, hT, hV, hO⟩ := id q1
  refine ⟨_, h5, p1, CP, dx, _, .int m1, rfl, hp, C.clP.cl, C.clP.nL, rfl, rfl, _, rfl, ite2 (fun c => ?_) (fun c => ?_)⟩
  · have e : (m1 : Int) = 0 := V.int.inj (of_decide_eq_true c)
    exact q0 (by omega)
  · exact q (Nat.pos_of_ne_zero fun z => c (by rw [z]; exact decide_eq_true rfl))
theorem law22 : ∃ t, PS (XL P w K mg base fL cdv A outer s H0 E) (stL 22) t := ⟨_, ps_ret pe_bl⟩
theorem law21 (hr : Room 20 (XL P w K mg base fL cdv A outer s H0 E).A) (C : CK P w K mg base CE CP CB) (JP : MkP P w K mg base CP) (hB : mg "BadEdit" = some (.ref CB)) (hX : PySem.W.exmOne K (.ref CB) (.ref CB) = some true) : ∃ t, PS (XL P w K mg base fL cdv A outer s H0 E) (stL 21) t ∧ ∀ (D : Ends) (p1 : Addr) (C1 : List Ed) (m1 : Nat) (σ : L2.St) (H : Hp), σ[5]? = some (some (.ref p1)) → PtH K CP H p1 C1 m1 → 0 < m1 → m1 ≤ 20 → tot C1 ≤ 60 → (∀ H', D.rt (.bl true) H') → t D σ H := by
  obtain ⟨fC, cC, GC⟩ := C.call.ex
  obtain ⟨fI, fdI, JM, JF, Jb⟩ := JP.ex
  obtain ⟨fQ, fdQ, hQ1, hQ2, GQ, bQ⟩ := JP.eq
  refine ⟨_, L2H.ps_try_onlyX (X := (XL P w K mg base fL cdv A outer s H0 E)) (c := .ref CB) (Wout := fun _ _ _ _ => False) (tb := fun W D σ H => ∃ (p1 : Addr) (C1 : List Ed) (m1 : Nat), σ[5]? = some (some (.ref p1)) ∧ PtH K CP H p1 C1 m1 ∧ 0 < m1 ∧ m1 ≤ 20 ∧ tot C1 ≤ 60 ∧ (∀ H', Same H H' → W (.ref CB) none σ H'))
      (ts := fun a cls d D σ H => ∃ (p1 : Addr) (C1 : List Ed) (m1 : Nat), σ[5]? = some (some (.ref p1)) ∧ PtH K CP H p1 C1 m1 ∧ ∀ H', D.rt (.bl true) H') rfl rfl ⟨rfl, rfl, .inl hB⟩ (fun _ => PassesOwnAt.never) L2.takes0 ?_ ?_, ?_⟩
  · intro W pn xe tk _ hpo
    refine ⟨fun pins s' σ H' D I h => ?_⟩
    obtain ⟨p1, C1, m1, h5, q1, hm, hm2, htot, hE⟩ := h
    obtain ⟨dx, t, vs, hp, hT, hV, hO⟩ := id q1
    refine PSs.run (X := (XL P w K mg base fL cdv A outer s H0 E).tr pn xe) (pss_one (ps_expr (pe_callOS (E := L2.WE W) (pv 5) cC GC hr (L2N.passAt tk) (pa_cons (pe_cl C.mks hr (pa_cons (pe_op op_sub (pe_fld (pv 5) rfl) pe_int) pa_nil)) pa_nil)))) pins s' σ H' D I ?_
    refine ⟨_, h5, p1, rfl, _, h5, p1, CP, dx, _, .int m1, rfl, hp, C.clP.cl, C.clP.nL, rfl, _, _, rfl, rfl, m1 - 1, congrArg (fun z : Int => [V.int z]) (by omega), by omega, fun H1 l s1 f1 L1 => ?_⟩
    have q2 := q1.same s1
    have e1 : (MKS (m1 - 1)).length = m1 - 1 := MKS_len _
    refine ⟨q2.insC, p1, l, C1, m1, _, rfl, q2, L1.wse, by have := apC_le (MKS (m1 - 1)) hO.apt; omega, fun z => absurd z (by omega), fun _ H2 s2 => hE H2 (s1.trans s2)⟩
  · intro a oe cls d pn hz hf _ hot
    refine ⟨fun pins s' σ H' D I h => ?_⟩
    obtain ⟨p1, C1, m1, h5, q1, hq⟩ := h
    obtain ⟨dx, t, vs, hp, hT, hV, hO⟩ := id q1
    have hrH : ∀ k, k ≤ 20 → L2H.RoomH k (L2H.suiteX (XL P w K mg base fL cdv A outer s H0 E) a ((a, oe) :: pn)).A := fun k hk => (L2H.roomH_mark hr _).mono hk
    refine PSs.run (X := L2H.suiteX (XL P w K mg base fL cdv A outer s H0 E) a ((a, oe) :: pn)) (pss_one (ps_ret (pe_cmpR (op_eqIH hQ1 hQ2 GQ bQ (hrH _ (by decide)) hot) (pe_makeH (x := "Patch") JM JF (hrH _ (by decide)) hot rfl JP.m Jb (pa_cons (pe_fld (pv 5) rfl) (pa_cons (pe_fld (pv 5) rfl) pa_nil))) (pv 5) (nomark _)))) pins s' σ H' D I ?_
    refine ⟨_, h5, p1, CP, dx, _, .ref t, rfl, hp, C.clP.cl, C.clP.nC, rfl, _, h5, p1, CP, dx, _, .int m1, rfl, hp, C.clP.cl, C.clP.nL, rfl, ?_⟩
    refine mk_pt (Q := fun x H2 => _) hT hV hO fun H2 x s2 fx q2 => ?_
    refine ⟨_, h5, x, p1, rfl, rfl, q2.ins, (q1.same s2).ins, x, p1, C1, C1, m1, m1, rfl, q2, q1.same s2, _, rfl, ?_⟩
    rw [decide_eq_true ⟨rfl, rfl⟩]
    exact hq _
  · intro D p1 C1 m1 σ H h5 q1 hm hm2 htot hq
    exact ⟨p1, C1, m1, h5, q1, hm, hm2, htot, fun H' s => ⟨true, hX, fun _ a ha => ⟨p1, C1, m1, h5, q1.same s, hq⟩, fun z => by cases z⟩⟩
end
end P5

end
section
set_option Elab.async false
set_option linter.all false
set_option maxRecDepth 100000
set_option maxHeartbeats 4000000
namespace P5
open PySem PySem.Spec PyProof.Rows L2
/-! ### the law -/
def spLaw (K : PySem.W.Frag) : Sp := fun vs H Q _ => ∃ (a : Addr) (ns : List Int), vs = [.ref a] ∧ SqL K H a (ns.map V.int) ∧ ns.length ≤ 63 ∧ ∀ H', Q (.bl true) H'
section
variable {P : Program} {w : World} {K : PySem.W.Frag} {mg : Str → Option Value} {base : Heap} {fL CE CP CB : Addr}
theorem WhH.same {H H' : Hp} {lw o1 p1 lm : Addr} {c1 c3 : List Addr} {e1 e3 C1 : List Ed} {n m1 : Nat} (s : Same H H') (h : WhH K CE CP H lw o1 p1 lm c1 c3 e1 e3 C1 n m1) : WhH K CE CP H' lw o1 p1 lm c1 c3 e1 e3 C1 n m1 :=
  ⟨h.w.same s, h.r.same s, h.k, h.n10, h.f3, h.w3, h.l3, h.pt.same s, h.nf, h.mx.same s⟩
theorem PtH.pok {H : Hp} {p : Addr} {C : List Ed} {m : Nat} (h : PtH K CP H p C m) : PtOk C m := by
  obtain ⟨_, _, _, _, _, _, h⟩ := h
  exact h
theorem ok_law {fd : FuncData} (F : Fun K "law" "law" sLaw fL fd) (C : CK P w K mg base CE CP CB) (JP : MkP P w K mg base CP) (hB : mg "BadEdit" = some (.ref CB)) (hX : PySem.W.exmOne K (.ref CB) (.ref CB) = some true)
    (hLi : ∀ cdv A outer s H0 E, Room 20 (XL P w K mg base fL cdv A outer s H0 E).A → CallR (XL P w K mg base fL cdv A outer s H0 E) (.type "list") (rListP K CP)) : FnOk P w K mg base CX0 21 fL fd ["script"] (spLaw K) := by
  refine F.ok scLaw (fun vs H Q E h => ?_) (fun cdv A outer s H vs Q E hr h => ?_)
  · obtain ⟨_, _, rfl, _⟩ := h
    rfl
  obtain ⟨a, ns, rfl, hS, hl, q⟩ := h
  have hr8 : Room 20 (XL P w K mg base fL cdv A outer s H E).A := hr
  obtain ⟨t0, p0, h0⟩ := law0 (P := P) (w := w) (K := K) (mg := mg) (base := base) (fL := fL) (cdv := cdv) (A := A) (outer := outer) (s := s) (H0 := H) (E := E)
  obtain ⟨t1, w1, h1⟩ := law1 hr8 C
  obtain ⟨t2, w2, h2⟩ := law2 hr8 C
  obtain ⟨t3, w3, h3⟩ := law3 hr8 C
  obtain ⟨t4, w4, h4⟩ := law4 hr8 C
  obtain ⟨t5, w5, h5⟩ := law5 hr8 C
  obtain ⟨t6, w6, h6⟩ := law6 hr8 C
  obtain ⟨t7, w7, h7⟩ := law7 hr8 C
  obtain ⟨t8, w8, h8⟩ := law8 hr8 C
  obtain ⟨t9, w9, h9⟩ := law9 hr8 C (hLi _ _ _ _ _ _ hr8)
  obtain ⟨t10, w10, h10⟩ := law10 hr8 C
  obtain ⟨t11, w11, h11⟩ := law11 hr8 C
  obtain ⟨t12, w12, h12⟩ := law12 hr8 C
  obtain ⟨t13, w13, h13⟩ := law13 hr8 C
  obtain ⟨t14, w14, h14⟩ := law14 hr8 C
  obtain ⟨t15, w15, h15⟩ := law15 hr8 C
  obtain ⟨t16, w16, h16⟩ := law16 hr8 C
  obtain ⟨t17, w17, h17⟩ := law17 hr8 C
  obtain ⟨t18, w18, h18⟩ := law18 hr8 C
  obtain ⟨t19, w19, h19⟩ := law19 hr8 C
  obtain ⟨t20, w20, h20⟩ := law20 hr8 C
  obtain ⟨t21, w21, h21⟩ := law21 hr8 C JP hB hX
  obtain ⟨t22, w22⟩ := law22 (P := P) (w := w) (K := K) (mg := mg) (base := base) (fL := fL) (cdv := cdv) (A := A) (outer := outer) (s := s) (H0 := H) (E := E)
  have all : PSs (XL P w K mg base fL cdv A outer s H E) (defBody sLaw) _ := pss_cons p0 (pss_cons w1 (pss_cons w2 (pss_cons w3 (pss_cons w4 (pss_cons w5 (pss_cons w6 (pss_cons w7 (pss_cons w8 (pss_cons w9 (pss_cons w10 (pss_cons w11 (pss_cons w12 (pss_cons w13 (pss_cons w14 (pss_cons w15
    (pss_cons w16 (pss_cons w17 (pss_cons w18 (pss_cons w19 (pss_cons w20 (pss_cons w21 (pss_one w22))))))))))))))))))))))
  refine ⟨_, all, ?_⟩
  refine h0 _ a ns _ _ H hS hl fun d sa H1 d1 => ?_
  refine h1 _ a d sa _ _ H1 d1 fun n H2 d2 n3 n10 => ?_
  refine h2 _ a d sa n _ _ _ H2 d2 n10 fun o1 o2 c1 c2 e1 e2 H3 d3 r1 r2 k1 k2 _ _ _ => ?_
  refine h3 _ a d sa o1 o2 c1 c2 e1 e2 n H3 d3 r1 r2 k1 k2 fun o2 c2 e2 H4 d4 r1 r2 k2 => ?_
  refine h4 _ a d sa o1 o2 c1 c2 e1 e2 n H4 d4 r1 r2 k1 k2 n10 fun p1 p2 C1 C2 m1 m2 H5 s5 q1 q2 nf1 nf2 => ?_
  have d5 := d4.same s5
  have r1 := r1.same s5
  have r2 := r2.same s5
  refine h5 _ a d sa o1 o2 p1 p2 c1 c2 e1 e2 C1 C2 n m1 m2 H5 d5 r1 r2 k1 k2 n10 q1 q2 nf1 nf2 fun v7 H6 a6 d6 => ?_
  have r1 := r1.aft d5 a6
  have r2 := r2.aft d5 a6
  have q1 := q1.aft d5 a6
  have q2 := q2.aft d5 a6
  have M1 : m1 ≤ n := nf1.lst.2 _ k1.fits
  have hle1 : ∀ e ∈ e1, e.a ≤ e.b := fun e he => (r1.ok e he).le
  have T1 := few_tot k1.few k1.len
  have y1 := k1.len
  have O1 := q1.pok
  have B1 := nf_small nf1 O1 hle1
  have ML : (MKS (n + 3)).length = n + 3 := MKS_len _
  have F1 : Fits e1 (MKS (n + 3)).length := k1.fits.mono hle1 (by omega)
  have D1 := done_le (fun e he => r1.ok e he) k1.few F1
  have R1 := nf1.run (MKS (n + 3)) (by omega)
  refine h6 _ a d o1 o2 p1 p2 c1 e1 C1 n m1 v7 H6 r1 k1 n10 q1 nf1 fun H7 s7 => ?_
  refine h7 _ a d o1 o2 p1 p2 n v7 H7 n10 fun lm H8 s8 _ lm8 => ?_
  have S8 := s7.trans s8
  refine h8 _ a d o1 o2 p1 p2 lm c1 c2 e1 e2 C1 C2 n m1 m2 v7 H8 (r1.same S8) (r2.same S8) k1 k2 n10 O1 q2.pok nf1 nf2 lm8 fun al H9 eal s9 => ?_
  have S9 := S8.trans s9
  refine h9 _ a d o1 o2 p1 p2 lm C1 C2 n m1 m2 al v7 H9 (q1.same S9) (q2.same S9) eal fun H10 s10 => ?_
  have S10 := S9.trans s10
  have lm10 := lm8.same (s9.trans s10)
  refine h10 _ a d o1 o2 p1 p2 lm e1 C1 n m1 al v7 H10 (q1.same S10) nf1 lm10 n10 M1 (by omega) fun ll lk H11 s11 hll hlk => ?_
  have S11 := S10.trans s11
  have lm11 := lm10.same s11
  rw [← R1] at hll
  refine h11 _ a d o1 o2 p1 p2 lm ll lk C1 n m1 al v7 H11 (q1.same S11) lm11 n10 M1 (by rw [R1]; omega) hlk fun lk ss Lk v13 v14 v15 H12 s12 hL hss hK => ?_
  have S12 := S11.trans s12
  refine h12 _ a d o1 o2 p1 p2 lm ll lk C1 n m1 ss Lk al v7 v13 v14 v15 H12 (q1.same S12) (lm11.same s12) n10 M1 (by omega) hL (hll.same s12) hss hK (by omega) fun H13 s13 => ?_
  have S13 := S12.trans s13
  have lm13 := lm11.same (s12.trans s13)
  have ll13 := hll.same (s12.trans s13)
  refine h13 _ a d o1 o2 p1 p2 lm ll lk n ss al v7 v13 v14 v15 (MKS (n + 3)) (apC C1 0 (MKS (n + 3))) H13 lm13 ll13 fun pl H14 s14 hpl => ?_
  refine h14 _ a d o1 o2 p1 p2 lm ll lk n ss al v7 v13 v14 v15 pl (apC C1 0 (MKS (n + 3))) _ H14 (ll13.same s14) hpl (by rw [List.length_map]) fun g H15 hg s15 => ?_
  refine h15 _ a d o1 o2 p1 p2 lm ll lk n ss al v7 v13 v14 v15 pl _ g H15 (s15 _ _ hpl) (by rw [List.length_map, R1]; omega) hg fun g v18 v19 v20 H16 hg s16 => ?_
  have S16 := ((S13.trans s14).trans s15).trans s16
  have lm16 := lm13.same ((s14.trans s15).trans s16)
  have hgC : g = C1.length := by
    rw [hg]
    have fr : Free C1 (MKS (n + 3)) := fun e he x hx z => by
      obtain ⟨dd, hdd, hxd⟩ := nf_words nf1 he hx
      exact MKS_not (by omega) x z ((k1.few dd hdd).2 x hxd)
    have z := plW_C (MKS_nodup (by omega)) (s := 0) O1.apt (by have := O1.fin; omega) (Nat.zero_le _) fr
    rw [List.drop_zero] at z
    rw [z]
    exact cnt_C O1.apt (.inr (by have := O1.fin; omega))
  refine h16 _ a d o1 o2 p1 p2 lm ll lk n ss al v7 v13 v14 v15 pl v18 v19 v20 C1 m1 g H16 (q1.same S16) hgC fun H17 s17 => ?_
  have S17 := S16.trans s17
  have d17 := d6.same S17
  have r17 := r1.same S17
  have q17 := q1.same S17
  have lm17 := lm16.same s17
  refine h17 _ a d o1 o2 p1 p2 lm ll lk pl n ss g al v7 v13 v14 v15 v18 v19 v20 sa c1 e1 C1 m1 H17 d17 r17 k1 n10 q17 nf1 fun lw c3 e3 H18 a18 d18 rw3 f3 w3 l3 => ?_
  have W : WhH K CE CP H18 lw o1 p1 lm c1 c3 e1 e3 C1 n m1 := ⟨rw3, r17.aft d17 a18, k1, n10, f3, w3, l3, q17.aft d17 a18, nf1, lm17.aft d17 a18⟩
  refine h18 _ a d o1 o2 p1 p2 lm ll lk pl n ss g al v7 v13 v14 v15 v18 v19 v20 lw c1 c3 e1 e3 C1 m1 H18 W fun pb F j C3 m3 H19 s19 qF o3 nf3 hj hF => ?_
  have W := W.same s19
  refine h19 _ a d o1 o2 p1 p2 lm ll lk pl n ss g al v7 v13 v14 v15 v18 v19 v20 lw pb c1 c3 e1 e3 C1 F C3 m1 j m3 H19 W qF o3 nf3 hj hF fun H20 s20 => ?_
  have q20 := W.pt.same s20
  refine h20 _ p1 C1 m1 _ H20 rfl q20 (fun _ => q _) fun hm => ?_
  exact h21 _ p1 C1 m1 _ H20 rfl q20 hm (by omega) (by omega) q
end
end P5

end
section
set_option Elab.async false
set_option linter.all false
set_option maxRecDepth 100000
set_option maxHeartbeats 4000000
namespace P5
open PySem PySem.Spec PyProof.Rows L2
/-! ### pieces: what edits leave of any words -/
inductive Pc
  | kp (a : Nat) (b : Option Nat)
  | pt (ws : List Str)
def pden : Pc → List Str → List Str
  | .kp a none, l => l.drop a
  | .kp a (some b), l => (l.take b).drop a
  | .pt ws, _ => ws
def den : List Pc → List Str → List Str
  | [], _ => []
  | p :: r, l => pden p l ++ den r l
theorem den_app (f g : List Pc) (l : List Str) : den (f ++ g) l = den f l ++ den g l := by
  induction f with
  | nil => rfl
  | cons p f ih => show pden p l ++ den (f ++ g) l = pden p l ++ den f l ++ den g l; rw [ih, List.append_assoc]
/-- finite pieces between two places -/
inductive Fin : Nat → List Pc → Nat → Prop
  | nil {s t : Nat} : s ≤ t → Fin s [] t
  | pt {s t : Nat} {ws : List Str} {r : List Pc} : Fin s r t → Fin s (.pt ws :: r) t
  | kp {s t a b : Nat} {r : List Pc} : s ≤ a → a ≤ b → Fin b r t → Fin s (.kp a (some b) :: r) t
/-- pieces of all words from a place on; the last one begins at L at the latest -/
inductive WFp (L : Nat) : Nat → List Pc → Prop
  | last {s a : Nat} : s ≤ a → a ≤ L → WFp L s [.kp a none]
  | pt {s : Nat} {ws : List Str} {r : List Pc} : WFp L s r → WFp L s (.pt ws :: r)
  | kp {s a b : Nat} {r : List Pc} : s ≤ a → a ≤ b → b ≤ L → WFp L b r → WFp L s (.kp a (some b) :: r)
theorem WFp.mono {L L' s : Nat} {r : List Pc} (h : WFp L s r) (hl : L ≤ L') : WFp L' s r := by
  induction h with
  | last h1 h2 => exact .last h1 (by omega)
  | pt _ ih => exact .pt ih
  | kp h1 h2 h3 _ ih => exact .kp h1 h2 (by omega) ih
theorem WFp.low {L s s' : Nat} {r : List Pc} (h : WFp L s r) (hs : s' ≤ s) : WFp L s' r := by
  induction h generalizing s' with
  | last h1 h2 => exact .last (by omega) h2
  | pt _ ih => exact .pt (ih hs)
  | kp h1 h2 h3 h4 _ => exact .kp (by omega) h2 h3 h4
theorem Fin.wfp {L s t : Nat} {f r : List Pc} (h : Fin s f t) (hr : WFp L t r) (ht : t ≤ L) : WFp L s (f ++ r) := by
  induction h with
  | nil h1 => exact hr.low h1
  | pt _ ih => exact .pt (ih hr ht)
  | kp h1 h2 h3 ih =>
    have z := ih hr ht
    have hb : ∀ {s t : Nat} {f : List Pc}, Fin s f t → s ≤ t := fun h => by
      induction h with
      | nil h => exact h
      | pt _ ih => exact ih
      | kp h1 h2 _ ih => omega
    exact .kp h1 h2 (by have := hb h3; omega) z
theorem Fin.le {s t : Nat} {f : List Pc} (h : Fin s f t) : s ≤ t := by
  induction h with
  | nil h => exact h
  | pt _ ih => exact ih
  | kp h1 h2 _ ih => omega
theorem WFp.ne {L s : Nat} {r : List Pc} (h : WFp L s r) : r ≠ [] := by cases h <;> exact fun z => nomatch z
/-- cut at a number of words -/
def cutP : List Pc → Nat → List Pc × List Pc
  | [], _ => ([], [])
  | .pt ws :: r, n => if n < ws.length then ([.pt (ws.take n)], .pt (ws.drop n) :: r) else ((.pt ws :: (cutP r (n - ws.length)).1), (cutP r (n - ws.length)).2)
  | .kp a none :: r, n => ([.kp a (some (a + n))], .kp (a + n) none :: r)
  | .kp a (some b) :: r, n => if n < b - a then ([.kp a (some (a + n))], .kp (a + n) (some b) :: r) else ((.kp a (some b) :: (cutP r (n - (b - a))).1), (cutP r (n - (b - a))).2)
theorem pden_len {a b : Nat} {l : List Str} (h : b ≤ l.length) : (pden (.kp a (some b)) l).length = b - a := by
  show ((l.take b).drop a).length = b - a
  rw [List.length_drop, List.length_take]
  omega
/-- what a cut gives -/
structure CutOk (L s : Nat) (ps : List Pc) (n : Nat) (f b : List Pc) : Prop where
  mid : ∃ t, Fin s f t ∧ WFp L t b ∧ t ≤ L
  fr : ∀ l : List Str, L ≤ l.length → den f l = (den ps l).take n
  bk : ∀ l : List Str, L ≤ l.length → den b l = (den ps l).drop n
theorem cutP_ok {L s : Nat} {ps : List Pc} (h : WFp L s ps) : ∀ {n : Nat}, (∀ l : List Str, l.length = L → n ≤ (den ps l).length) → CutOk L s ps n (cutP ps n).1 (cutP ps n).2 := by
  induction h with
  | @last s a h1 h2 =>
    intro n hn
    have hl : a + n ≤ L := by
      have := hn (List.replicate L ("" : Str)) (by rw [List.length_replicate])
      simp [den, pden] at this
      omega
    refine ⟨⟨a + n, .kp h1 (by omega) (.nil (by omega)), .last (Nat.le_refl _) hl, hl⟩, fun l hl => ?_, fun l hl => ?_⟩
    · show (l.take (a + n)).drop a ++ [] = (l.drop a ++ []).take n
      rw [List.append_nil, List.append_nil, List.drop_take, Nat.add_sub_cancel_left]
    · show l.drop (a + n) ++ [] = (l.drop a ++ []).drop n
      rw [List.append_nil, List.append_nil, List.drop_drop]
  | @pt s ws r hr ih =>
    intro n hn
    by_cases c : n < ws.length
    · have e : cutP (.pt ws :: r) n = ([.pt (ws.take n)], .pt (ws.drop n) :: r) := by rw [cutP, if_pos c]
      rw [e]
      have lowL : ∀ {s : Nat} {r : List Pc}, WFp L s r → s ≤ L := fun h => by
        induction h with
        | last h1 h2 => omega
        | pt _ ih => exact ih
        | kp h1 h2 h3 _ _ => omega
      refine ⟨⟨s, .pt (.nil (Nat.le_refl _)), .pt hr, lowL hr⟩, fun l hl => ?_, fun l hl => ?_⟩
      · show ws.take n ++ [] = (ws ++ den r l).take n
        rw [List.append_nil, List.take_append_of_le_length (by omega)]
      · show ws.drop n ++ den r l = (ws ++ den r l).drop n
        rw [List.drop_append_of_le_length (by omega)]
    · have e : cutP (.pt ws :: r) n = ((.pt ws :: (cutP r (n - ws.length)).1), (cutP r (n - ws.length)).2) := by rw [cutP, if_neg c]
      rw [e]
      obtain ⟨⟨t, k1, k2, k3⟩, k4, k5⟩ := ih (n := n - ws.length) (fun l hl => by
        have := hn l hl
        have e2 : den (.pt ws :: r) l = ws ++ den r l := rfl
        rw [e2, List.length_append] at this
        omega)
      refine ⟨⟨t, .pt k1, k2, k3⟩, fun l hl => ?_, fun l hl => ?_⟩
      · show ws ++ den (cutP r (n - ws.length)).1 l = (ws ++ den r l).take n
        rw [k4 l hl, List.take_append, List.take_of_length_le (l := ws) (by omega)]
      · show den (cutP r (n - ws.length)).2 l = (ws ++ den r l).drop n
        rw [k5 l hl, List.drop_append, List.drop_of_length_le (l := ws) (by omega), List.nil_append]
  | @kp s a b r h1 h2 h3 hr ih =>
    intro n hn
    by_cases c : n < b - a
    · have e : cutP (.kp a (some b) :: r) n = ([.kp a (some (a + n))], .kp (a + n) (some b) :: r) := by rw [cutP, if_pos c]
      rw [e]
      refine ⟨⟨a + n, .kp h1 (by omega) (.nil (Nat.le_refl _)), .kp (Nat.le_refl _) (by omega) h3 hr, by omega⟩, fun l hl => ?_, fun l hl => ?_⟩
      · show (l.take (a + n)).drop a ++ [] = ((l.take b).drop a ++ den r l).take n
        rw [List.append_nil, List.take_append_of_le_length (by rw [List.length_drop, List.length_take]; omega), List.drop_take, List.drop_take, List.take_take]
        congr 1
        omega
      · show (l.take b).drop (a + n) ++ den r l = ((l.take b).drop a ++ den r l).drop n
        rw [List.drop_append_of_le_length (by rw [List.length_drop, List.length_take]; omega), List.drop_drop]
    · have e : cutP (.kp a (some b) :: r) n = ((.kp a (some b) :: (cutP r (n - (b - a))).1), (cutP r (n - (b - a))).2) := by rw [cutP, if_neg c]
      rw [e]
      have hd : ∀ l : List Str, L ≤ l.length → ((l.take b).drop a).length = b - a := fun l hl => pden_len (a := a) (b := b) (by omega)
      obtain ⟨⟨t, k1, k2, k3⟩, k4, k5⟩ := ih (n := n - (b - a)) (fun l hl => by
        have := hn l hl
        have e2 : den (.kp a (some b) :: r) l = (l.take b).drop a ++ den r l := rfl
        rw [e2, List.length_append, hd l (by omega)] at this
        omega)
      refine ⟨⟨t, .kp h1 h2 k1, k2, k3⟩, fun l hl => ?_, fun l hl => ?_⟩
      · show (l.take b).drop a ++ den (cutP r (n - (b - a))).1 l = ((l.take b).drop a ++ den r l).take n
        rw [k4 l hl, List.take_append, hd l hl, List.take_of_length_le (l := (l.take b).drop a) (by rw [hd l hl]; omega)]
      · show den (cutP r (n - (b - a))).2 l = ((l.take b).drop a ++ den r l).drop n
        rw [k5 l hl, List.drop_append, hd l hl, List.drop_of_length_le (l := (l.take b).drop a) (by rw [hd l hl]; omega), List.nil_append]
/-- words put in, of pieces -/
def ptot : List Pc → Nat
  | [] => 0
  | .kp _ _ :: r => ptot r
  | .pt ws :: r => ws.length + ptot r
theorem ptot_app (f g : List Pc) : ptot (f ++ g) = ptot f + ptot g := by
  induction f with
  | nil => exact (Nat.zero_add _).symm
  | cons p f ih =>
    cases p with
    | kp a b => exact ih
    | pt ws => show ws.length + ptot (f ++ g) = ws.length + ptot f + ptot g; omega
def pmk (ps : List Pc) : Prop := ∀ ws, Pc.pt ws ∈ ps → ∀ x ∈ ws, x ∈ MRK
theorem pmk.app {f g : List Pc} (h1 : pmk f) (h2 : pmk g) : pmk (f ++ g) := fun ws hw => (List.mem_append.mp hw).elim (h1 ws) (h2 ws)
theorem cutP_tot : ∀ (ps : List Pc) (n : Nat), ptot (cutP ps n).1 + ptot (cutP ps n).2 = ptot ps
  | [], _ => rfl
  | .pt ws :: r, n => by
    by_cases c : n < ws.length
    · rw [cutP, if_pos c]
      show (ws.take n).length + 0 + ((ws.drop n).length + ptot r) = ws.length + ptot r
      rw [List.length_take, List.length_drop]
      omega
    · have ih := cutP_tot r (n - ws.length)
      rw [cutP, if_neg c]
      show ws.length + ptot (cutP r (n - ws.length)).1 + ptot (cutP r (n - ws.length)).2 = ws.length + ptot r
      omega
  | .kp a none :: r, n => by show 0 + ptot r = ptot r; omega
  | .kp a (some b) :: r, n => by
    by_cases c : n < b - a
    · rw [cutP, if_pos c]
      show 0 + ptot r = ptot r
      omega
    · have ih := cutP_tot r (n - (b - a))
      rw [cutP, if_neg c]
      exact ih
theorem cutP_cnt : ∀ (ps : List Pc) (n : Nat), (cutP ps n).1.length + (cutP ps n).2.length ≤ ps.length + 1
  | [], _ => Nat.zero_le _
  | .pt ws :: r, n => by
    by_cases c : n < ws.length
    · rw [cutP, if_pos c]
      show 1 + (r.length + 1) ≤ r.length + 1 + 1
      omega
    · have ih := cutP_cnt r (n - ws.length)
      rw [cutP, if_neg c]
      show (cutP r (n - ws.length)).1.length + 1 + (cutP r (n - ws.length)).2.length ≤ r.length + 1 + 1
      omega
  | .kp a none :: r, n => by show 1 + (r.length + 1) ≤ r.length + 1 + 1; omega
  | .kp a (some b) :: r, n => by
    by_cases c : n < b - a
    · rw [cutP, if_pos c]
      show 1 + (r.length + 1) ≤ r.length + 1 + 1
      omega
    · have ih := cutP_cnt r (n - (b - a))
      rw [cutP, if_neg c]
      show (cutP r (n - (b - a))).1.length + 1 + (cutP r (n - (b - a))).2.length ≤ r.length + 1 + 1
      omega
theorem cutP_mk : ∀ {ps : List Pc} {n : Nat}, pmk ps → pmk (cutP ps n).1 ∧ pmk (cutP ps n).2
  | [], _, h => ⟨h, h⟩
  | .pt ws :: r, n, h => by
    have hr : pmk r := fun w hw => h w (List.mem_cons_of_mem _ hw)
    have hw := h ws List.mem_cons_self
    by_cases c : n < ws.length
    · rw [cutP, if_pos c]
      refine ⟨fun w hw' x hx => ?_, fun w hw' x hx => ?_⟩
      · cases List.mem_singleton.mp hw'
        exact hw x (List.mem_of_mem_take hx)
      · rcases List.mem_cons.mp hw' with z | z
        · cases z
          exact hw x (List.mem_of_mem_drop hx)
        · exact hr w z x hx
    · obtain ⟨i1, i2⟩ := cutP_mk (n := n - ws.length) hr
      rw [cutP, if_neg c]
      refine ⟨fun w hw' x hx => ?_, i2⟩
      rcases List.mem_cons.mp hw' with z | z
      · cases z
        exact hw x hx
      · exact i1 w z x hx
  | .kp a none :: r, n, h => by
    have hr : pmk r := fun w hw => h w (List.mem_cons_of_mem _ hw)
    refine ⟨fun w hw' => ?_, fun w hw' => ?_⟩
    · cases List.mem_singleton.mp hw'
    · rcases List.mem_cons.mp hw' with z | z
      · cases z
      · exact hr w z
  | .kp a (some b) :: r, n, h => by
    have hr : pmk r := fun w hw => h w (List.mem_cons_of_mem _ hw)
    by_cases c : n < b - a
    · rw [cutP, if_pos c]
      refine ⟨fun w hw' => ?_, fun w hw' => ?_⟩
      · cases List.mem_singleton.mp hw'
      · rcases List.mem_cons.mp hw' with z | z
        · cases z
        · exact hr w z
    · obtain ⟨i1, i2⟩ := cutP_mk (n := n - (b - a)) hr
      rw [cutP, if_neg c]
      refine ⟨fun w hw' => ?_, i2⟩
      rcases List.mem_cons.mp hw' with z | z
      · cases z
      · exact i1 w z
/-- an edit of pieces -/
def edP (ps : List Pc) (e : Ed) : List Pc := (cutP ps e.a).1 ++ [Pc.pt e.ws] ++ (cutP (cutP ps e.a).2 (e.b - e.a)).2
/-- pieces that do F to all words of L or more -/
structure PInv (L : Nat) (ps : List Pc) (F : List Str → List Str) (cnt sum : Nat) : Prop where
  wf : WFp L 0 ps
  den : ∀ l : List Str, L ≤ l.length → den ps l = F l
  cnt : ps.length ≤ cnt
  tot : ptot ps ≤ sum
  mks : pmk ps
theorem PInv.mono {L L' : Nat} {ps : List Pc} {F : List Str → List Str} {c s : Nat} (h : PInv L ps F c s) (hl : L ≤ L') : PInv L' ps F c s := ⟨h.wf.mono hl, fun l q => h.den l (by omega), h.cnt, h.tot, h.mks⟩
theorem PInv.edit {L : Nat} {ps : List Pc} {F : List Str → List Str} {c s : Nat} {e : Ed} (h : PInv L ps F c s) (he : e.a ≤ e.b) (hm : ∀ x ∈ e.ws, x ∈ MRK) (hf : ∀ l : List Str, l.length = L → e.b ≤ (F l).length) :
    PInv L (edP ps e) (fun l => app e (F l)) (c + 3) (s + e.ws.length) := by
  obtain ⟨⟨t, k1, k2, k3⟩, k4, k5⟩ := cutP_ok (n := e.a) h.wf (fun l hl => by have := hf l hl; rw [h.den l (by omega)]; omega)
  obtain ⟨⟨t2, j1, j2, j3⟩, j4, j5⟩ := cutP_ok (n := e.b - e.a) k2 (fun l hl => by have := hf l hl; rw [k5 l (by omega), h.den l (by omega), List.length_drop]; omega)
  have m1 := cutP_mk (n := e.a) h.mks
  have m2 := cutP_mk (n := e.b - e.a) m1.2
  have t1 := cutP_tot ps e.a
  have t2' := cutP_tot (cutP ps e.a).2 (e.b - e.a)
  have c1 := cutP_cnt ps e.a
  have c2 := cutP_cnt (cutP ps e.a).2 (e.b - e.a)
  have hc := h.cnt
  have ht := h.tot
  refine ⟨?_, fun l hl => ?_, ?_, ?_, ?_⟩
  · show WFp L 0 ((cutP ps e.a).1 ++ [Pc.pt e.ws] ++ (cutP (cutP ps e.a).2 (e.b - e.a)).2)
    rw [List.append_assoc]
    exact k1.wfp (.pt (j2.low j1.le)) k3
  · show P5.den ((cutP ps e.a).1 ++ [Pc.pt e.ws] ++ (cutP (cutP ps e.a).2 (e.b - e.a)).2) l = app e (F l)
    rw [den_app, den_app, k4 l hl, j5 l hl, k5 l hl, h.den l hl, List.drop_drop]
    show (F l).take e.a ++ (e.ws ++ []) ++ _ = _
    rw [List.append_nil, show e.a + (e.b - e.a) = e.b from by omega]
    rfl
  · show ((cutP ps e.a).1 ++ [Pc.pt e.ws] ++ (cutP (cutP ps e.a).2 (e.b - e.a)).2).length ≤ c + 3
    rw [List.length_append, List.length_append, List.length_singleton]
    omega
  · show ptot ((cutP ps e.a).1 ++ [Pc.pt e.ws] ++ (cutP (cutP ps e.a).2 (e.b - e.a)).2) ≤ s + e.ws.length
    rw [ptot_app, ptot_app]
    show ptot (cutP ps e.a).1 + (e.ws.length + 0) + _ ≤ _
    omega
  · refine (m1.1.app fun w hw => ?_).app m2.2
    cases List.mem_singleton.mp hw
    exact hm
theorem PInv.start : PInv 0 [.kp 0 none] id 1 0 := ⟨.last (Nat.le_refl _) (Nat.le_refl _), fun l _ => by show l.drop 0 ++ [] = l; simp, Nat.le_refl _, Nat.le_refl _, fun w hw => by cases List.mem_singleton.mp hw⟩
/-- the changes of pieces -/
def chg (at_ : Nat) (ws : List Str) : List Pc → List Ed
  | [] => []
  | .pt w :: r => chg at_ (ws ++ w) r
  | .kp a none :: _ => if at_ < a ∨ ws ≠ [] then [⟨at_, a, ws⟩] else []
  | .kp a (some b) :: r => if a = b then chg at_ ws r else if at_ < a ∨ ws ≠ [] then ⟨at_, a, ws⟩ :: chg b [] r else chg b [] r
theorem apC_skip {C : List Ed} {a b : Nat} {l : List Str} (h : Apt false b C) (hab : a ≤ b) (hb : b ≤ l.length) : apC C a (l.drop a) = (l.take b).drop a ++ apC C b (l.drop b) := by
  cases h with
  | nil =>
    show l.drop a = (l.take b).drop a ++ l.drop b
    rw [List.drop_take, show l.drop b = (l.drop a).drop (b - a) from by rw [List.drop_drop]; congr 1; omega, List.take_append_drop]
  | @cons _ _ e C h1 h2 h3 h4 h5 =>
    show (l.drop a).take (e.a - a) ++ (e.ws ++ apC C e.b ((l.drop a).drop (e.b - a))) = (l.take b).drop a ++ ((l.drop b).take (e.a - b) ++ (e.ws ++ apC C e.b ((l.drop b).drop (e.b - b))))
    rw [List.drop_drop, List.drop_drop, show a + (e.b - a) = b + (e.b - b) from by omega, ← List.append_assoc ((l.take b).drop a)]
    congr 1
    rw [List.drop_take, show e.a - a = (b - a) + (e.a - b) from by omega, List.take_add, List.drop_drop, show a + (b - a) = b from by omega]
theorem chg_ok {L : Nat} : ∀ {ps : List Pc} {s at_ : Nat} {ws : List Str}, WFp L s ps → at_ ≤ s →
    Apt false at_ (chg at_ ws ps) ∧ endC at_ (chg at_ ws ps) ≤ L ∧ ∀ l : List Str, L ≤ l.length → apC (chg at_ ws ps) at_ (l.drop at_) = ws ++ den ps l
  | _, _, at_, ws, .last (a := a) h1 h2, hs => by
    by_cases c : at_ < a ∨ ws ≠ []
    · have e : chg at_ ws [.kp a none] = [⟨at_, a, ws⟩] := by rw [chg, if_pos c]
      rw [e]
      refine ⟨.cons (Nat.le_refl _) (fun z => nomatch z) (by show at_ ≤ a; omega) c .nil, h2, fun l hl => ?_⟩
      show (l.drop at_).take (at_ - at_) ++ (ws ++ (l.drop at_).drop (a - at_)) = ws ++ (l.drop a ++ [])
      rw [Nat.sub_self, List.take_zero, List.nil_append, List.drop_drop, List.append_nil, show at_ + (a - at_) = a from by omega]
    · have e : chg at_ ws [.kp a none] = [] := by rw [chg, if_neg c]
      rw [e]
      have ew : ws = [] := Classical.not_not.mp fun z => c (.inr z)
      have ea : at_ = a := by have : ¬ at_ < a := fun z => c (.inl z); omega
      subst ew ea
      refine ⟨.nil, h2, fun l hl => ?_⟩
      show l.drop at_ = [] ++ (l.drop at_ ++ [])
      rw [List.append_nil, List.nil_append]
  | _, s, at_, ws, .pt (ws := w) (r := r) hr, hs => by
    obtain ⟨i1, i2, i3⟩ := chg_ok (ws := ws ++ w) hr hs
    refine ⟨i1, i2, fun l hl => ?_⟩
    show apC (chg at_ (ws ++ w) r) at_ (l.drop at_) = ws ++ (w ++ den r l)
    rw [i3 l hl, List.append_assoc]
  | _, s, at_, ws, .kp (a := a) (b := b) (r := r) h1 h2 h3 hr, hs => by
    by_cases c0 : a = b
    · have e : chg at_ ws (.kp a (some b) :: r) = chg at_ ws r := by rw [chg, if_pos c0]
      rw [e]
      obtain ⟨i1, i2, i3⟩ := chg_ok (ws := ws) hr (show at_ ≤ b by omega)
      refine ⟨i1, i2, fun l hl => ?_⟩
      rw [i3 l hl]
      show ws ++ den r l = ws ++ ((l.take b).drop a ++ den r l)
      rw [c0, List.drop_of_length_le (l := l.take b) (by rw [List.length_take]; omega), List.nil_append]
    · obtain ⟨i1, i2, i3⟩ := chg_ok (at_ := b) (ws := []) hr (Nat.le_refl _)
      have tight : Apt true a (chg b [] r) := by
        cases hC : chg b [] r with
        | nil => exact .nil
        | cons e C =>
          rw [hC] at i1
          cases i1 with
          | cons g1 g2 g3 g4 g5 => exact .cons (by omega) (fun _ => by omega) g3 g4 g5
      have run : ∀ l : List Str, L ≤ l.length → apC (chg b [] r) a (l.drop a) = (l.take b).drop a ++ den r l := fun l hl => by
        rw [apC_skip i1 h2 (by omega), i3 l hl, List.nil_append]
      by_cases c : at_ < a ∨ ws ≠ []
      · have e : chg at_ ws (.kp a (some b) :: r) = ⟨at_, a, ws⟩ :: chg b [] r := by rw [chg, if_neg c0, if_pos c]
        rw [e]
        refine ⟨.cons (Nat.le_refl _) (fun z => nomatch z) (by show at_ ≤ a; omega) c tight, ?_, fun l hl => ?_⟩
        · rw [endC_cons]
          show endC a (chg b [] r) ≤ L
          cases hC : chg b [] r with
          | nil => show a ≤ L; omega
          | cons e C => rw [hC] at i2; exact i2
        · show (l.drop at_).take (at_ - at_) ++ (ws ++ apC (chg b [] r) a ((l.drop at_).drop (a - at_))) = ws ++ ((l.take b).drop a ++ den r l)
          rw [Nat.sub_self, List.take_zero, List.nil_append, List.drop_drop, show at_ + (a - at_) = a from by omega, run l hl]
      · have e : chg at_ ws (.kp a (some b) :: r) = chg b [] r := by rw [chg, if_neg c0, if_neg c]
        rw [e]
        have ew : ws = [] := Classical.not_not.mp fun z => c (.inr z)
        have ea : at_ = a := by have : ¬ at_ < a := fun z => c (.inl z); omega
        subst ew ea
        refine ⟨tight.loose, ?_, fun l hl => ?_⟩
        · cases hC : chg b [] r with
          | nil => show at_ ≤ L; omega
          | cons e C => rw [hC] at i2; exact i2
        · rw [run l hl]; rfl
theorem chg_few : ∀ (ps : List Pc) (at_ : Nat) (ws : List Str), (chg at_ ws ps).length ≤ ps.length
  | [], _, _ => Nat.zero_le _
  | .pt w :: r, at_, ws => Nat.le_succ_of_le (chg_few r at_ (ws ++ w))
  | .kp a none :: r, at_, ws => by
    rw [chg]
    split
    · exact Nat.succ_le_succ (Nat.zero_le _)
    · exact Nat.zero_le _
  | .kp a (some b) :: r, at_, ws => by
    have i1 := chg_few r at_ ws
    have i2 := chg_few r b []
    rw [chg]
    split
    · exact Nat.le_succ_of_le i1
    · split
      · exact Nat.succ_le_succ i2
      · exact Nat.le_succ_of_le i2
theorem chg_ws : ∀ (ps : List Pc) (at_ : Nat) (ws : List Str), tot (chg at_ ws ps) ≤ ws.length + ptot ps
  | [], _, _ => Nat.zero_le _
  | .pt w :: r, at_, ws => by
    have := chg_ws r at_ (ws ++ w)
    rw [List.length_append] at this
    show tot (chg at_ (ws ++ w) r) ≤ ws.length + (w.length + ptot r)
    omega
  | .kp a none :: r, at_, ws => by
    rw [chg]
    split
    · show ws.length + 0 ≤ ws.length + ptot r
      omega
    · exact Nat.zero_le _
  | .kp a (some b) :: r, at_, ws => by
    have i1 := chg_ws r at_ ws
    have i2 := chg_ws r b []
    rw [chg]
    show _ ≤ ws.length + ptot r
    simp only [List.length_nil] at i2
    split
    · exact i1
    · split
      · show ws.length + tot (chg b [] r) ≤ _
        omega
      · omega
theorem chg_mk : ∀ {ps : List Pc} {at_ : Nat} {ws : List Str}, pmk ps → (∀ x ∈ ws, x ∈ MRK) → ∀ e ∈ chg at_ ws ps, ∀ x ∈ e.ws, x ∈ MRK
  | [], _, _, _, _, e, he => by cases he
  | .pt w :: r, at_, ws, h, hw, e, he => by
    refine chg_mk (ps := r) (at_ := at_) (ws := ws ++ w) (fun w hw => h w (List.mem_cons_of_mem _ hw)) (fun x hx => ?_) e he
    rcases List.mem_append.mp hx with z | z
    · exact hw x z
    · exact h w List.mem_cons_self x z
  | .kp a none :: r, at_, ws, h, hw, e, he => by
    rw [chg] at he
    split at he
    · cases List.mem_singleton.mp he
      exact hw
    · cases he
  | .kp a (some b) :: r, at_, ws, h, hw, e, he => by
    have hr : pmk r := fun w hw => h w (List.mem_cons_of_mem _ hw)
    rw [chg] at he
    split at he
    · exact chg_mk hr hw e he
    · split at he
      · rcases List.mem_cons.mp he with z | z
        · rw [z]; exact hw
        · exact chg_mk (ws := []) hr (fun x hx => nomatch hx) e z
      · exact chg_mk (ws := []) hr (fun x hx => nomatch hx) e he
theorem tot_mem : ∀ {C : List Ed} {e : Ed}, e ∈ C → e.ws.length ≤ tot C
  | [], e, h => by cases h
  | d :: C, e, h => by
    rcases List.mem_cons.mp h with z | z
    · rw [z]; exact Nat.le_add_right _ _
    · have := tot_mem z
      show e.ws.length ≤ d.ws.length + tot C
      omega
theorem Apt.facts : ∀ {C : List Ed} {t : Bool} {s : Nat} {e : Ed}, Apt t s C → e ∈ C → e.a ≤ e.b ∧ e.b ≤ endC s C
  | [], _, _, e, _, h => by cases h
  | d :: C, _, _, e, .cons h1 h2 h3 h4 h5, h => by
    rcases List.mem_cons.mp h with z | z
    · rw [z, endC_cons]; exact ⟨h3, h5.le_end⟩
    · exact ⟨(h5.facts z).1, (h5.facts z).2⟩
/-- the patch of pieces -/
theorem PInv.patch {L : Nat} {ps : List Pc} {F : List Str → List Str} {c s : Nat} (h : PInv L ps F c s) (hc : c ≤ 200) (hs : s ≤ 200) (hL : L ≤ 200) : PtOk (chg 0 [] ps) L ∧ ∀ l : List Str, L ≤ l.length → apC (chg 0 [] ps) 0 l = F l := by
  obtain ⟨i1, i2, i3⟩ := chg_ok (at_ := 0) (ws := []) h.wf (Nat.le_refl _)
  have hcnt := h.cnt
  have htot := h.tot
  have few := chg_few ps 0 []
  have ht := chg_ws ps 0 []
  simp only [List.length_nil] at ht
  refine ⟨⟨i1, i2, fun e he => ?_, hL, by omega⟩, fun l hl => ?_⟩
  · obtain ⟨f1, f2⟩ := i1.facts he
    have := tot_mem he
    exact ⟨f1, chg_mk (ws := []) h.mks (fun x hx => nomatch hx) e he, by omega, by omega⟩
  · have := i3 l hl
    rw [List.drop_zero, List.nil_append, h.den l hl] at this
    exact this
/-- the pieces of changes -/
def pcsC (s : Nat) : List Ed → List Pc
  | [] => [.kp s none]
  | e :: C => .kp s (some e.a) :: .pt e.ws :: pcsC e.b C
theorem pcsC_ok {L : Nat} : ∀ {C : List Ed} {t : Bool} {s : Nat}, Apt t s C → endC s C ≤ L → WFp L s (pcsC s C) ∧ ∀ l : List Str, L ≤ l.length → den (pcsC s C) l = apC C s (l.drop s)
  | [], _, s, _, hE => ⟨.last (Nat.le_refl _) hE, fun l hl => by show l.drop s ++ [] = l.drop s; rw [List.append_nil]⟩
  | e :: C, _, s, .cons h1 _ h3 _ h5, hE => by
    have hz := h5.le_end
    rw [endC_cons] at hE
    obtain ⟨i1, i2⟩ := pcsC_ok h5 hE
    refine ⟨.kp (Nat.le_refl _) h1 (by omega) (.pt (i1.low h3)), fun l hl => ?_⟩
    show (l.take e.a).drop s ++ (e.ws ++ den (pcsC e.b C) l) = (l.drop s).take (e.a - s) ++ (e.ws ++ apC C e.b ((l.drop s).drop (e.b - s)))
    rw [i2 l hl, List.drop_take, List.drop_drop, show s + (e.b - s) = e.b from by omega]
theorem pcsC_len : ∀ (C : List Ed) (s : Nat), (pcsC s C).length = 2 * C.length + 1
  | [], _ => rfl
  | e :: C, s => by show (pcsC e.b C).length + 1 + 1 = 2 * (C.length + 1) + 1; rw [pcsC_len C e.b]; omega
theorem pcsC_tot : ∀ (C : List Ed) (s : Nat), ptot (pcsC s C) = tot C
  | [], _ => rfl
  | e :: C, s => by show e.ws.length + ptot (pcsC e.b C) = e.ws.length + tot C; rw [pcsC_tot C e.b]
theorem pcsC_mk : ∀ {C : List Ed} {s : Nat}, (∀ e ∈ C, e.Ok) → pmk (pcsC s C)
  | [], s, _ => fun w hw => by cases List.mem_singleton.mp hw
  | e :: C, s, h => fun w hw => by
    rcases List.mem_cons.mp hw with z | z
    · cases z
    · rcases List.mem_cons.mp z with z | z
      · cases z; exact (h e List.mem_cons_self).mrk
      · exact pcsC_mk (fun x hx => h x (List.mem_cons_of_mem _ hx)) w z
theorem PInv.ofC {C : List Ed} {m : Nat} (h : PtOk C m) : PInv m (pcsC 0 C) (fun l => apC C 0 l) (2 * C.length + 1) (P5.tot C) := by
  obtain ⟨i1, i2⟩ := pcsC_ok h.apt h.fin
  exact ⟨i1, fun l hl => by rw [i2 l hl, List.drop_zero], Nat.le_of_eq (pcsC_len C 0), Nat.le_of_eq (pcsC_tot C 0), pcsC_mk h.ok⟩
/-- changes, done as edits from the last one on -/
theorem app_pre {e : Ed} {x y : List Str} (h : e.b ≤ x.length) (he : e.a ≤ e.b) : app e (x ++ y) = app e x ++ y := by
  unfold app
  rw [List.take_append_of_le_length (by omega), List.drop_append_of_le_length h, List.append_assoc, List.append_assoc]
  simp
def sh (s : Nat) (e : Ed) : Ed := ⟨e.a - s, e.b - s, e.ws⟩
theorem done_app2 (es fs : List Ed) (l : List Str) : done (es ++ fs) l = done fs (done es l) := by
  unfold done
  rw [List.foldl_append]
theorem rev_ok : ∀ {C : List Ed} {t : Bool} {s : Nat}, Apt t s C → ∀ (p l : List Str), p.length = s → endC s C ≤ s + l.length → done C.reverse (p ++ l) = p ++ apC C s l
  | [], _, s, _, p, l, _, _ => rfl
  | e :: C, _, s, .cons h1 _ h3 _ h5, p, l, hp, hE => by
    have hz := h5.le_end
    rw [endC_cons] at hE
    have e1 : p ++ l = (p ++ l.take (e.b - s)) ++ l.drop (e.b - s) := by rw [List.append_assoc, List.take_append_drop]
    have ih := rev_ok h5 (p ++ l.take (e.b - s)) (l.drop (e.b - s)) (by rw [List.length_append, List.length_take]; omega) (by rw [List.length_drop]; omega)
    rw [List.reverse_cons, done_app2, e1, ih]
    show app e ((p ++ l.take (e.b - s)) ++ apC C e.b (l.drop (e.b - s))) = p ++ (l.take (e.a - s) ++ (e.ws ++ apC C e.b (l.drop (e.b - s))))
    rw [app_pre (by rw [List.length_append, List.length_take]; omega) h3]
    unfold app
    rw [List.drop_of_length_le (by rw [List.length_append, List.length_take]; omega), List.append_nil, List.take_append, List.take_of_length_le (l := p) (by omega), List.take_take, hp, Nat.min_eq_left (by omega)]
    simp only [List.append_assoc]
/-- so many words stand while changes are done from the last one on -/
theorem rev_fits : ∀ {C : List Ed} {t : Bool} {s : Nat}, Apt t s C → ∀ {n : Nat}, endC s C ≤ n → Fits C.reverse n
  | [], _, _, _, _, _ => trivial
  | e :: C, _, s, .cons h1 _ h3 _ h5, n, hE => by
    have hz := h5.le_end
    rw [endC_cons] at hE
    rw [List.reverse_cons]
    refine (rev_fits h5 hE).snoc ?_
    have low : ∀ {C : List Ed} {t : Bool} {s : Nat}, Apt t s C → ∀ {n : Nat}, endC s C ≤ n → s ≤ siz C.reverse n := fun {C} => by
      induction C with
      | nil => intro t s _ n hE; exact hE
      | cons d C ih =>
        intro t s hA n hE
        cases hA with
        | cons g1 g2 g3 g4 g5 =>
          rw [endC_cons] at hE
          have := ih g5 hE
          rw [List.reverse_cons, siz_snoc]
          omega
    exact low h5 hE
theorem Fits.app_iff2 : ∀ {es fs : List Ed} {n : Nat}, Fits (es ++ fs) n ↔ Fits es n ∧ Fits fs (siz es n)
  | [], fs, n => ⟨fun h => ⟨trivial, h⟩, fun h => h.2⟩
  | e :: es, fs, n => ⟨fun h => ⟨⟨h.1, (Fits.app_iff2.mp h.2).1⟩, (Fits.app_iff2.mp h.2).2⟩, fun h => ⟨h.1.1, Fits.app_iff2.mpr ⟨h.1.2, h.2⟩⟩⟩
/-- while edits are done: least and growth -/
structure Run (es : List Ed) (L : Nat) (g : Int) : Prop where
  fit : ∀ n : Nat, Fits es n ↔ L ≤ n
  siz : ∀ n : Nat, Fits es n → (siz es n : Int) = n + g
theorem Run.nil : Run [] 0 0 := ⟨fun n => ⟨fun _ => Nat.zero_le _, fun _ => trivial⟩, fun n _ => by show (n : Int) = n + 0; omega⟩
theorem Run.snoc {es : List Ed} {L : Nat} {g : Int} {e : Ed} (h : Run es L g) (he : e.a ≤ e.b) {L' : Nat} (hL : (L' : Int) = max (L : Int) (e.b - g)) : Run (es ++ [e]) L' (g + grow e) := by
  refine ⟨fun n => ?_, fun n hf => ?_⟩
  · rw [Fits.app_iff2]
    constructor
    · rintro ⟨h1, h2, _⟩
      have := (h.fit n).mp h1
      have := h.siz n h1
      omega
    · intro hn
      have h1 := (h.fit n).mpr (by omega)
      have := h.siz n h1
      exact ⟨h1, by omega, trivial⟩
  · obtain ⟨h1, h2, _⟩ := Fits.app_iff2.mp hf
    have := h.siz n h1
    have eg : grow e = (e.ws.length : Int) - ((e.b : Int) - (e.a : Int)) := rfl
    rw [siz_snoc]
    omega
theorem Run.lst {es : List Ed} {L : Nat} {g : Int} (h : Run es L g) : Lst es L := ⟨(h.fit L).mpr (Nat.le_refl _), fun n hn => (h.fit n).mp hn⟩
theorem siz_done : ∀ {es : List Ed} {l : List Str}, (∀ e ∈ es, e.a ≤ e.b) → Fits es l.length → (done es l).length = siz es l.length
  | [], l, _, _ => rfl
  | e :: es, l, h, hf => by
    have h1 := h e List.mem_cons_self
    have hs : (app e l).length = l.length + e.ws.length - (e.b - e.a) := by have := app_len hf.1 h1; omega
    have ih := siz_done (es := es) (l := app e l) (fun x hx => h x (List.mem_cons_of_mem _ hx)) (by rw [hs]; exact hf.2)
    show (done es (app e l)).length = siz es (l.length + e.ws.length - (e.b - e.a))
    rw [ih, hs]
end P5

end
section
set_option Elab.async false
set_option linter.all false
set_option maxRecDepth 100000
set_option maxHeartbeats 4000000
/-! loops over tuples and lists while an exception is handled -/
namespace HL
open PySem PySem.Spec PyProof.Rows L2 HotX L2H
section
variable {prog : Program} {w : World} {A : Around} {E : Value → Shared → Prop} {s : Shared}
/-- the handled exception is none of two members -/
theorem hot_ne {x1 j : Addr} {o : Obj} {fs : Array Value} (hot : HotAt A x1 s.heap) (ho : s.heap.get? j = some o) (hd : o.data = .fields fs) (hz : fs.size ≤ 2) : x1 ≠ j := fun e => by
  obtain ⟨_, o1, v1, g1, e1, k1⟩ := hot
  rw [e, ho] at g1; cases g1
  rw [hd] at e1; cases e1
  rw [Array.getElem?_eq_none (by omega)] at k1; cases k1
theorem tup_end {j t x1 : Addr} {i : Nat} {ys : Array Value} {Q : Option Value → Shared → Prop} (hot : HotAt A x1 s.heap) (hj : s.heap.IsTupleIter j t i) (ht : s.heap.IsTuple t ys) (hx : ys[i]? = none)
    (q : ∀ h2, Heap.ExtBut j s.heap h2 → Q none { s with heap := h2 }) : wpAny (model prog w) A (pyNext (.ref j)) Q E s := by
  obtain ⟨ob, hb, hc, hd⟩ := id hj
  obtain ⟨ot, hot2, _, nt, hdt⟩ := ht
  have hne := hot_ne hot hb hd (by simp)
  obtain ⟨hh, o1, v1, g1, e1, k1⟩ := hot
  unfold pyNext
  refine wpAny_bind (wpAny_attempt (wpAny_callSpecial?_slot (name := Str.ofString "__next__") hj.typeIs F.slot_tuple_iterator_next (wpAny_call_entry F.slot_tuple_iterator_next hj.typeIs F.entry_tuple_iterator_next ?_ (F.args_tuple_iterator_next_1 _))))
  show wpAny _ _ (field (.ref j) 0 >>= _) _ _ s
  refine wpAny_bind (wpAny_field hb hd (x := .ref t) rfl ?_)
  show wpAny _ _ (if (Value.ref t == Value.none) = true then _ else _) _ _ s
  rw [if_neg (show ¬ (Value.ref t == Value.none) = true by exact Bool.false_ne_true)]
  show wpAny _ _ (field (.ref j) 1 >>= _) _ _ s
  refine wpAny_bind (wpAny_field hb hd (x := .int i 0) rfl ?_)
  show wpAny _ _ (seqItems? (.ref t) >>= _) _ _ s
  refine wpAny_bind (wpAny_seqItems hot2 hdt ?_); simp only [Int.toNat_natCast, hx]
  refine wpAny_bind (wpAny_rule (wpAny_bind (wpAny_setField hb hd (by simp) ?_))); show wpAny _ _ (newExc (.type "StopIteration") [] >>= _) _ _ _
  have g2 : (s.heap.update j (Obj.mapFields (·.setIfInBounds 0 .none))).get? x1 = some o1 := by rw [Heap.get?_update_other _ _ hne.symm]; exact g1
  have eb : Heap.ExtBut j s.heap (s.heap.update j (Obj.mapFields (·.setIfInBounds 0 .none))) := (Heap.SameBut.update ..).extBut
  generalize s.heap.update j (Obj.mapFields (·.setIfInBounds 0 .none)) = h9 at *
  refine wpAny_bind ?_; simp only [newExc, newTuple]
  refine wpAny_bind (wpAny_newObj_type ?_ (by size_fits)); refine wpAny_bind (m := firstArgMember _ _) (wpAny_of_eq (a := Value.none) (by first | rfl | (simp only [firstArgMember]; rfl)) ?_)
  refine wpAny_newObj_type ?_ (by size_fits)
  refine raiseNew_hot ⟨hh, o1, v1, Heap.get?_push_of_some _ (Heap.get?_push_of_some _ g2), e1, k1⟩ (Nat.ne_of_lt (Heap.lt_size (Heap.get?_push_of_some _ g2))) (Heap.get?_push_size _ rfl) rfl (by first | (simp; done) | (simp; omega) | (simp only [Array.size_append]; simp; omega)) ?_
  refine wpAny_bind (wpAny_isInstance (T := "StopIteration") (b := true) ⟨_, Heap.get?_update_self _ (Heap.get?_push_size _ rfl) rfl, rfl⟩ isSubtype_stop (wpAny_pure (q _ fun b o nb e => ?_)))
  have e3 := eb b o nb e
  rw [Heap.get?_update_other _ _ (Nat.ne_of_gt (Heap.lt_size (Heap.get?_push_of_some _ e3)))]; exact Heap.get?_push_of_some _ (Heap.get?_push_of_some _ e3)
theorem list_end {j t x1 : Addr} {i : Nat} {ys : Array Value} {Q : Option Value → Shared → Prop} (hot : HotAt A x1 s.heap) (hj : s.heap.IsListIter j t i) (ht : s.heap.IsList t ys) (hx : ys[i]? = none)
    (q : ∀ h2, Heap.ExtBut j s.heap h2 → Q none { s with heap := h2 }) : wpAny (model prog w) A (pyNext (.ref j)) Q E s := by
  obtain ⟨ob, hb, hc, hd⟩ := id hj
  obtain ⟨ot, hot2, _, nt, hdt⟩ := ht
  have hne := hot_ne hot hb hd (by simp)
  obtain ⟨hh, o1, v1, g1, e1, k1⟩ := hot
  unfold pyNext
  refine wpAny_bind (wpAny_attempt (wpAny_callSpecial?_slot (name := Str.ofString "__next__") hj.typeIs slot_listiter_next (wpAny_call_entry slot_listiter_next hj.typeIs entry_listiter_next ?_ (args_listiter_next _))))
  show wpAny _ _ (field (.ref j) 0 >>= _) _ _ s
  refine wpAny_bind (wpAny_field hb hd (x := .ref t) rfl ?_)
  show wpAny _ _ (if (Value.ref t == Value.none) = true then _ else _) _ _ s
  rw [if_neg (show ¬ (Value.ref t == Value.none) = true by exact Bool.false_ne_true)]
  show wpAny _ _ (field (.ref j) 1 >>= _) _ _ s
  refine wpAny_bind (wpAny_field hb hd (x := .int i 0) rfl ?_)
  show wpAny _ _ (seqItems? (.ref t) >>= _) _ _ s
  refine wpAny_bind (wpAny_seqItems hot2 hdt ?_); simp only [Int.toNat_natCast, hx]
  refine wpAny_bind (wpAny_rule (wpAny_bind (wpAny_setField hb hd (by simp) ?_))); show wpAny _ _ (newExc (.type "StopIteration") [] >>= _) _ _ _
  have g2 : (s.heap.update j (Obj.mapFields (·.setIfInBounds 0 .none))).get? x1 = some o1 := by rw [Heap.get?_update_other _ _ hne.symm]; exact g1
  have eb : Heap.ExtBut j s.heap (s.heap.update j (Obj.mapFields (·.setIfInBounds 0 .none))) := (Heap.SameBut.update ..).extBut
  generalize s.heap.update j (Obj.mapFields (·.setIfInBounds 0 .none)) = h9 at *
  refine wpAny_bind ?_; simp only [newExc, newTuple]
  refine wpAny_bind (wpAny_newObj_type ?_ (by size_fits)); refine wpAny_bind (m := firstArgMember _ _) (wpAny_of_eq (a := Value.none) (by first | rfl | (simp only [firstArgMember]; rfl)) ?_)
  refine wpAny_newObj_type ?_ (by size_fits)
  refine raiseNew_hot ⟨hh, o1, v1, Heap.get?_push_of_some _ (Heap.get?_push_of_some _ g2), e1, k1⟩ (Nat.ne_of_lt (Heap.lt_size (Heap.get?_push_of_some _ g2))) (Heap.get?_push_size _ rfl) rfl (by first | (simp; done) | (simp; omega) | (simp only [Array.size_append]; simp; omega)) ?_
  refine wpAny_bind (wpAny_isInstance (T := "StopIteration") (b := true) ⟨_, Heap.get?_update_self _ (Heap.get?_push_size _ rfl) rfl, rfl⟩ isSubtype_stop (wpAny_pure (q _ fun b o nb e => ?_)))
  have e3 := eb b o nb e
  rw [Heap.get?_update_other _ _ (Nat.ne_of_gt (Heap.lt_size (Heap.get?_push_of_some _ e3)))]; exact Heap.get?_push_of_some _ (Heap.get?_push_of_some _ e3)
theorem HotAt.keep {x1 : Addr} {h h2 : Heap} (hot : HotAt A x1 h) (k : ∀ o, h.get? x1 = some o → h2.get? x1 = some o) : HotAt A x1 h2 := by
  obtain ⟨hh, o, v, g, e, c⟩ := hot
  exact ⟨hh, o, v, k o g, e, c⟩
/-- a tuple is taken apart -/
theorem items_hot {t x1 : Addr} {ys : Array Value} {Q : List Value → Shared → Prop} (hot : HotAt A x1 s.heap) (ht : IsTup s.heap t ys) (q : ∀ h2, Heap.ExtBut s.heap.objs.size s.heap h2 → Q ys.toList { s with heap := h2 }) :
    wpAny (model prog w) A (unpackItems (.ref t) ys.size none) Q E s := by
  have nt : t ≠ s.heap.objs.size := by obtain ⟨o, e, _⟩ := ht; exact Nat.ne_of_lt (Heap.lt_size e)
  have nx : x1 ≠ s.heap.objs.size := by obtain ⟨_, o, _, e, _⟩ := hot; exact Nat.ne_of_lt (Heap.lt_size e)
  unfold unpackItems notIterableAtAll
  refine wpAny_bind (wpAny_bind (wpAny_specialOf ht.typeIs slot_tuple_iter.lookup (wpAny_pure ?_))); simp only [Bool.false_eq_true, if_false]
  refine wpAny_bind (wpAny_holding (iter_tuple ht (wpAny_bind (wpAny_holding (draw_tuple nt ys.size 0 _ _ ⟨_, Heap.get?_push_size _ rfl, rfl, rfl⟩ (ht.push _) (by omega) fun h3 i3 b3 => ?_)))))
  rw [show List.take ys.size (List.drop 0 ys.toList) = ys.toList from by rw [List.drop_zero]; exact List.take_of_length_le (by simp), if_neg (by simp)]
  have t3 : IsTup h3 t ys := (ht.push _).extBut b3.extBut nt
  have x3 : HotAt A x1 h3 := HotAt.keep hot fun o e => b3.extBut x1 o nx (Heap.get?_push_of_some _ e)
  refine wpAny_bind (wpAny_holding (tup_end (s := { s with heap := h3 }) x3 i3 t3 (by simp) fun h4 e4 => ?_)); simp only [Option.isSome_none, Bool.false_eq_true, if_false]
  exact wpAny_pure (q h4 fun b o nb e => e4 b o nb (b3.extBut b o nb (Heap.get?_push_of_some _ e)))
end
section
variable {P : Program} {w : World} {K : PySem.W.Frag} {tg : Expr}
theorem one_of {b i : Addr} {Z : Prop} (h : b ∈ [i]) (f : b = i → Z) : Z := f (by simpa using h)
theorem turn_tupH (a i0 : Addr) : TurnH P w K tg (Itt K a) [i0] i0 (fun i h => h.IsTupleIter i0 a i) :=
  { mem := List.mem_cons_self
    obj := fun i h st b hb => one_of hb fun e => by
      subst e
      obtain ⟨o, g, c, d⟩ := st
      exact ⟨o, g, fun v z => by rw [d] at z; cases z⟩
    keep := fun i h h2 st k => st.at fun o e => k i0 List.mem_cons_self o e
    item := fun X hP hw hK hc i pins s σ H E I hf st hg => by
      subst hP hw hK
      obtain ⟨xs, x, hq, hx⟩ := hg
      obtain ⟨its, rv, p, hz⟩ := I.tuple hq
      obtain ⟨u, hu, ru⟩ := rv.get hx
      obtain ⟨f0, f1, f2, f3, f4, f5⟩ := hf i0 List.mem_cons_self
      refine wpAny_pyNext_tuple_item st (show s.heap.IsTuple a its.toArray from p) (x := u) (by simpa using hu) fun h2 st2 sb => ?_
      have I1 : Inv X pins σ H { s with heap := h2 } := I.turned (t' := s.toks) (fun b o nb e => (sb.2 b nb).trans e) f0 f1 f3 f4 f5
      obtain ⟨o, g, c, d⟩ := id st2
      exact ⟨u, rfl, go_of (s := { s with heap := h2 }) g c d (by decide) ⟨x, H, I1, ru, ⟨rfl, fun ys hy => by rw [I.tuple_inj hy hq]; exact hx⟩, st2, fun b hb => (hf b hb).1⟩⟩
    done := fun X hP hw hK hc i pins s σ H E I hf st hg => by
      subst hP hw hK
      obtain ⟨xs, hq, hx⟩ := hg
      obtain ⟨its, rv, p, hz⟩ := I.tuple hq
      obtain ⟨f0, f1, f2, f3, f4, f5⟩ := hf i0 List.mem_cons_self
      have hl := rv.length
      obtain ⟨x1, hot⟩ := hc.at I
      exact tup_end hot st (show s.heap.IsTuple a its.toArray from p) (by simp; omega) fun h2 eb => ⟨rfl, I.turned (t' := s.toks) (fun b o nb e => eb b o nb e) f0 f1 f3 f4 f5⟩
    self := fun _ _ _ _ _ st h => wpAny_pyIter_tupleiter st h }
theorem turn_listH (a i0 : Addr) : TurnH P w K tg (Itl K a) [i0] i0 (fun i h => h.IsListIter i0 a i) :=
  { mem := List.mem_cons_self
    obj := fun i h st b hb => one_of hb fun e => by
      subst e
      obtain ⟨o, g, c, d⟩ := st
      exact ⟨o, g, fun v z => by rw [d] at z; cases z⟩
    keep := fun i h h2 st k => st.at fun o e => k i0 List.mem_cons_self o e
    item := fun X hP hw hK hc i pins s σ H E I hf st hg => by
      subst hP hw hK
      obtain ⟨xs, x, hq, hx⟩ := hg
      obtain ⟨its, rv, p, hz⟩ := I.list hq
      obtain ⟨u, hu, ru⟩ := rv.get hx
      obtain ⟨f0, f1, f2, f3, f4, f5⟩ := hf i0 List.mem_cons_self
      refine wpAny_pyNext_list_item st p.isList (x := u) (by simpa using hu) fun h2 st2 sb => ?_
      have I1 : Inv X pins σ H { s with heap := h2 } := I.turned (t' := s.toks) (fun b o nb e => (sb.2 b nb).trans e) f0 f1 f3 f4 f5
      obtain ⟨o, g, c, d⟩ := id st2
      exact ⟨u, rfl, go_of (s := { s with heap := h2 }) g c d (by decide) ⟨x, H, I1, ru, ⟨rfl, fun ys hy => by rw [I.list_inj hy hq]; exact hx⟩, st2, fun b hb => (hf b hb).1⟩⟩
    done := fun X hP hw hK hc i pins s σ H E I hf st hg => by
      subst hP hw hK
      obtain ⟨xs, hq, hx⟩ := hg
      obtain ⟨its, rv, p, hz⟩ := I.list hq
      obtain ⟨f0, f1, f2, f3, f4, f5⟩ := hf i0 List.mem_cons_self
      have hl := rv.length
      obtain ⟨x1, hot⟩ := hc.at I
      exact list_end hot st p.isList (by simp; omega) fun h2 eb => ⟨rfl, I.turned (t' := s.toks) (fun b o nb e => eb b o nb e) f0 f1 f3 f4 f5⟩
    self := fun _ _ _ _ _ st h => wpAny_pyIter_listiter st h }
end
section
variable {X : Cx} {tg : Expr}
theorem pi_tupH {l : Expr} {tl : TE} (hl : PE X l tl) : PIH X tg l (iTup X.K tl) :=
  ⟨fun pins s σ H R I h => thn (hl.run pins s σ H _ I h) fun v s1 z => by
    obtain ⟨x, H1, I1, r1, a, e, ⟨xs, hq⟩, q⟩ := z
    subst e
    cases r1
    obtain ⟨its, rv, p, hz⟩ := I1.tuple hq
    refine wpAny_pyIter_tuple (show s1.heap.IsTuple a its.toArray from p) ⟨s1.heap.objs.size, [s1.heap.objs.size], _, _, H1, rfl, I1.kept (t' := s1.toks) fun b o e => Heap.get?_push_of_some _ e, turn_tupH a _, ⟨_, Heap.get?_push_size _ rfl, rfl, rfl⟩, fun b hb => one_of hb fun e => ?_, q⟩
    subst e
    exact I1.fpOk (Nat.le_refl _) (I1.hok.fresh (Nat.le_refl _))⟩
theorem pi_listH {l : Expr} {tl : TE} (hl : PE X l tl) : PIH X tg l (iList X.K tl) :=
  ⟨fun pins s σ H R I h => thn (hl.run pins s σ H _ I h) fun v s1 z => by
    obtain ⟨x, H1, I1, r1, a, e, ⟨xs, hq⟩, q⟩ := z
    subst e
    cases r1
    obtain ⟨its, rv, p, hz⟩ := I1.list hq
    refine wpAny_pyIter_list p.isList ⟨s1.heap.objs.size, [s1.heap.objs.size], _, _, H1, rfl, I1.kept (t' := s1.toks) fun b o e => Heap.get?_push_of_some _ e, turn_listH a _, ⟨_, Heap.get?_push_size _ rfl, rfl, rfl⟩, fun b hb => one_of hb fun e => ?_, q⟩
    subst e
    exact I1.fpOk (Nat.le_refl _) (I1.hok.fresh (Nat.le_refl _))⟩
/-- a, b, .. = a tuple -/
theorem pg_tupH {es : List Expr} {k : Nat} {t : TGs} {n : Nat} {pos : Pos} (hc : HotC X) (h : PGs X es t) (hn : (assignEach es X.env).length = n := by rfl) (hst : (assignEach es X.env).findIdx? (·.1) = none := by rfl) : PG X (.Tuple es k pos) (gTup X.K n t) :=
  ⟨fun pins s σ H v u Q I r hw => by
    obtain ⟨a, xs, e1, hq, hl, hw⟩ := hw
    subst e1
    cases r
    obtain ⟨its, rv, ht, hz⟩ := I.tuple hq
    obtain ⟨x1, hot⟩ := hc.at I
    rw [assign_Tuple]
    refine wpAny_bind (wpAny_standAt ?_)
    unfold unpack
    rw [show (assignEach es X.env).length = its.toArray.size from by simp [hn, ← hl, rv.length], hst]
    refine wpAny_bind (wpAny_holding (items_hot hot ht fun h2 hx => ?_))
    have I1 : Inv X pins σ H { s with heap := h2 } := I.kept (t' := s.toks) fun b o e => hx b o (Nat.ne_of_lt (Heap.lt_size e)) e
    exact h.run pins _ σ H xs _ Q I1 (by simpa using rv) hw⟩
end
end HL

end
section
set_option Elab.async false
set_option linter.all false
set_option maxRecDepth 100000
set_option maxHeartbeats 4000000
namespace P5
open PySem PySem.Spec PySem.SeqAt PyProof.Rows L2
/-! ### lists of values that stand for something, one by one -/
def RelL {α : Type} (R : V → α → Prop) : List V → List α → Prop
  | [], [] => True
  | v :: vs, x :: xs => R v x ∧ RelL R vs xs
  | _, _ => False
namespace RelL
variable {α : Type} {R R' : V → α → Prop}
theorem imp (f : ∀ v x, R v x → R' v x) : ∀ {vs : List V} {xs : List α}, RelL R vs xs → RelL R' vs xs
  | [], [], _ => trivial
  | _ :: _, _ :: _, h => ⟨f _ _ h.1, imp f h.2⟩
  | [], _ :: _, h => h.elim
  | _ :: _, [], h => h.elim
theorem len : ∀ {vs : List V} {xs : List α}, RelL R vs xs → vs.length = xs.length
  | [], [], _ => rfl
  | _ :: _, _ :: _, h => congrArg (· + 1) (len h.2)
  | [], _ :: _, h => h.elim
  | _ :: _, [], h => h.elim
theorem get : ∀ {vs : List V} {xs : List α} {i : Nat} {v : V}, RelL R vs xs → vs[i]? = some v → ∃ x, xs[i]? = some x ∧ R v x
  | v :: vs, x :: xs, 0, _, h, q => by
    cases q
    exact ⟨x, rfl, h.1⟩
  | v :: vs, x :: xs, i + 1, v', h, q => by
    obtain ⟨e', h1, h2⟩ := get (i := i) h.2 (by simpa using q)
    exact ⟨e', by simpa using h1, h2⟩
  | [], [], i, _, _, q => by simp at q
  | [], _ :: _, _, _, h, _ => h.elim
  | _ :: _, [], _, _, h, _ => h.elim
theorem take : ∀ {vs : List V} {xs : List α} (n : Nat), RelL R vs xs → RelL R (vs.take n) (xs.take n)
  | _, _, 0, _ => by rw [List.take_zero, List.take_zero]; trivial
  | [], [], n + 1, _ => trivial
  | _ :: _, _ :: _, n + 1, h => ⟨h.1, take n h.2⟩
  | [], _ :: _, _ + 1, h => h.elim
  | _ :: _, [], _ + 1, h => h.elim
theorem drop : ∀ {vs : List V} {xs : List α} (n : Nat), RelL R vs xs → RelL R (vs.drop n) (xs.drop n)
  | _, _, 0, h => by rw [List.drop_zero, List.drop_zero]; exact h
  | [], [], n + 1, _ => trivial
  | _ :: _, _ :: _, n + 1, h => drop n h.2
  | [], _ :: _, _ + 1, h => h.elim
  | _ :: _, [], _ + 1, h => h.elim
theorem app : ∀ {vs ws : List V} {xs ys : List α}, RelL R vs xs → RelL R ws ys → RelL R (vs ++ ws) (xs ++ ys)
  | [], _, [], _, _, h => h
  | _ :: _, _, _ :: _, _, h, q => ⟨h.1, app h.2 q⟩
  | [], _, _ :: _, _, h, _ => h.elim
  | _ :: _, _, [], _, h, _ => h.elim
theorem one {v : V} {x : α} (h : R v x) : RelL R [v] [x] := ⟨h, trivial⟩
theorem rev : ∀ {vs : List V} {xs : List α}, RelL R vs xs → RelL R vs.reverse xs.reverse
  | [], [], _ => trivial
  | _ :: _, _ :: _, h => by
    rw [List.reverse_cons, List.reverse_cons]
    exact app (rev h.2) (one h.1)
  | [], _ :: _, h => h.elim
  | _ :: _, [], h => h.elim
end RelL
/-! ### pieces in the heap -/
def bV : Option Nat → V
  | none => .non
  | some b => .int b
def PcV (K : PySem.W.Frag) (H : Hp) (v : V) : Pc → Prop
  | .kp a b => ∃ x t, v = .ref x ∧ SqT K H x [.int a, bV b, .ref t] ∧ SqT K H t [] ∧ ∀ b', b = some b' → a ≤ b'
  | .pt ws => ∃ x t, v = .ref x ∧ SqT K H x [.non, .non, .ref t] ∧ SqT K H t (ws.map V.str)
def PcsV (K : PySem.W.Frag) (H : Hp) : List V → List Pc → Prop := RelL (PcV K H)
theorem PcV.same {K : PySem.W.Frag} {H H' : Hp} (s : Same H H') {v : V} {p : Pc} (h : PcV K H v p) : PcV K H' v p := by
  cases p with
  | kp a b => obtain ⟨x, t, h1, h2, h3, h4⟩ := h; exact ⟨x, t, h1, Same.tup s h2, Same.tup s h3, h4⟩
  | pt ws => obtain ⟨x, t, h1, h2, h3⟩ := h; exact ⟨x, t, h1, Same.tup s h2, Same.tup s h3⟩
theorem PcsV.same {K : PySem.W.Frag} {H H' : Hp} (s : Same H H') {vs : List V} {ps : List Pc} (h : PcsV K H vs ps) : PcsV K H' vs ps := RelL.imp (fun _ _ q => q.same s) h
/-- a piece's places and words as values -/
def pV0 : Pc → V
  | .kp a _ => .int a
  | .pt _ => .non
def pV1 : Pc → V
  | .kp _ b => bV b
  | .pt _ => .non
def pWs : Pc → List Str
  | .kp _ _ => []
  | .pt ws => ws
theorem PcV.open {K : PySem.W.Frag} {H : Hp} {v : V} {p : Pc} (h : PcV K H v p) : ∃ x t, v = .ref x ∧ SqT K H x [pV0 p, pV1 p, .ref t] ∧ SqT K H t ((pWs p).map V.str) := by
  cases p with
  | kp a b => obtain ⟨x, t, h1, h2, h3, h4⟩ := h; exact ⟨x, t, h1, h2, h3⟩
  | pt ws => obtain ⟨x, t, h1, h2, h3⟩ := h; exact ⟨x, t, h1, h2, h3⟩
section
variable {P : Program} {w : World} {K : PySem.W.Frag} {mg : Str → Option Value} {base : Heap} {aN aS CE : Addr}
abbrev sCut : Stmt := tp 22
abbrev NCut : List Str := ["pieces", "place", "front", "left", "number", "piece", "first", "last", "words"]
theorem scCut : FnScope NCut ["pieces", "place"] (defScope sCut) := ⟨rfl, rfl, rfl, by decide +kernel, rfl, by decide +kernel, by decide +kernel⟩
def spCut (K : PySem.W.Frag) : Sp := fun vs H Q _ => ∃ (l : Addr) (pv : List V) (ps : List Pc) (n : Nat), vs = [.ref l, .int n] ∧ SqL K H l pv ∧ PcsV K H pv ps ∧ ps.length ≤ 500 ∧
  ∀ H' r f b fv bv, Same H H' → H' r = some (.tup [.ref f, .ref b]) → H' f = some (.lst fv) → H' b = some (.lst bv) → PcsV K H' fv (cutP ps n).1 → PcsV K H' bv (cutP ps n).2 → Q (.ref r) H'
/-- what the law's module has -/
structure BN (mg : Str → Option Value) : Prop where
  len : mg "len" = none
  enum : mg "enumerate" = none
  tup : mg "tuple" = none
  max : mg "max" = none
  lst : mg "list" = none
  isi : mg "isinstance" = none
  all : mg "all" = none
  sum : mg "sum" = none
theorem same_put {H H' : Hp} {p : Addr} {o : HO} (hn : H p = none) (s : Same H H') : Same H (upd H' p o) := fun b u q => by
  rw [upd_ne (ne_of_none q hn)]
  exact s b u q
theorem PcV.put {H : Hp} {p : Addr} {ys zs : List V} (hp : H p = some (.lst ys)) {v : V} {c : Pc} (h : PcV K H v c) : PcV K (upd H p (.lst zs)) v c := by
  cases c with
  | kp a b => obtain ⟨x, t, h1, h2, h3, h4⟩ := h; exact ⟨x, t, h1, SqT.put hp h2, SqT.put hp h3, h4⟩
  | pt ws => obtain ⟨x, t, h1, h2, h3⟩ := h; exact ⟨x, t, h1, SqT.put hp h2, SqT.put hp h3⟩
theorem noPart {σ : L2.St} {H : Hp} {Q : Option Int → Hp → Prop} (h : Q none H) : tNoPart σ H Q := h
theorem slA_of {H : Hp} {a : Addr} {xs : List V} {lo hi : Option Int} {Q : VK} (hS : SqT K H a xs) (q : ∀ H' p, Same H H' → SqT K H' p (cutV xs lo hi) → Q (.ref p) H') : rSlA K (.ref a) lo hi H Q := by
  refine ⟨a, xs, rfl, hS, fun ⟨w1, w2⟩ => q H a (Same.refl _) ?_, fun _ p hp => q _ p (Same.new hp _) (SqT.of upd_same)⟩
  have e : cutV xs lo hi = xs := by
    unfold cutV
    rw [w1, w2, List.drop_zero, Nat.sub_zero, List.take_length]
  rw [e]
  exact hS
theorem catA_of {H : Hp} {a b : Addr} {xs ys : List V} {Q : VK} (hS : SqT K H a xs) (hT : SqT K H b ys) (hl : xs.length + ys.length ≤ sizeLine) (q : ∀ H' p, Same H H' → SqT K H' p (xs ++ ys) → Q (.ref p) H') : rCatA K (.ref a) (.ref b) H Q := by
  refine ⟨a, b, xs, ys, rfl, rfl, hS, hT, hl, fun e => q H b (Same.refl _) (by rw [e]; exact hT), fun _ e => q H a (Same.refl _) (by rw [e, List.append_nil]; exact hS), fun _ _ p hp => q _ p (Same.new hp _) (SqT.of upd_same)⟩
theorem kat_drop {α : Type} {l : List α} {i : Nat} {x : α} (h : l[i]? = some x) : i < l.length ∧ l.drop i = x :: l.drop (i + 1) := by
  have hi : i < l.length := by
    by_cases z : i < l.length
    · exact z
    · rw [List.getElem?_eq_none (by omega)] at h
      cases h
  refine ⟨hi, ?_⟩
  rw [List.getElem?_eq_getElem hi] at h
  rw [List.drop_eq_getElem_cons hi, Option.some.inj h]
theorem ok_cut {f : Addr} {fd : FuncData} (F : Fun K "cut" "cut" sCut f fd) (B : BN mg) : FnOk P w K mg base CX0 1 f fd ["pieces", "place"] (spCut K) := by
  refine F.ok scCut (fun vs H Q E h => ?_) (fun cdv A outer s H vs Q E hr h => ?_)
  · obtain ⟨_, _, _, _, rfl, _⟩ := h
    rfl
  obtain ⟨l, pv0, ps, n, rfl, hS, hP, hl, q⟩ := h
  refine ⟨_, pss_cons (ps_set (i := 2) scCut.nd rfl (Or.inl rfl) (pe_lst pa_nil)) (pss_cons (ps_set (i := 3) scCut.nd rfl (Or.inl rfl) (pv 1))
    (pss_cons (ps_for PassesOwn.never rfl (pi_enum rfl B.enum (pa_cons (pv 0) pa_nil)) (pg_tup rfl (pgs_cons (pg_name (i := 4) scCut.nd rfl (Or.inl rfl)) (pgs_cons (pg_name (i := 5) scCut.nd rfl (Or.inl rfl)) pgs_nil)))
      (pss_cons (ps_asg (pv 5) (pg_tup rfl (pgs_cons (pg_name (i := 6) scCut.nd rfl (Or.inl rfl)) (pgs_cons (pg_name (i := 7) scCut.nd rfl (Or.inl rfl)) (pgs_cons (pg_name (i := 8) scCut.nd rfl (Or.inl rfl)) pgs_nil)))))
      (pss_cons (ps_if (PW.pt (pw_and (pt_cmp (pc_isN (pv 6))) (pw_and1 (pt_cmpR op_gt (pe_callB call_len_seq rfl B.len PySem.boot_len (pa_cons (pv 8) pa_nil)) (pv 3) (nomark _)))))
        (pss_one (ps_ret (pe_tup (pa_cons (pe_op op_cat (pv 2) (pe_lst (pa_cons (pe_tup (pa_cons pe_non (pa_cons pe_non (pa_cons (pe_slice (r := rSlA K) sl_tupA (pv 8) po_none (po_some (pv 3))) pa_nil)))) pa_nil)))
          (pa_cons (pe_op op_cat (pe_lst (pa_cons (pe_tup (pa_cons pe_non (pa_cons pe_non (pa_cons (pe_slice (r := rSlA K) sl_tupA (pv 8) (po_some (pv 3)) po_none) pa_nil)))) pa_nil)) (pe_slice (r := rSlL K) sl_list (pv 0) (po_some (pe_op op_add (pv 4) pe_int)) po_none)) pa_nil))))) pss_nil)
      (pss_cons (ps_if (PW.pt (pw_and (pt_cmp (pc_notN (pv 6))) (pw_and1 (PW.pt (pw_or (pt_cmp (pc_isN (pv 7))) (pw_or1 (pt_cmpR op_gt (pe_op op_sub (pv 7) (pv 6)) (pv 3) (nomark _))))))))
        (pss_one (ps_ret (pe_tup (pa_cons (pe_op op_cat (pv 2) (pe_lst (pa_cons (pe_tup (pa_cons (pv 6) (pa_cons (pe_op op_add (pv 6) (pv 3)) (pa_cons (pe_tup pa_nil) pa_nil)))) pa_nil)))
          (pa_cons (pe_op op_cat (pe_lst (pa_cons (pe_tup (pa_cons (pe_op op_add (pv 6) (pv 3)) (pa_cons (pv 7) (pa_cons (pe_tup pa_nil) pa_nil)))) pa_nil)) (pe_slice (r := rSlL K) sl_list (pv 0) (po_some (pe_op op_add (pv 4) pe_int)) po_none)) pa_nil))))) pss_nil)
      (pss_cons (ps_expr (pe_bm PySem.F.plainAttrs_list PySem.F.slot_list_append PySem.F.type_list_append mt_append (pv 2) (pa_cons (pv 5) pa_nil)))
      (pss_one (ps_aug (i := 3) scCut.nd rfl (Or.inl rfl) (pe_ifExp (pt_cmp (pc_isN (pv 6))) (pe_callB call_len_seq rfl B.len PySem.boot_len (pa_cons (pv 8) pa_nil)) (pe_op op_sub (pv 7) (pv 6))) ip_sub)))))))
    (pss_one (ps_ret (pe_tup (pa_cons (pv 2) (pa_cons (pe_lst pa_nil) pa_nil))))))), ?_⟩
  refine ⟨by show 0 ≤ sizeLine; decide, fun F0 hF0 => ?_⟩
  have s0 := Same.new hF0 (.lst [])
  refine ⟨_, rfl, ?_⟩
  refine ⟨_, rfl, l, _, rfl, s0.seq hS, ?_⟩
  have hlen := hP.len
  refine for_it (walk_enum (K := K) (a := l) (xs := pv0)) (fun i σ H' => Same H H' ∧ ∃ (k : Nat) (v4 v5 v6 v7 v8 : Option V), H' F0 = some (.lst (pv0.take i)) ∧ cutP ps n = (ps.take i ++ (cutP (ps.drop i) k).1, (cutP (ps.drop i) k).2) ∧ σ = [some (.ref l), some (.int n), some (.ref F0), some (.int k), v4, v5, v6, v7, v8])
    ⟨s0, n, none, none, none, none, none, upd_same, rfl, rfl⟩ (fun i σ H' _ ⟨s, _⟩ => s.seq hS) ?_ ?_
  · rintro i x σ H1 H2 hi ⟨s1, k, v4, v5, v6, v7, v8, hF, hC, rfl⟩ ⟨T, x1, x2, rfl, hT, rfl, h1, h2⟩
    cases h1
    replace h2 : pv0[i]? = some x2 := h2
    obtain ⟨p, hp, hPc⟩ := hP.get h2
    obtain ⟨hil, hdr⟩ := kat_drop hp
    have hC0 := hC
    rw [hdr] at hC
    have s2 := Same.new hT (.tup [V.int (i : Nat), x2])
    have c2 : upd H1 T (.tup [V.int (i : Nat), x2]) T = some (.tup [V.int (i : Nat), x2]) := upd_same
    have hF2 := s2 _ _ hF
    generalize upd H1 T (.tup [V.int (i : Nat), x2]) = H2 at *
    have s12 := s1.trans s2
    have hS2 := s12.seq hS
    have hP2 := hP.same s12
    have hn0 : ∀ {o : HO} {H' : Hp}, Same H H' → Same H (upd H' F0 o) := fun s => same_put hF0 s
    have sz : ∀ {n : Nat}, n ≤ 1000 → n ≤ sizeLine := fun h => small_le h
    have hpl : pv0.length ≤ 500 := by omega
    -- the answer, once both new pieces stand
    have fin : ∀ {H3 : Hp} {p2 q2 q3 f0 : Addr} {pa pb : Pc}, Same H2 H3 → PcV K H3 (.ref p2) pa → PcV K H3 (.ref q2) pb → cutP ps n = (ps.take i ++ [pa], pb :: ps.drop (i + 1)) →
        H3 f0 = some (.lst (pv0.take i ++ [.ref p2])) → H3 q3 = some (.lst [.ref q2]) →
        ∃ a xs, V.ref l = .ref a ∧ SqL K H3 a xs ∧ ∀ p, H3 p = none → rCat (.ref q3) (.ref p) (upd H3 p (.lst (cutV xs (some ((i : Int) + 1)) none))) fun b0 H5 => [V.ref f0, b0].length ≤ sizeLine ∧ ∀ r, H5 r = none → Q (.ref r) (upd H5 r (.tup [.ref f0, b0])) := fun {H3 p2 q2 q3 f0 pa pb} s3 ha hb hC' hf hq => by
      refine ⟨l, pv0, rfl, s3.seq hS2, fun p hp => ?_⟩
      have s4 := Same.new hp (.lst (cutV pv0 (some ((i : Int) + 1)) none))
      have c4 : upd H3 p (.lst (cutV pv0 (some ((i : Int) + 1)) none)) p = some (.lst (pv0.drop (i + 1))) := by
        rw [upd_same, show ((i : Int) + 1) = ((i + 1 : Nat) : Int) from by omega, cut_from _ _ (by omega)]
      generalize upd H3 p (.lst (cutV pv0 (some ((i : Int) + 1)) none)) = H4 at *
      refine ⟨q3, p, _, _, rfl, rfl, s4 _ _ hq, c4, sz (by rw [List.length_drop, List.length_singleton]; omega), fun b0 hb0 => ⟨by show 2 ≤ sizeLine; decide, fun r hr => ?_⟩⟩
      have s5 := Same.new hb0 (.lst ([V.ref q2] ++ pv0.drop (i + 1)))
      have c5 : upd H4 b0 (.lst ([V.ref q2] ++ pv0.drop (i + 1))) b0 = some (.lst ([V.ref q2] ++ pv0.drop (i + 1))) := upd_same
      generalize upd H4 b0 (.lst ([V.ref q2] ++ pv0.drop (i + 1))) = H5 at *
      have s6 := Same.new hr (.tup [.ref f0, .ref b0])
      have s36 := (s4.trans s5).trans s6
      refine q _ r f0 b0 _ _ (s12.trans (s3.trans s36)) upd_same (s36 _ _ hf) (s6 _ _ c5) ?_ ?_
      · rw [hC']
        exact RelL.app (RelL.take _ (hP2.same (s3.trans s36))) (RelL.one (ha.same s36))
      · rw [hC']
        exact RelL.app (xs := [pb]) (RelL.one (hb.same s36)) (RelL.drop _ (hP2.same (s3.trans s36)))
    refine ⟨T, _, rfl, SqT.of c2, rfl, _, _, rfl, _, _, rfl, rfl, ?_⟩
    have more : ∀ {v6' v7' v8' : Option V} {z : Int} {k' : Nat}, z = k' → H2 F0 = some (.lst (pv0.take i)) → cutP ps n = (ps.take (i + 1) ++ (cutP (ps.drop (i + 1)) k').1, (cutP (ps.drop (i + 1)) k').2) →
        Same H (upd H2 F0 (.lst (pv0.take i ++ [x2]))) ∧ ∃ (k : Nat) (v4 v5 v6 v7 v8 : Option V), upd H2 F0 (.lst (pv0.take i ++ [x2])) F0 = some (.lst (pv0.take (i + 1))) ∧ cutP ps n = (ps.take (i + 1) ++ (cutP (ps.drop (i + 1)) k).1, (cutP (ps.drop (i + 1)) k).2) ∧
          [some (.ref l), some (.int n), some (.ref F0), some (.int z), some (.int (i : Nat)), some x2, v6', v7', v8'] = [some (.ref l), some (.int n), some (.ref F0), some (.int k), v4, v5, v6, v7, v8] := fun {v6' v7' v8' z k'} e hF' hC' => by
      subst e
      exact ⟨hn0 s12, k', _, _, _, _, _, by rw [upd_same, take_more h2], hC', rfl⟩
    cases p with
    | pt ws =>
      obtain ⟨x, t, rfl, hx, ht⟩ := hPc
      have hx2 := Same.tup s12 hx
      have ht2 := Same.tup s12 ht
      have hwl : (ws.map V.str).length = ws.length := List.length_map ..
      refine ⟨_, rfl, x, _, rfl, hx2, rfl, _, _, rfl, _, _, rfl, _, _, rfl, rfl, ?_⟩
      refine ⟨_, rfl, _, rfl, iteTT (decide_eq_true rfl) ⟨_, rfl, t, _, rfl, .inr ht2, _, rfl, _, _, rfl, rfl, _, rfl, ?_⟩⟩
      by_cases c : k < ws.length
      · refine iteTT (decide_eq_true (by rw [hwl]; omega)) ?_
        rw [cutP, if_pos c] at hC
        refine ⟨_, rfl, _, rfl, _, rfl, k, rfl, slA_of ht2 fun H3 p1 s3 hp1 => ⟨by show 3 ≤ sizeLine; decide, fun p2 hp2 => ⟨by show 1 ≤ sizeLine; decide, fun p3 hp3 => ?_⟩⟩⟩
        rw [cut_to _ _ (by omega), ← List.map_take] at hp1
        have s4 := Same.new hp2 (.tup [.non, .non, .ref p1])
        have c4 : upd H3 p2 (.tup [.non, .non, .ref p1]) p2 = some (.tup [.non, .non, .ref p1]) := upd_same
        generalize upd H3 p2 (.tup [.non, .non, .ref p1]) = H4 at *
        have s5 := Same.new hp3 (.lst [.ref p2])
        have c5 : upd H4 p3 (.lst [.ref p2]) p3 = some (.lst [.ref p2]) := upd_same
        generalize upd H4 p3 (.lst [.ref p2]) = H5 at *
        have s25 := (s3.trans s4).trans s5
        have A5 : PcV K H5 (.ref p2) (.pt (ws.take k)) := ⟨p2, p1, rfl, SqT.of (s5 _ _ c4), Same.tup (s4.trans s5) hp1⟩
        refine ⟨F0, p3, _, _, rfl, rfl, s25 _ _ hF2, c5, sz (by rw [List.length_take, List.length_singleton]; omega), fun f0 hf0 => ?_⟩
        have s6 := Same.new hf0 (.lst (pv0.take i ++ [.ref p2]))
        have c6 : upd H5 f0 (.lst (pv0.take i ++ [.ref p2])) f0 = some (.lst (pv0.take i ++ [.ref p2])) := upd_same
        generalize upd H5 f0 (.lst (pv0.take i ++ [.ref p2])) = H6 at *
        have s26 := s25.trans s6
        refine ⟨_, rfl, _, rfl, k, rfl, noPart (slA_of (Same.tup s26 ht2) fun H7 q1 s7 hq1 => ⟨by show 3 ≤ sizeLine; decide, fun q2 hq2 => ⟨by show 1 ≤ sizeLine; decide, fun q3 hq3 => ?_⟩⟩)⟩
        rw [cut_from _ _ (by omega), ← List.map_drop] at hq1
        have s8 := Same.new hq2 (.tup [.non, .non, .ref q1])
        have c8 : upd H7 q2 (.tup [.non, .non, .ref q1]) q2 = some (.tup [.non, .non, .ref q1]) := upd_same
        generalize upd H7 q2 (.tup [.non, .non, .ref q1]) = H8 at *
        have s9 := Same.new hq3 (.lst [.ref q2])
        have c9 : upd H8 q3 (.lst [.ref q2]) q3 = some (.lst [.ref q2]) := upd_same
        generalize upd H8 q3 (.lst [.ref q2]) = H9 at *
        have s79 := (s7.trans s8).trans s9
        have B5 : PcV K H9 (.ref q2) (.pt (ws.drop k)) := ⟨q2, q1, rfl, SqT.of (s9 _ _ c8), Same.tup (s8.trans s9) hq1⟩
        exact ⟨_, rfl, _, rfl, _, _, rfl, rfl, _, rfl, noPart (fin (s26.trans s79) (A5.same (s6.trans s79)) B5 hC (s79 _ _ c6) c9)⟩
      · refine iteFF (decide_eq_false (by rw [hwl]; omega)) ?_
        rw [cutP, if_neg c] at hC
        refine ⟨_, rfl, _, rfl, iteFF rfl (iteFF rfl ?_)⟩
        refine ⟨_, rfl, .inl ⟨rfl, _, .inl (.inl hF2)⟩, _, rfl, F0, _, _, rfl, rfl, hF2, sz (by rw [List.length_take]; omega), ?_⟩
        have hF3 : upd H2 F0 (.lst (pv0.take i ++ [.ref x])) F0 = some (.lst (pv0.take i ++ [.ref x])) := upd_same
        refine ⟨_, rfl, _, rfl, _, rfl, iteTT (decide_eq_true rfl) ⟨_, rfl, t, _, rfl, .inr (SqT.put hF2 ht2), ?_⟩⟩
        refine ⟨_, _, rfl, rfl, ?_⟩
        exact more (k' := k - ws.length) (by show (k : Int) - ((ws.map V.str).length : Int) = _; rw [hwl]; omega) hF2 (by rw [hC, take_more hp, List.append_assoc]; rfl)
    | kp a b =>
      obtain ⟨x, t, rfl, hx, ht, hle⟩ := hPc
      have hx2 := Same.tup s12 hx
      have ht2 := Same.tup s12 ht
      refine ⟨_, rfl, x, _, rfl, hx2, rfl, _, _, rfl, _, _, rfl, _, _, rfl, rfl, ?_⟩
      refine ⟨_, rfl, _, rfl, iteFF (decide_eq_false fun z => nomatch z) (iteFF rfl ?_)⟩
      refine ⟨_, rfl, _, rfl, iteTT (by rw [decide_eq_false (fun z => nomatch z)]; rfl) ?_⟩
      refine or_one (c := b = none) (d := k < b.getD 0 - a) (fun Q' q' => ⟨_, rfl, _, rfl, ?_⟩) (fun hb Q' q' => ?_) ?_
      · cases b with
        | none => exact q'
        | some b => exact q'
      · cases b with
        | none => exact absurd rfl hb
        | some b =>
          have := hle b rfl
          refine ⟨_, rfl, _, rfl, _, _, rfl, rfl, _, rfl, _, _, rfl, rfl, _, rfl, ?_⟩
          rw [show decide (k < (some b).getD 0 - a) = decide ((k : Int) < (b : Int) - (a : Int)) from decide_eq_decide.mpr ⟨fun z => by simp at z; omega, fun z => by simp; omega⟩] at q'
          exact q'
      by_cases c : b = none ∨ k < b.getD 0 - a
      · refine iteTT (decide_eq_true c) ?_
        have hC2 : cutP ps n = (ps.take i ++ [.kp a (some (a + k))], .kp (a + k) b :: ps.drop (i + 1)) := by
          cases b with
          | none => exact hC
          | some b =>
            rw [cutP, if_pos (show k < b - a from c.elim (fun z => nomatch z) fun z => z)] at hC
            exact hC
        refine ⟨_, rfl, _, rfl, _, rfl, _, rfl, _, _, rfl, rfl, by show 0 ≤ sizeLine; decide, fun p1 hp1 => ⟨by show 3 ≤ sizeLine; decide, fun p2 hp2 => ⟨by show 1 ≤ sizeLine; decide, fun p3 hp3 => ?_⟩⟩⟩
        have s3 := Same.new hp1 (.tup [])
        have c3 : upd H2 p1 (.tup []) p1 = some (.tup []) := upd_same
        generalize upd H2 p1 (.tup []) = H3 at *
        have s4 := Same.new hp2 (.tup [.int a, .int ((a : Int) + (k : Int)), .ref p1])
        have c4 : upd H3 p2 (.tup [.int a, .int ((a : Int) + (k : Int)), .ref p1]) p2 = some (.tup [.int a, .int ((a : Int) + (k : Int)), .ref p1]) := upd_same
        generalize upd H3 p2 (.tup [.int a, .int ((a : Int) + (k : Int)), .ref p1]) = H4 at *
        have s5 := Same.new hp3 (.lst [.ref p2])
        have c5 : upd H4 p3 (.lst [.ref p2]) p3 = some (.lst [.ref p2]) := upd_same
        generalize upd H4 p3 (.lst [.ref p2]) = H5 at *
        have s25 := (s3.trans s4).trans s5
        have A5 : PcV K H5 (.ref p2) (.kp a (some (a + k))) := ⟨p2, p1, rfl, SqT.of (s5 _ _ c4), SqT.of ((s4.trans s5) _ _ c3), fun b' e => by cases e; omega⟩
        refine ⟨F0, p3, _, _, rfl, rfl, s25 _ _ hF2, c5, sz (by rw [List.length_take, List.length_singleton]; omega), fun f0 hf0 => ?_⟩
        have s6 := Same.new hf0 (.lst (pv0.take i ++ [.ref p2]))
        have c6 : upd H5 f0 (.lst (pv0.take i ++ [.ref p2])) f0 = some (.lst (pv0.take i ++ [.ref p2])) := upd_same
        generalize upd H5 f0 (.lst (pv0.take i ++ [.ref p2])) = H6 at *
        have s26 := s25.trans s6
        refine ⟨_, rfl, _, rfl, _, _, rfl, rfl, _, rfl, by show 0 ≤ sizeLine; decide, fun q1 hq1 => ⟨by show 3 ≤ sizeLine; decide, fun q2 hq2 => ⟨by show 1 ≤ sizeLine; decide, fun q3 hq3 => ?_⟩⟩⟩
        have s7 := Same.new hq1 (.tup [])
        have c7 : upd H6 q1 (.tup []) q1 = some (.tup []) := upd_same
        generalize upd H6 q1 (.tup []) = H7 at *
        have s8 := Same.new hq2 (.tup [.int ((a : Int) + (k : Int)), bV b, .ref q1])
        have c8 : upd H7 q2 (.tup [.int ((a : Int) + (k : Int)), bV b, .ref q1]) q2 = some (.tup [.int ((a : Int) + (k : Int)), bV b, .ref q1]) := upd_same
        generalize upd H7 q2 (.tup [.int ((a : Int) + (k : Int)), bV b, .ref q1]) = H8 at *
        have s9 := Same.new hq3 (.lst [.ref q2])
        have c9 : upd H8 q3 (.lst [.ref q2]) q3 = some (.lst [.ref q2]) := upd_same
        generalize upd H8 q3 (.lst [.ref q2]) = H9 at *
        have s79 := (s7.trans s8).trans s9
        have B5 : PcV K H9 (.ref q2) (.kp (a + k) b) := ⟨q2, q1, rfl, SqT.of (s9 _ _ c8), SqT.of ((s8.trans s9) _ _ c7), fun b' e => by
          have := hle b' e
          subst e
          have z : k < b' - a := c.elim (fun z => nomatch z) fun z => z
          omega⟩
        exact ⟨_, rfl, _, rfl, _, _, rfl, rfl, _, rfl, noPart (fin (s26.trans s79) (A5.same (s6.trans s79)) B5 hC2 (s79 _ _ c6) c9)⟩
      · refine iteFF (decide_eq_false c) ?_
        obtain ⟨b, rfl⟩ : ∃ b', b = some b' := by
          cases b with
          | none => exact absurd (Or.inl rfl) c
          | some b => exact ⟨b, rfl⟩
        have c2 : ¬ k < b - a := fun z => c (.inr z)
        have := hle b rfl
        rw [cutP, if_neg c2] at hC
        refine ⟨_, rfl, .inl ⟨rfl, _, .inl (.inl hF2)⟩, _, rfl, F0, _, _, rfl, rfl, hF2, sz (by rw [List.length_take]; omega), ?_⟩
        refine ⟨_, rfl, _, rfl, _, rfl, iteFF (decide_eq_false fun z => nomatch z) ⟨_, rfl, _, rfl, _, _, rfl, rfl, ?_⟩⟩
        refine ⟨_, _, rfl, rfl, ?_⟩
        exact more (k' := k - (b - a)) (by show (k : Int) - ((b : Int) - (a : Int)) = _; omega) hF2 (by rw [hC, take_more hp, List.append_assoc]; rfl)
  · rintro σ H1 ⟨s1, k, v4, v5, v6, v7, v8, hF, hC, rfl⟩
    refine ⟨_, rfl, by show 0 ≤ sizeLine; decide, fun B0 hB0 => ⟨by show 2 ≤ sizeLine; decide, fun r hr => ?_⟩⟩
    rw [List.drop_of_length_le (by omega), List.take_of_length_le (by omega)] at hC
    have e1 : (cutP ps n).1 = ps := by rw [hC]; show ps ++ [] = ps; rw [List.append_nil]
    have e2 : (cutP ps n).2 = [] := by rw [hC]; rfl
    have sB := Same.new hB0 (.lst [])
    have sR := Same.new hr (.tup [.ref F0, .ref B0])
    have sBR := sB.trans sR
    rw [List.take_of_length_le (by omega)] at hF
    refine q _ r F0 B0 pv0 [] (s1.trans sBR) upd_same (sBR _ _ hF) (sR _ _ upd_same) ?_ ?_
    · rw [e1]; exact hP.same (s1.trans sBR)
    · rw [e2]; trivial
end
end P5

end
section
set_option Elab.async false
set_option linter.all false
set_option maxRecDepth 100000
set_option maxHeartbeats 4000000
namespace P5
open PySem PySem.Spec PySem.SeqAt PyProof.Rows L2
section
variable {P : Program} {w : World} {K : PySem.W.Frag} {mg : Str → Option Value} {base : Heap} {aN aS CE : Addr}
abbrev sUncut : Stmt := tp 19
theorem scUncut : FnScope [] [] (defScope sUncut) := ⟨rfl, rfl, rfl, by decide +kernel, rfl, by decide +kernel, by decide +kernel⟩
def spUncut (K : PySem.W.Frag) : Sp := fun vs H Q _ => vs = [] ∧ ∀ H' l v, Same H H' → H' l = some (.lst [v]) → PcV K H' v (.kp 0 none) → Q (.ref l) H'
theorem ok_uncut {f : Addr} {fd : FuncData} (F : Fun K "uncut" "uncut" sUncut f fd) : FnOk P w K mg base CX0 1 f fd [] (spUncut K) := by
  refine F.ok scUncut (fun vs H Q E h => ?_) (fun cdv A outer s H vs Q E hr h => ?_)
  · obtain ⟨rfl, _⟩ := h
    rfl
  obtain ⟨rfl, q⟩ := h
  refine ⟨_, pss_one (ps_ret (pe_lst (pa_cons (pe_tup (pa_cons pe_int (pa_cons pe_non (pa_cons (pe_tup pa_nil) pa_nil)))) pa_nil))), ?_⟩
  refine ⟨by show 0 ≤ sizeLine; decide, fun p1 h1 => ⟨by show 3 ≤ sizeLine; decide, fun p2 h2 => ⟨by show 1 ≤ sizeLine; decide, fun p3 h3 => ?_⟩⟩⟩
  have s1 := Same.new h1 (.tup [])
  have s2 := Same.new h2 (.tup [.int 0, .non, .ref p1])
  have s3 := Same.new h3 (.lst [.ref p2])
  exact q _ p3 (.ref p2) ((s1.trans s2).trans s3) upd_same ⟨p2, p1, rfl, SqT.of (s3 _ _ upd_same), SqT.of ((s2.trans s3) _ _ upd_same), fun b' e => nomatch e⟩
abbrev sEdited : Stmt := tp 21
abbrev NEd : List Str := ["pieces", "first", "last", "words", "front", "rest", "_", "back"]
theorem scEdited : FnScope NEd ["pieces", "first", "last", "words"] (defScope sEdited) := ⟨rfl, rfl, rfl, by decide +kernel, rfl, by decide +kernel, by decide +kernel⟩
def spEdited (K : PySem.W.Frag) : Sp := fun vs H Q _ => ∃ (l t : Addr) (pv : List V) (ps : List Pc) (e : Ed), vs = [.ref l, .int e.a, .int e.b, .ref t] ∧ SqL K H l pv ∧ PcsV K H pv ps ∧ SqT K H t (e.ws.map V.str) ∧ e.a ≤ e.b ∧ ps.length ≤ 490 ∧
  ∀ H' l' pv', Same H H' → H' l' = some (.lst pv') → PcsV K H' pv' (edP ps e) → Q (.ref l') H'
theorem ok_edited {f fC : Addr} {fd fdC : FuncData} (F : Fun K "edited" "edited" sEdited f fd) (B : BN mg)
    (G : FnOk P w K mg base CX0 1 fC fdC ["pieces", "place"] (spCut K)) (b1 : Binds K fdC ["pieces", "place"] []) (k1 : PySem.W.keepIn K (.ref fC) = true) (m1 : mg "cut" = some (.ref fC)) : FnOk P w K mg base CX0 2 f fd ["pieces", "first", "last", "words"] (spEdited K) := by
  refine F.ok scEdited (fun vs H Q E h => ?_) (fun cdv A outer s H vs Q E hr h => ?_)
  · obtain ⟨_, _, _, _, _, rfl, _⟩ := h
    rfl
  obtain ⟨l, t, pv0, ps, e, rfl, hS, hP, hT, he, hl, q⟩ := h
  refine ⟨_, pss_cons (ps_asg (pe_call G hr rfl m1 k1 b1 .nil pass0 (pa_cons (pv 0) (pa_cons (pv 1) pa_nil))) (pg_tup rfl (pgs_cons (pg_name (i := 4) scEdited.nd rfl (Or.inl rfl)) (pgs_cons (pg_name (i := 5) scEdited.nd rfl (Or.inl rfl)) pgs_nil))))
    (pss_cons (ps_asg (pe_call G hr rfl m1 k1 b1 .nil pass0 (pa_cons (pv 5) (pa_cons (pe_op op_sub (pv 2) (pv 1)) pa_nil))) (pg_tup rfl (pgs_cons (pg_name (i := 6) scEdited.nd rfl (Or.inl rfl)) (pgs_cons (pg_name (i := 7) scEdited.nd rfl (Or.inl rfl)) pgs_nil))))
    (pss_one (ps_ret (pe_op op_cat (pe_op op_cat (pv 4) (pe_lst (pa_cons (pe_tup (pa_cons pe_non (pa_cons pe_non (pa_cons (pe_callTy call_tuple_of rfl B.tup (by decide +kernel) (pa_cons (pv 3) pa_nil)) pa_nil)))) pa_nil))) (pv 7))))), ?_⟩
  have hlen := hP.len
  have c1 := cutP_cnt ps e.a
  have c2 := cutP_cnt (cutP ps e.a).2 (e.b - e.a)
  refine ⟨_, rfl, _, rfl, l, pv0, ps, e.a, rfl, hS, hP, by omega, fun H1 r f0 b0 fv bv s1 hr1 hf1 hb1 hfv hbv => ?_⟩
  refine ⟨r, _, rfl, SqT.of hr1, rfl, _, _, rfl, _, _, rfl, rfl, ?_⟩
  refine ⟨_, rfl, _, rfl, _, rfl, _, _, rfl, rfl, b0, bv, (cutP ps e.a).2, e.b - e.a, congrArg (fun z : Int => [V.ref b0, V.int z]) (by omega), SqL.of hb1, hbv, by omega, fun H2 r2 f2 b2 fv2 bv2 s2 hr2 hf2 hb2 hfv2 hbv2 => ?_⟩
  refine ⟨r2, _, rfl, SqT.of hr2, rfl, _, _, rfl, _, _, rfl, rfl, ?_⟩
  have s12 := s1.trans s2
  have hT2 := Same.tup s12 hT
  refine ⟨_, rfl, _, rfl, t, _, rfl, .inr ⟨hT2, by show 3 ≤ sizeLine; decide, fun p2 hp2 => ⟨by show 1 ≤ sizeLine; decide, fun p3 hp3 => ?_⟩⟩⟩
  have s4 := Same.new hp2 (.tup [.non, .non, .ref t])
  have c4 : upd H2 p2 (.tup [.non, .non, .ref t]) p2 = some (.tup [.non, .non, .ref t]) := upd_same
  generalize upd H2 p2 (.tup [.non, .non, .ref t]) = H4 at *
  have s5 := Same.new hp3 (.lst [.ref p2])
  have c5 : upd H4 p3 (.lst [.ref p2]) p3 = some (.lst [.ref p2]) := upd_same
  generalize upd H4 p3 (.lst [.ref p2]) = H5 at *
  have s45 := s4.trans s5
  have A5 : PcV K H5 (.ref p2) (.pt e.ws) := ⟨p2, t, rfl, SqT.of (s5 _ _ c4), Same.tup s45 hT2⟩
  have l1 := hfv.len
  have l2 := hbv2.len
  have sz : ∀ {n : Nat}, n ≤ 1000 → n ≤ sizeLine := fun h => small_le h
  refine ⟨f0, p3, _, _, rfl, rfl, (s2.trans s45) _ _ hf1, c5, sz (by rw [List.length_singleton]; omega), fun f3 hf3 => ?_⟩
  have s6 := Same.new hf3 (.lst (fv ++ [.ref p2]))
  have c6 : upd H5 f3 (.lst (fv ++ [.ref p2])) f3 = some (.lst (fv ++ [.ref p2])) := upd_same
  generalize upd H5 f3 (.lst (fv ++ [.ref p2])) = H6 at *
  refine ⟨_, rfl, f3, b2, _, _, rfl, rfl, c6, (s45.trans s6) _ _ hb2, sz (by rw [List.length_append, List.length_singleton]; omega), fun f4 hf4 => ?_⟩
  have s7 := Same.new hf4 (.lst (fv ++ [.ref p2] ++ bv2))
  refine q _ f4 _ ((s12.trans s45).trans (s6.trans s7)) upd_same ?_
  exact RelL.app (RelL.app (hfv.same ((s2.trans s45).trans (s6.trans s7))) (RelL.one (A5.same (s6.trans s7)))) (hbv2.same (s45.trans (s6.trans s7)))
end
end P5

end
section
set_option Elab.async false
set_option linter.all false
set_option maxRecDepth 100000
set_option maxHeartbeats 4000000
namespace P5
open PySem PySem.Spec PySem.SeqAt PyProof.Rows L2
theorem chs_rel {K : PySem.W.Frag} {H : Hp} : ∀ {vs : List V} {es : List Ed}, ChsV K H vs es ↔ RelL (ChV K H) vs es
  | [], [] => Iff.rfl
  | v :: vs, e :: es => ⟨fun h => ⟨h.1, chs_rel.mp h.2⟩, fun h => ⟨h.1, chs_rel.mpr h.2⟩⟩
  | [], e :: es => Iff.rfl
  | v :: vs, [] => Iff.rfl
theorem last_end {L : Nat} : ∀ {ps : List Pc} {s i a : Nat}, WFp L s ps → ps[i]? = some (.kp a none) → ps.drop (i + 1) = []
  | _, _, 0, _, .last _ _, _ => rfl
  | _, _, i + 1, _, .last _ _, h => by simp at h
  | _, _, 0, _, .pt _, h => by simp at h
  | _, _, i + 1, _, .pt (r := r) hr, h => last_end (ps := r) (i := i) hr (by simpa using h)
  | _, _, 0, _, .kp _ _ _ _, h => by simp at h
  | _, _, i + 1, _, .kp (r := r) _ _ _ hr, h => last_end (ps := r) (i := i) hr (by simpa using h)
theorem seqIf {c : TT} {t u v : TS} {D : Ends} {σ : L2.St} {H : Hp} (h : c σ H fun b H1 => if b = true then t { D with nx := v D } σ H1 else u { D with nx := v D } σ H1) : tSeq (tIfS c t u) v D σ H := h
def chgN : Option Nat → List Pc → List Ed
  | none, _ => []
  | some b, r => chg b [] r
theorem ptot_cons (p : Pc) (r : List Pc) : ptot (p :: r) = (pWs p).length + ptot r := by
  cases p with
  | kp a b => exact (Nat.zero_add _).symm
  | pt ws => rfl
section
variable {P : Program} {w : World} {K : PySem.W.Frag} {mg : Str → Option Value} {base : Heap} {aN aS CE : Addr}
theorem ChV.put {H : Hp} {p : Addr} {ys zs : List V} (hp : H p = some (.lst ys)) {v : V} {e : Ed} (h : ChV K H v e) : ChV K (upd H p (.lst zs)) v e := by
  obtain ⟨a, t, h1, h2, h3⟩ := h
  exact ⟨a, t, h1, SqT.put hp h2, SqT.put hp h3⟩
theorem ChV.same {H H' : Hp} (s : Same H H') {v : V} {e : Ed} (h : ChV K H v e) : ChV K H' v e := h.imp fun _ _ q => Same.tup s q
abbrev sChg : Stmt := tp 23
abbrev NChg : List Str := ["pieces", "changes", "at", "words", "first", "last", "more"]
theorem scChg : FnScope NChg ["pieces"] (defScope sChg) := ⟨rfl, rfl, rfl, by decide +kernel, rfl, by decide +kernel, by decide +kernel⟩
def spChg (K : PySem.W.Frag) : Sp := fun vs H Q _ => ∃ (l : Addr) (pv : List V) (ps : List Pc) (L : Nat), vs = [.ref l] ∧ SqL K H l pv ∧ PcsV K H pv ps ∧ WFp L 0 ps ∧ ps.length ≤ 500 ∧ ptot ps ≤ 500 ∧
  ∀ H' t cv, Same H H' → SqT K H' t cv → ChsV K H' cv (chg 0 [] ps) → Q (.ref t) H'
/-- where the walk through pieces stands -/
def ChI (K : PySem.W.Frag) (ps : List Pc) (i : Nat) (H : Hp) (D : List Ed) (v2 v3 : Option V) : Prop :=
  (∃ (s : Nat) (ws : List Str) (wt : Addr), v2 = some (.int s) ∧ v3 = some (.ref wt) ∧ SqT K H wt (ws.map V.str) ∧ chg 0 [] ps = D ++ chg s ws (ps.drop i) ∧ ws.length + ptot (ps.drop i) ≤ 500) ∨ (ps.drop i = [] ∧ D = chg 0 [] ps)
theorem ok_chg {f : Addr} {fd : FuncData} (F : Fun K "changes_of" "changes_of" sChg f fd) (B : BN mg) : FnOk P w K mg base CX0 1 f fd ["pieces"] (spChg K) := by
  refine F.ok scChg (fun vs H Q E h => ?_) (fun cdv A outer s H vs Q E hr h => ?_)
  · obtain ⟨_, _, _, _, rfl, _⟩ := h
    rfl
  obtain ⟨l, pv0, ps, L, rfl, hS, hP, hW, hl, ht, q⟩ := h
  refine ⟨_, pss_cons (ps_set (i := 1) scChg.nd rfl (Or.inl rfl) (pe_lst pa_nil)) (pss_cons (ps_set (i := 2) scChg.nd rfl (Or.inl rfl) pe_int) (pss_cons (ps_set (i := 3) scChg.nd rfl (Or.inl rfl) (pe_tup pa_nil))
    (pss_cons (ps_for PassesOwn.never rfl (pi_list (pv 0)) (pg_tup rfl (pgs_cons (pg_name (i := 4) scChg.nd rfl (Or.inl rfl)) (pgs_cons (pg_name (i := 5) scChg.nd rfl (Or.inl rfl)) (pgs_cons (pg_name (i := 6) scChg.nd rfl (Or.inl rfl)) pgs_nil))))
      (pss_cons (ps_set (i := 3) scChg.nd rfl (Or.inl rfl) (pe_op (r := rCatA K) op_catA (pv 3) (pv 6)))
      (pss_one (ps_if (PW.pt (pw_and (pt_cmp (pc_notN (pv 4))) (pw_and1 (pt_cmpR op_ne (pv 4) (pv 5) (nomark _)))))
        (pss_cons (ps_if (PW.pt (pw_or (pt_cmpR op_lt (pv 2) (pv 4) (nomark _)) (pw_or1 (pt_truth (pv 3) (by intro _; rfl)))))
          (pss_one (ps_expr (pe_bm PySem.F.plainAttrs_list PySem.F.slot_list_append PySem.F.type_list_append mt_append (pv 1) (pa_cons (pe_tup (pa_cons (pv 2) (pa_cons (pv 4) (pa_cons (pv 3) pa_nil)))) pa_nil)))) pss_nil)
        (pss_cons (ps_set (i := 2) scChg.nd rfl (Or.inl rfl) (pv 5)) (pss_one (ps_set (i := 3) scChg.nd rfl (Or.inl rfl) (pe_tup pa_nil))))) pss_nil))))
    (pss_one (ps_ret (pe_callTy call_tuple_of rfl B.tup (by decide +kernel) (pa_cons (pv 1) pa_nil))))))), ?_⟩
  have sz : ∀ {n : Nat}, n ≤ 1000 → n ≤ sizeLine := fun h => small_le h
  have hlen := hP.len
  refine ⟨by show 0 ≤ sizeLine; decide, fun F0 hF0 => ?_⟩
  have s0 := Same.new hF0 (.lst [])
  have hF00 : upd H F0 (.lst []) F0 = some (.lst []) := upd_same
  generalize upd H F0 (.lst []) = H0 at *
  refine ⟨by show 0 ≤ sizeLine; decide, fun w0 hw0 => ?_⟩
  have s1 := Same.new hw0 (.tup [])
  have hw00 : upd H0 w0 (.tup []) w0 = some (.tup []) := upd_same
  have hF01 := s1 _ _ hF00
  generalize upd H0 w0 (.tup []) = H1 at *
  have s01 := s0.trans s1
  refine ⟨_, rfl, l, rfl, ⟨_, s01.seq hS⟩, ?_⟩
  refine for_list (xs := pv0) (fun i σ H' => Same H H' ∧ ∃ (D : List Ed) (dv : List V) (v2 v3 v4 v5 v6 : Option V), H' F0 = some (.lst dv) ∧ RelL (ChV K H') dv D ∧ D.length ≤ i ∧ ChI K ps i H' D v2 v3 ∧ σ = [some (.ref l), some (.ref F0), v2, v3, v4, v5, v6])
    ⟨s01, [], [], _, _, none, none, none, hF01, trivial, Nat.le_refl _, .inl ⟨0, [], w0, rfl, rfl, SqT.of hw00, rfl, by simpa using ht⟩, rfl⟩ (fun i σ H' _ ⟨s, _⟩ => s.seq hS) ?_ ?_
  · rintro i x σ H2 hx ⟨s2, D, dv, v2, v3, v4, v5, v6, hF, hD, hDl, hI, rfl⟩
    obtain ⟨p, hp, hPc⟩ := hP.get hx
    obtain ⟨hil, hdr⟩ := kat_drop hp
    have hdl := hD.len
    rcases hI with ⟨s, ws, wt, rfl, rfl, hwt, hC, hsz⟩ | ⟨hz, _⟩
    · rw [hdr] at hC hsz
      rw [ptot_cons] at hsz
      obtain ⟨xa, t, rfl, hxa, hta⟩ := hPc.open
      refine ⟨xa, _, rfl, Same.tup s2 hxa, rfl, _, _, rfl, _, _, rfl, _, _, rfl, rfl, ?_⟩
      refine ⟨_, rfl, _, rfl, catA_of hwt (Same.tup s2 hta) (sz (by rw [List.length_map, List.length_map]; omega)) fun H3 w3 s3 hw3 => ?_⟩
      rw [← List.map_append] at hw3
      have s23 := s2.trans s3
      have hF3 := s3 _ _ hF
      have hD3 := RelL.imp (fun _ _ z => ChV.same s3 z) hD
      cases p with
      | pt w1 =>
        refine ⟨_, rfl, _, rfl, iteFF rfl (iteFF rfl ?_)⟩
        exact ⟨s23, D, dv, _, _, _, _, _, hF3, hD3, by omega, .inl ⟨s, ws ++ w1, w3, rfl, rfl, hw3, hC, by rw [List.length_append]; have : (pWs (.pt w1)).length = w1.length := rfl; omega⟩, rfl⟩
      | kp a b =>
        have hw3' : SqT K H3 w3 (ws.map V.str) := by
          have z : ws ++ pWs (.kp a b) = ws := List.append_nil ws
          rw [z] at hw3
          exact hw3
        have hsz2 : ws.length + ptot (ps.drop (i + 1)) ≤ 500 := by have : (pWs (.kp a b)).length = 0 := rfl; omega
        refine ⟨_, rfl, _, rfl, iteTT rfl ⟨_, rfl, _, rfl, ?_⟩⟩
        have hsc : scal (.int a) (bV b) = true := by cases b <;> rfl
        refine ⟨hsc, _, rfl, ?_⟩
        by_cases cab : b = some a
        · subst cab
          refine iteFF (by show (!decide (V.int a = V.int a)) = false; rw [decide_eq_true rfl]; rfl) ?_
          rw [chg, if_pos rfl] at hC
          exact ⟨s23, D, dv, _, _, _, _, _, hF3, hD3, by omega, .inl ⟨s, ws, w3, rfl, rfl, hw3', hC, hsz2⟩, rfl⟩
        · refine iteTT (by
            show (!decide (V.int a = bV b)) = true
            rw [decide_eq_false]
            · rfl
            · intro z
              cases b with
              | none => cases z
              | some b =>
                have : (a : Int) = (b : Int) := V.int.inj z
                exact cab (by rw [show b = a from by omega])) ?_
          -- the way on: with changes D'
          have next : ∀ {D' : List Ed} {dv' : List V} {H4 : Hp} {v4' v5' v6' : Option V}, Same H3 H4 ∨ Same H H4 → Same H H4 → H4 F0 = some (.lst dv') → RelL (ChV K H4) dv' D' → D'.length ≤ i + 1 →
              (chg 0 [] ps = D' ++ chgN b (ps.drop (i + 1))) →
              ∀ w5, H4 w5 = none → Same H (upd H4 w5 (.tup [])) ∧ ∃ (D : List Ed) (dv : List V) (v2 v3 v4 v5 v6 : Option V), upd H4 w5 (.tup []) F0 = some (.lst dv) ∧ RelL (ChV K (upd H4 w5 (.tup []))) dv D ∧ D.length ≤ i + 1 ∧ ChI K ps (i + 1) (upd H4 w5 (.tup [])) D v2 v3 ∧
                [some (V.ref l), some (.ref F0), some (bV b), some (.ref w5), v4', v5', v6'] = [some (.ref l), some (.ref F0), v2, v3, v4, v5, v6] := fun {D' dv' H4 v4' v5' v6'} _ s4 hF4 hD4 hl4 hC4 w5 hw5 => by
            have s5 := Same.new hw5 (.tup [])
            refine ⟨s4.trans s5, D', dv', _, _, _, _, _, s5 _ _ hF4, RelL.imp (fun _ _ z => ChV.same s5 z) hD4, hl4, ?_, rfl⟩
            cases b with
            | none => exact .inr ⟨last_end hW hp, by rw [hC4]; exact (List.append_nil _).symm⟩
            | some b => exact .inl ⟨b, [], w5, rfl, rfl, SqT.of upd_same, hC4, by simp only [List.length_nil]; omega⟩
          refine seqIf ?_
          refine or_one (c := s < a) (d := ws ≠ []) (fun Q' q' => ⟨_, rfl, _, rfl, _, _, rfl, rfl, _, rfl, ?_⟩) (fun _ Q' q' => ⟨_, rfl, _, .inr (.inl ⟨_, hw3', rfl⟩), ?_⟩) ?_
          · rw [show decide ((s : Int) < (a : Int)) = decide (s < a) from decide_eq_decide.mpr (by omega)]
            exact q'
          · rw [show (!(ws.map V.str).isEmpty) = decide (ws ≠ []) from by cases ws <;> rfl]
            exact q'
          have hCC : chg s ws (.kp a b :: ps.drop (i + 1)) = (if s < a ∨ ws ≠ [] then [⟨s, a, ws⟩] else []) ++ chgN b (ps.drop (i + 1)) := by
            cases b with
            | none =>
              rw [chg]
              exact (List.append_nil _).symm
            | some b =>
              have c3 : ¬ a = b := fun z => cab (by rw [z])
              rw [chg, if_neg c3]
              by_cases c : s < a ∨ ws ≠ []
              · rw [if_pos c, if_pos c]; rfl
              · rw [if_neg c, if_neg c]; rfl
          by_cases c : s < a ∨ ws ≠ []
          · refine iteTT (decide_eq_true c) ?_
            rw [hCC, if_pos c, ← List.append_assoc] at hC
            refine ⟨_, rfl, .inl ⟨rfl, _, .inl (.inl hF3)⟩, _, rfl, _, rfl, _, rfl, by show 3 ≤ sizeLine; decide, fun T hT => ?_⟩
            have s4 := Same.new hT (.tup [.int s, pV0 (.kp a b), .ref w3])
            have c4 : upd H3 T (.tup [.int s, pV0 (.kp a b), .ref w3]) T = some (.tup [.int s, pV0 (.kp a b), .ref w3]) := upd_same
            have hF4 := s4 _ _ hF3
            have hw4 := Same.tup s4 hw3'
            have hD4 := RelL.imp (fun _ _ z => ChV.same s4 z) hD3
            generalize upd H3 T (.tup [.int s, pV0 (.kp a b), .ref w3]) = H4 at *
            have A4 : ChV K H4 (.ref T) ⟨s, a, ws⟩ := ⟨T, w3, rfl, SqT.of c4, hw4⟩
            refine ⟨F0, dv, .ref T, rfl, rfl, hF4, Nat.lt_of_lt_of_le (by omega : dv.length < 1000) (sz (Nat.le_refl _)), ?_⟩
            refine ⟨_, rfl, by show 0 ≤ sizeLine; decide, ?_⟩
            exact next (.inr (same_put hF0 (s23.trans s4))) (same_put hF0 (s23.trans s4)) upd_same (RelL.app (RelL.imp (fun _ _ z => ChV.put hF4 z) hD4) (RelL.one (A4.put hF4))) (by rw [List.length_append, List.length_singleton]; omega) hC
          · refine iteFF (decide_eq_false c) ?_
            rw [hCC, if_neg c, List.nil_append] at hC
            refine ⟨_, rfl, by show 0 ≤ sizeLine; decide, ?_⟩
            exact next (.inr s23) s23 hF3 hD3 (by omega) hC
    · rw [hdr] at hz
      cases hz
  · rintro σ H2 ⟨s2, D, dv, v2, v3, v4, v5, v6, hF, hD, hDl, hI, rfl⟩
    have hDC : D = chg 0 [] ps := by
      rcases hI with ⟨s, ws, wt, rfl, rfl, hwt, hC, hsz⟩ | ⟨_, h⟩
      · rw [List.drop_of_length_le (by omega), chg, List.append_nil] at hC
        exact hC.symm
      · exact h
    subst hDC
    refine ⟨_, rfl, F0, dv, rfl, .inl ⟨SqL.of hF, fun t ht => ?_⟩⟩
    have s3 := Same.new ht (.tup dv)
    exact q _ t dv (s2.trans s3) (SqT.of upd_same) (chs_rel.mpr (RelL.imp (fun _ _ z => ChV.same s3 z) hD))
end
end P5

end
section
set_option Elab.async false
set_option linter.all false
set_option maxRecDepth 100000
set_option maxHeartbeats 4000000
/-! t[::-1] of a tuple -/
namespace P5
open PySem PySem.Spec PyProof.Rows L2 HT
section
variable {prog : Program} {w : World} {A : Around} {E : Value → Shared → Prop} {s : Shared}
theorem pick_rev (xs : Array Value) : ((List.range xs.size).filterMap fun (k : Nat) => xs[(((xs.size : Int) - 1) + (k : Int) * (-1)).toNat]?).toArray = xs.toList.reverse.toArray := by
  have e : (fun (k : Nat) => xs[(((xs.size : Int) - 1) + (k : Int) * (-1)).toNat]?) = (fun m => xs[m]?) ∘ fun k => xs.size - 1 - k := by
    funext k
    show xs[(((xs.size : Int) - 1) + (k : Int) * (-1)).toNat]? = xs[xs.size - 1 - k]?
    rw [show (((xs.size : Int) - 1) + (k : Int) * (-1)).toNat = xs.size - 1 - k from by omega]
  rw [e, ← List.filterMap_map, PySem.W.krv_range, List.filterMap_reverse, PySem.W.krv_all]
theorem sliceApplied_rev {sl : Addr} {vs : Value} {n : Nat} {Q : Int × Int × Nat → Shared → Prop} (hs : s.heap.IsSliceOf sl .none .none vs) (ps : IsPart vs (some (-1)))
    (h : Q ((n : Int) - 1, -1, n) s) : wpAny (model prog w) A (Builtin.Slice.sliceApplied (.ref sl) (pure (n : Int))) Q E s := by
  obtain ⟨os, hos, hcs, hds⟩ := id hs
  unfold Builtin.Slice.sliceApplied Builtin.Slice.sliceFields
  refine wpAny_bind (wpAny_bind (wpAny_field hos hds (x := .none) rfl (wpAny_bind (wpAny_field hos hds (x := .none) rfl (wpAny_bind (wpAny_field hos hds (x := vs) rfl (wpAny_pure ?_)))))))
  refine wpAny_bind (slicePart_ ps ?_)
  show wpAny _ _ (if ((-1 : Int) == 0) = true then _ else _) _ _ s
  rw [if_neg (by decide)]
  refine wpAny_bind (slicePart_none (wpAny_bind (slicePart_none (wpAny_bind (wpAny_pure ?_)))))
  show wpAny _ _ (match Builtin.Slice.sliceAdjust none none (-1) (n : Int) with | (lo, hi) => pure (lo, (-1 : Int), Builtin.Slice.slicePlaces lo hi (-1))) _ _ s
  have e : Builtin.Slice.sliceAdjust none none (-1) (n : Int) = ((n : Int) - 1, -1) := rfl
  rw [e]
  show wpAny _ _ (pure ((n : Int) - 1, (-1 : Int), Builtin.Slice.slicePlaces ((n : Int) - 1) (-1) (-1))) _ _ s
  have e2 : Builtin.Slice.slicePlaces ((n : Int) - 1) (-1) (-1) = n := by
    unfold Builtin.Slice.slicePlaces
    have h1 : ¬ ((-1 : Int) > 0) := by omega
    simp only [h1, if_false]
    split
    · show (((n : Int) - 1 - -1 - 1) / 1 + 1).toNat = n
      rw [Int.ediv_one]
      omega
    · omega
  rw [e2]
  exact wpAny_pure h
theorem getItem_tuple_rev {t sl : Addr} {items : Array Value} {vs : Value} {Q : Value → Shared → Prop} (ht : IsTup s.heap t items) (hs : s.heap.IsSliceOf sl .none .none vs) (ps : IsPart vs (some (-1)))
    (h : Q (.ref s.heap.objs.size) { s with heap := s.heap.push { cls := .type "tuple", data := .seq items.toList.reverse.toArray } })
    (hsz : items.size ≤ sizeLine) : wpAny (model prog w) A (getItem (.ref t) (.ref sl)) Q E s := by
  have htake : sizeOk (.seq items.toList.reverse.toArray) := by
    show items.toList.reverse.toArray.size ≤ sizeLine
    simpa using hsz
  obtain ⟨os, hos, hcs, hds⟩ := id hs
  have hTs : s.TypeIs (.ref sl) "slice" := ⟨os, hos, hcs⟩
  unfold getItem
  try with_reducible refine wpAny_holding ?_
  first | refine wpAny_bind (wpAny_pure ?_) | skip
  refine wpAny_bind (wpAny_sequenceKey ht.typeIs (by decide) ?_)
  refine wpAny_bind (wpAny_callSpecial?_slot (name := Str.ofString "__getitem__") ht.typeIs PyProof.Rows.slot_tuple_getitem
    (wpAny_call_entry PyProof.Rows.slot_tuple_getitem ht.typeIs entry_tuple_getitem ?_ (args_tuple_getitem _ _)))
  show wpAny _ _ (Builtin.Tuple.tupleItemsOf (.ref t) >>= _) _ _ s
  refine wpAny_bind (tupleItemsOf_ ht ?_)
  refine wpAny_bind (wpAny_typeOf hTs ?_)
  rw [if_pos (by decide)]
  refine wpAny_bind (sliceApplied_rev hs ps ?_)
  have hno : ¬ ((((items.size : Int) - 1) == 0 && (-1 : Int) == 1 && items.size == items.size) = true) := by
    intro q
    rw [Bool.and_eq_true, Bool.and_eq_true] at q
    exact absurd q.1.2 (by decide)
  show wpAny _ _ (if (((items.size : Int) - 1) == 0 && (-1 : Int) == 1 && items.size == items.size) = true then _ else _) _ _ s
  rw [if_neg hno, pick_rev]
  first
    | exact wpAny_bind (m := Builtin.Tuple.tupleExact _) (wpAny_newObj_type (wpAny_pure ⟨_, rfl, wpAny_pure h⟩) htake)
    | exact wpAny_bind (m := Builtin.Tuple.tupleExact _) (wpAny_newObj_type (wpAny_bind (wpAny_pure (wpAny_pure ⟨_, rfl, wpAny_pure h⟩))) htake)
    | exact wpAny_bind (wpAny_bind (m := Builtin.Tuple.tupleExact _) (wpAny_newObj_type (wpAny_pure (wpAny_pure ⟨_, rfl, wpAny_pure h⟩)) htake))
    | exact wpAny_bind (wpAny_bind (m := Builtin.Tuple.tupleExact _) (wpAny_newObj_type (wpAny_pure ⟨_, rfl, wpAny_pure h⟩) htake))
end
section
variable {X : Cx}
def tRevT (K : PySem.W.Frag) (te : TE) : TE := fun σ H Q => te σ H fun x H1 => ∃ a xs, x = .ref a ∧ SqT K H1 a xs ∧ ∀ p, H1 p = none → Q (.ref p) (upd H1 p (.tup xs.reverse))
theorem pe_revT {e : Expr} {te : TE} {k : Nat} {p1 p2 p3 pos : Pos} (he : PE X e te) : PE X (.Subscript e (.Slice none none (some (.UnaryOp .USub (.Constant (.int 1) k p1) p2)) p3) pos) (tRevT X.K te) := by
  refine ⟨fun pins s σ H Q I h => ?_⟩
  refine Subscript_ (thn (he.run pins s σ H _ I h) fun v s1 ⟨x, H1, I1, r1, q1⟩ => ?_)
  obtain ⟨a, xs, ex, hx, q⟩ := q1
  subst ex
  cases r1
  have hst : PO X (some (.UnaryOp .USub (.Constant (.int 1) k p1) p2)) (tPart (tUn (rU fun i => .int (-i)) (tC (.int 1)))) := po_some (pe_un un_neg pe_int)
  refine wpAny_Slice (thn (po_none.run pins s1 σ H1 (fun o H2 => o = none ∧ H2 = H1) I1 ⟨rfl, rfl⟩) fun vl s2 ⟨l, H2, I2, pl, el, e2⟩ => ?_)
  subst el e2
  refine thn (po_none.run pins s2 σ H2 (fun o H3 => o = none ∧ H3 = H2) I2 ⟨rfl, rfl⟩) fun vu s3 ⟨u, H3, I3, pu, eu, e3⟩ => ?_
  subst eu e3
  refine thn (hst.run pins s3 σ H3 (fun o H4 => o = some (-1) ∧ H4 = H3) I3 ⟨1, rfl, -1, rfl, rfl, rfl⟩) fun vs s4 ⟨o, H4, I4, ps, eo, e4⟩ => ?_
  subst eo e4
  cases pl
  cases pu
  have I5 : Inv X pins σ H4 { s4 with heap := s4.heap.push { cls := .type "slice", data := .fields #[.none, .none, vs] } } := I4.kept (t' := s4.toks) fun b ob q => Heap.get?_push_of_some _ q
  obtain ⟨its, r, ht, hz⟩ := I5.tuple hx
  have hlen := r.length
  show wpAny (model X.prog X.w) X.A (subscriptTail e (.Slice none none (some (.UnaryOp .USub (.Constant (.int 1) k p1) p2)) p3) (.ref a) (.ref s4.heap.objs.size)) (EP X pins σ Q) X.xe { s4 with heap := s4.heap.push { cls := .type "slice", data := .fields #[.none, .none, vs] } }
  refine tail_any (ops := [.ref a, .ref s4.heap.objs.size]) ht.typeIs (PyProof.Rows.slot_tuple_getitem.lookup) ?_ (by with_unfolding_all rfl)
  refine getItem_tuple_rev ht (Heap.IsSliceOf.new _ .none .none vs) ps ?_ (by rw [List.size_toArray]; omega)
  refine ⟨.ref _, _, I5.laid (t' := s4.toks) (o := .tup xs.reverse) (fun b ob q => Heap.get?_push_of_some _ q) (Nat.le_refl _) ?_, rfl, q _ (I5.hok.fresh (Nat.le_refl _))⟩
  exact ⟨by rw [List.length_reverse]; exact hz, _, r.reverse, IsTup.new _ _⟩
end
end P5

end
section
set_option Elab.async false
set_option linter.all false
set_option maxRecDepth 100000
set_option maxHeartbeats 4000000
/-! list(x), x of a class whose __iter__ gives iter(a tuple) and that has an own __len__ -/
namespace P5
open PySem PySem.Spec PyProof.Rows L2
/-- at j an iterator of the tuple at t, i taken -/
def ItT (t j : Addr) (i : Nat) : HO := .ext fun h => h.IsTupleIter j t i
/-- at j an object -/
def ItS (j : Addr) : HO := .ext fun h => ∃ o, h.get? j = some o
section
variable {P : Program} {w : World} {prog : Program} {A : Around} {E : Value → Shared → Prop} {s : Shared} {H : Hp} {h : Heap} {t j : Addr} {i : Nat}
theorem itT_ok (e : h.IsTupleIter j t i) : ObjOk P w H h j (ItT t j i) := ⟨e, let ⟨o, q, _⟩ := e; ⟨o, q⟩, fun h1 h2 q k => q.at fun o z => k o z⟩
theorem itS_ok (e : ∃ o, h.get? j = some o) : ObjOk P w H h j (ItS j) := ⟨e, e, fun h1 h2 q k => let ⟨o, z⟩ := q; ⟨o, k o z⟩⟩
theorem call_iter_tup {ys : Array Value} {Q : Value → Shared → Prop} (ht : s.heap.IsTuple t ys) (q : Q (.ref s.heap.objs.size) { s with heap := s.heap.push { cls := .type "tuple_iterator", data := .fields #[.ref t, .int 0 0] } }) :
    wpAny (model prog w) A (call (.builtin "iter") [.ref t]) Q E s := by
  refine Calls.call_function_entry (by decide +kernel) (by decide +kernel) PySem.W.kdk_entry_iter (PySem.W.kdk_args_iter _) ?_
  unfold Builtin.«iter»
  refine wpAny_bind (m := someArgs "iter" 1 2 _) (wpAny_of_eq (a := [Value.ref t]) (by first | rfl | kernel_rfl!) ?_)
  show wpAny _ _ (pyIter (.ref t) >>= _) _ _ _
  exact wpAny_bind (wpAny_pyIter_tuple ht (wpAny_pure ⟨_, rfl, q⟩))
theorem tup_last {ys : Array Value} {Q : Option Value → Shared → Prop} (hh : A.handled = none) (hj : s.heap.IsTupleIter j t i) (ht : s.heap.IsTuple t ys) (hx : ys[i]? = none)
    (q : ∀ h2, Heap.ExtBut j s.heap h2 → (∃ o, h2.get? j = some o) → Q none { s with heap := h2 }) : wpAny (model prog w) A (pyNext (.ref j)) Q E s := by
  obtain ⟨ob, hb, hc, hd⟩ := id hj
  obtain ⟨ot, gt, _, nt, hdt⟩ := ht
  unfold pyNext
  refine wpAny_bind (wpAny_attempt (wpAny_callSpecial?_slot (name := Str.ofString "__next__") hj.typeIs F.slot_tuple_iterator_next (wpAny_call_entry F.slot_tuple_iterator_next hj.typeIs F.entry_tuple_iterator_next ?_ (F.args_tuple_iterator_next_1 _))))
  show wpAny _ _ (field (.ref j) 0 >>= _) _ _ s
  refine wpAny_bind (wpAny_field hb hd (x := .ref t) rfl ?_)
  show wpAny _ _ (if (Value.ref t == Value.none) = true then _ else _) _ _ s
  rw [if_neg (show ¬ (Value.ref t == Value.none) = true by exact Bool.false_ne_true)]
  show wpAny _ _ (field (.ref j) 1 >>= _) _ _ s
  refine wpAny_bind (wpAny_field hb hd (x := .int i 0) rfl ?_)
  show wpAny _ _ (seqItems? (.ref t) >>= _) _ _ s
  refine wpAny_bind (wpAny_seqItems gt hdt ?_); simp only [Int.toNat_natCast, hx]
  refine wpAny_bind (wpAny_rule (wpAny_bind (wpAny_setField hb hd (by simp) ?_))); show wpAny _ _ (newExc (.type "StopIteration") [] >>= _) _ _ _
  have g2 : ∃ o, (s.heap.update j (Obj.mapFields (·.setIfInBounds 0 .none))).get? j = some o := ⟨_, Heap.get?_update_self _ hb (Obj.isFreed_of_fields (Obj.data_mapFields hd _))⟩
  have eb : Heap.ExtBut j s.heap (s.heap.update j (Obj.mapFields (·.setIfInBounds 0 .none))) := (Heap.SameBut.update ..).extBut
  generalize s.heap.update j (Obj.mapFields (·.setIfInBounds 0 .none)) = h9 at *
  refine wpAny_bind ?_; simp only [newExc, newTuple]
  refine wpAny_bind (wpAny_newObj_type ?_ (by size_fits)); refine wpAny_bind (m := firstArgMember _ _) (wpAny_of_eq (a := Value.none) (by first | rfl | (simp only [firstArgMember]; rfl)) ?_)
  refine wpAny_newObj_type ?_ (by size_fits); simp only [raiseNew]
  refine wpAny_bind (wpAny_handled ?_); rw [show A.in1.handled = none from hh]
  refine wpAny_bind (wpAny_pure (wpAny_throw ?_)); refine wpAny_bind (wpAny_isInstance (T := "StopIteration") (b := true) ⟨_, Heap.get?_push_size _ rfl, rfl⟩ isSubtype_stop ?_)
  obtain ⟨o9, g9⟩ := g2
  exact wpAny_pure (q _ ((eb.push _).push _) ⟨o9, Heap.get?_push_of_some _ (Heap.get?_push_of_some _ g9)⟩)
end
section
variable {X : Cx} {pins : List (Addr × Obj)} {σ : L2.St}
/-- the list at q takes what the iterator at j gives -/
theorem tup_loop {A1 : Around} {q j t : Addr} {xs : List V} {Rs : Result → Shared → Prop} {H0 : Hp} (hh : A1.handled = none) (hjq : j ≠ q) (hz : xs.length ≤ 1000) (hT : SqT X.K H0 t xs) (nq : H0 q = none) (nj : H0 j = none)
    (done : ∀ H s, Inv X pins σ H s → (∀ b, b ≠ j → b ≠ q → H b = H0 b) → H q = some (.lst xs) → Rs (.ok (.ret .none)) s) :
    ∀ (k i : Nat) (H : Hp) (s : Shared), k + i = xs.length → Inv X pins σ H s → (∀ b, b ≠ j → b ≠ q → H b = H0 b) → H q = some (.lst (xs.take i)) → H j = some (ItT t j i) → codeAny (model X.prog X.w) A1 (.builtin "list.extend.loop" ⟨[.ref q, .ref j, .none], []⟩) Rs s := by
  intro k
  induction k with
  | zero =>
    intro i H s hk I hs hq hj
    refine codeAny_builtin PySem.F.entry_extend_loop ?_
    rw [Around.under_plainId PySem.F.plain_extend_loop _]
    show wpAny _ A1.in1 (pyNext (.ref j) >>= _) _ _ s
    have s0 : Same H0 H := fun b o e => by rw [hs b (fun z => by rw [z, nj] at e; cases e) (fun z => by rw [z, nq] at e; cases e)]; exact e
    obtain ⟨its, rv, p, _⟩ := I.tuple (Same.tup s0 hT)
    have hl := rv.length
    refine wpAny_bind (tup_last hh (I.hok j _ hj).1 (show s.heap.IsTuple t its.toArray from p) (by simp; omega) fun h2 eb ex => wpAny_pure ?_)
    have I2 := I.write (x := j) (e := j) (o := ItS j) (t' := s.toks) (by rw [hj]; trivial) (.inl rfl) (fun b o nb e => eb b o nb e) ex (itS_ok ex)
    refine done _ _ I2 (fun b h1 h2 => by rw [upd_ne h1]; exact hs b h1 h2) ?_
    rw [upd_ne hjq.symm, hq, List.take_of_length_le (by omega)]
  | succ k ih =>
    intro i H s hk I hs hq hj
    refine codeAny_builtin PySem.F.entry_extend_loop ?_
    rw [Around.under_plainId PySem.F.plain_extend_loop _]
    show wpAny _ A1.in1 (pyNext (.ref j) >>= _) _ _ s
    have s0 : Same H0 H := fun b o e => by rw [hs b (fun z => by rw [z, nj] at e; cases e) (fun z => by rw [z, nq] at e; cases e)]; exact e
    obtain ⟨its, rv, p, _⟩ := I.tuple (Same.tup s0 hT)
    have hl := rv.length
    have hx : xs[i]? = some (xs[i]'(by omega)) := List.getElem?_eq_getElem (by omega)
    obtain ⟨u, hu, ru⟩ := rv.get hx
    refine wpAny_bind (wpAny_pyNext_tuple_item (I.hok j _ hj).1 (show s.heap.IsTuple t its.toArray from p) (x := u) (by simpa using hu) fun h2 t2 sb => ?_)
    obtain ⟨o2, g2, _⟩ := id t2
    have I2 := I.write (x := j) (e := j) (o := ItT t j (i + 1)) (t' := s.toks) (by rw [hj]; trivial) (.inl rfl) (fun b o nb e => (sb.2 b nb).trans e) ⟨o2, g2⟩ (itT_ok t2)
    have hq2 : upd H j (ItT t j (i + 1)) q = some (.lst (xs.take i)) := by rw [upd_ne hjq.symm]; exact hq
    show wpAny _ A1.in1 (updateSeq q (·.push u) >>= _) _ _ _
    obtain ⟨z, is, c, r2, hl2, e⟩ := I2.lstM hq2
    have hl3 := r2.length
    rw [List.length_take] at hl3
    refine wpAny_bind (wpAny_updateSeq e rfl (wpAny_pure ⟨plainId_quiet PySem.F.plain_extend_loop _, ?_⟩) (by rw [List.size_toArray, sizeLine_eq]; omega) (by show (is.toArray.push u).size ≤ sizeLine + 1; rw [Array.size_push, List.size_toArray, sizeLine_eq]; omega))
    have I3 := I2.lset (f := (·.push u)) (its' := is ++ [u]) (ys := xs.take i ++ [xs[i]'(by omega)]) (t' := s.toks) hq2 e (by simp) (r2.append (.cons ru .nil)) (by rw [List.length_append, List.length_take, List.length_singleton, sizeLine_eq]; omega)
    refine ih (i + 1) _ _ (by omega) I3 (fun b h1 h2 => by rw [upd_ne h2, upd_ne h1]; exact hs b h1 h2) ?_ ?_
    · rw [upd_same, take_more hx]
    · rw [upd_ne hjq, upd_same]
end
end P5

end
section
set_option Elab.async false
set_option linter.all false
set_option maxRecDepth 100000
set_option maxHeartbeats 4000000
namespace P5
open PySem PySem.Spec PyProof.Rows L2
/-- __iter__ of a patch -/
def spPIter (K : PySem.W.Frag) (CP : Addr) : Sp := fun vs H Q _ => ∃ (p dx t : Addr) (cs : List V) (m : Nat), vs = [.ref p] ∧ H p = some (.ins CP dx (PtFs t m)) ∧ SqT K H t cs ∧ ∀ j, H j = none → Q (.ref j) (upd H j (ItT t j 0))
section
variable {X : Cx} {pins : List (Addr × Obj)} {σ : L2.St} {H : Hp} {s : Shared} {CP fi fl : Addr} {fdi fdl : FuncData} {k : Nat}
/-- the hint of a patch's length -/
theorem hint_pt {A : Around} {E : Value → Shared → Prop} {Q : Bool → Shared → Prop} {p : Addr} {C : List Ed} {m : Nat} (hln : PySem.W.findIn X.K (.ref CP) "__len__" = some (some (.ref fl))) (hlf : PySem.W.isFn X.K (.ref fl) = true) (FL : FnOk X.prog X.w X.K X.mg X.base CX0 k fl fdl ["self"] (spPLen X.K CP)) (bL : L2.Binds X.K fdl ["self"] [])
    (hr : Room k A.in1) (e0 : Env0 X.prog X.w X.K X.mg X.base A.in1 X.stack s H) (I : Inv X pins σ H s) (q1 : PtH X.K CP H p C m) (q : ∀ b s', Inv X pins σ H s' → Q b s') : wpAny (model X.prog X.w) A (Builtin.List.listLengthHint (.ref p)) Q E s := by
  obtain ⟨ox, od, J⟩ := insI_at I q1.ins
  obtain ⟨mm, hF⟩ := I.fr
  obtain ⟨dx, t, vs, hp, hT, hV, hO⟩ := id q1
  have hfew := hO.few
  unfold Builtin.List.listLengthHint
  refine wpAny_bind (wpAny_bind (J.type.here ((PySem.W.looks_findIn I.kIn hln).here ?_)))
  refine PySem.W.KFB.if_not rfl ?_
  refine PySem.W.KFB.if_so rfl ?_
  refine wpAny_bind (wpAny_rule ?_)
  refine wpAny_bind (wpAny_attempt (PySem.W.len_K hF I.ok.mod.kin J hln hlf ?_))
  refine wpAny_mono (call_own (us := [.ref p]) (vs := [.ref p]) (Q := fun v H' => v = .int C.length ∧ H' = H) FL hr bL I e0 (.cons rfl .nil) ⟨p, C, m, rfl, q1, rfl, rfl⟩) (fun z s' hz => ?_) fun _ _ e => e
  obtain ⟨v', H', I', rz, rfl, rfl⟩ := hz
  obtain ⟨t', rfl⟩ : ∃ t', z = Value.int C.length t' := rz
  refine ⟨⟨by omega, by omega⟩, ?_⟩
  have I2 : Inv X pins σ H' { s' with toks := s'.toks + 1 } := I'.tok _
  refine wpAny_bind (wpAny_of_eq (a := some (C.length : Int)) rfl ?_)
  refine PySem.W.KFB.if_not ?_ (wpAny_pure (q _ _ I2))
  show decide (((C.length : Int).toNat) > sizeLine) = false
  rw [sizeLine_eq]
  exact decide_eq_false (by omega)
/-- list(a patch) -/
theorem call_listP (hc : X.calm = true) (hit : PySem.W.findIn X.K (.ref CP) "__iter__" = some (some (.ref fi))) (hif : PySem.W.isFn X.K (.ref fi) = true) (FI : FnOk X.prog X.w X.K X.mg X.base CX0 k fi fdi ["self"] (spPIter X.K CP)) (bI : L2.Binds X.K fdi ["self"] [])
    (hln : PySem.W.findIn X.K (.ref CP) "__len__" = some (some (.ref fl))) (hlf : PySem.W.isFn X.K (.ref fl) = true) (FL : FnOk X.prog X.w X.K X.mg X.base CX0 k fl fdl ["self"] (spPLen X.K CP)) (bL : L2.Binds X.K fdl ["self"] [])
    (hr : Room (k + 3) X.A) : CallR X (.type "list") (rListP X.K CP) := by
  intro pins s σ H xs us Q I rv h
  obtain ⟨p, dx, t, vs, C, m, rfl, hp, hT, hV, hO, q⟩ := h
  obtain ⟨u, rfl, ru⟩ := rv.one
  cases ru
  have hfew := hO.few
  have hvl := hV.len
  refine callType_codes (Q₁ := fun y s1 => y = .ref s.heap.objs.size ∧ s1 = { s with heap := s.heap.push { cls := .type "list", data := .seq #[] } }) PySem.F.called_list (PySem.F.typeCall_list_1 _) PySem.F.entry_list_init (code_list_new _ ⟨rfl, rfl⟩) fun y s1 h1 => ?_
  obtain ⟨rfl, rfl⟩ := h1
  obtain ⟨S, eS⟩ : ∃ S, S = s.heap.objs.size := ⟨_, rfl⟩
  rw [← eS]
  have gS : (s.heap.push { cls := .type "list", data := .seq #[] }).get? S = some { cls := .type "list", data := .seq #[] } := by rw [eS]; exact Heap.get?_push_size _ rfl
  have nS : H S = none := by rw [eS]; exact I.hok.fresh (Nat.le_refl _)
  refine ⟨⟨_, gS, rfl⟩, PySem.F.args_list_init_2 _ _, ?_⟩
  have I1 : Inv X pins σ (upd H S (.lst [])) { s with heap := s.heap.push { cls := .type "list", data := .seq #[] } } := by rw [eS]; exact I.lnew (its := []) (t' := s.toks) .nil (Nat.zero_le _)
  show wpAny _ _ (do let old ← Builtin.List.listItems (.ref S); Builtin.List.listUpdate (.ref S) (fun _ => #[]); letGo old.toList.reverse; Builtin.List.listExtendWith (.ref S) (.ref p) .none) _ _ _
  refine wpAny_bind ?_
  unfold Builtin.List.listItems
  refine wpAny_bind (wpAny_seqItems gS rfl (wpAny_pure ?_)); show wpAny _ _ (updateSeq S (fun _ => #[]) >>= fun _ => letGo (#[] : Array Value).toList.reverse >>= fun _ => Builtin.List.listExtendWith (.ref S) (.ref p) .none) _ _ _
  refine wpAny_bind (wpAny_updateSeq gS rfl ?_)
  have I2 := I1.lset (f := fun _ => #[]) (its := []) (its' := []) (ys := []) (t' := s.toks) upd_same gS rfl .nil (Nat.zero_le _)
  rw [upd_upd] at I2
  refine wpAny_bind (wpAny_letGo ?_)
  have hp2 : upd H S (.lst []) p = some (.ins CP dx (PtFs t m)) := by rw [upd_ne (ne_of_none hp nS)]; exact hp
  have sS : Same H (upd H S (.lst [])) := Same.new nS _
  obtain ⟨ox, od, J⟩ := insI_at I2 ⟨dx, _, hp2⟩
  obtain ⟨mm, hF⟩ := I2.fr
  have hne : S ≠ p := (ne_of_none hp nS).symm
  unfold Builtin.List.listExtendWith
  refine wpAny_bind (J.type.here ?_)
  have b1 : Builtin.List.listSameRef (.ref S) (.ref p) = false := by simp [Builtin.List.listSameRef, hne]
  have b2 : (Value.ref CP == Value.type "list") = false := rfl
  have b3 : (Value.ref CP == Value.type "tuple") = false := rfl
  simp only [b1, b2, b3, Bool.or_false, Bool.false_eq_true, if_false]
  refine wpAny_bind (PySem.W.owit_iter hF I2.ok.mod.kin J hit hif ?_)
  refine wpAny_mono (call_own (us := [.ref p]) (vs := [.ref p]) (Q := fun v H' => ∃ j, v = .ref j ∧ upd H S (.lst []) j = none ∧ H' = upd (upd H S (.lst [])) j (ItT t j 0)) FI (hr.mono (by omega : k + 2 ≤ k + 3)).in1.in1 bI I2 I2.env0.in1.in1 (.cons rfl .nil) ⟨p, dx, t, vs, m, rfl, hp2, Same.tup sS hT, fun j hj => ⟨j, rfl, hj, rfl⟩⟩) (fun z s4 hz => ?_) fun _ _ e => e
  obtain ⟨v', H4, I4, rz, j, rfl, nj, rfl⟩ := hz
  obtain rfl : z = Value.ref j := rz
  have njS : j ≠ S := fun e => by rw [e, upd_same] at nj; cases nj
  have njH : H j = none := by rw [upd_ne njS] at nj; exact nj
  have tj : s4.heap.IsTupleIter j t 0 := (I4.hok j _ upd_same).1
  unfold PySem.W.OwitIt
  refine wpAny_specialOf (name := Str.ofString "__next__") tj.typeIs PySem.F.slot_tuple_iterator_next.lookup ?_
  refine wpAny_bind (wpAny_holding ?_)
  have S4 : Same (upd H S (.lst [])) (upd (upd H S (.lst [])) j (ItT t j 0)) := Same.new nj _
  have q4 : PtH X.K CP (upd (upd H S (.lst [])) j (ItT t j 0)) p C m := (show PtH X.K CP H p C m from ⟨dx, t, vs, hp, hT, hV, hO⟩).same (sS.trans S4)
  refine hint_pt hln hlf FL bL (hr.mono (Nat.le_refl _)).in1.in1.in1 I4.env0.in1.in1.in1 I4 q4 fun b s5 I5 => ?_
  have fin : ∀ H6 s6, Inv X pins σ H6 s6 → (∀ b, b ≠ j → b ≠ S → H6 b = H b) → H6 S = some (.lst vs) → wants (fun r s2 => r = Value.none ∧ EP X pins σ Q (Value.ref S) s2) X.xe (.ok (.ret .none)) s6 := fun H6 s6 I6 h6 g6 =>
    ⟨rfl, .ref S, H6, I6, rfl, q H6 S (fun c o e => by rw [h6 c (fun z => by rw [z, njH] at e; cases e) (fun z => by rw [z, nS] at e; cases e)]; exact e) nS g6⟩
  have loop : ∀ H6 s6, Inv X pins σ H6 s6 → (∀ b, b ≠ j → b ≠ S → H6 b = H b) → H6 S = some (.lst []) → H6 j = some (ItT t j 0) → codeAny (model X.prog X.w) X.A.in1 (.builtin "list.extend.loop" ⟨[.ref S, .ref j, .none], []⟩) (wants (fun r s2 => r = Value.none ∧ EP X pins σ Q (Value.ref S) s2) X.xe) s6 := fun H6 s6 I6 h6 g6 k6 =>
    tup_loop (A1 := X.A.in1) (I.ok.hd hc) njS (by omega) hT nS njH fin vs.length 0 H6 s6 rfl I6 h6 g6 k6
  have base : ∀ c, c ≠ j → c ≠ S → upd (upd H S (.lst [])) j (ItT t j 0) c = H c := fun c n1 n2 => by rw [upd_ne n1, upd_ne n2]
  have g4 : upd (upd H S (.lst [])) j (ItT t j 0) S = some (.lst []) := by rw [upd_ne njS.symm, upd_same]
  refine wpAny_ite_split (fun _ => ?_) (fun _ => wpAny_pure ⟨plainId_quiet PySem.F.plain_extend_loop _, loop _ _ I5 base g4 upd_same⟩)
  obtain ⟨z0, it0, k0, r0, l0, e0⟩ := I5.lstM g4
  cases r0
  refine wpAny_bind (wpAny_rule (wpAny_bind ?_))
  show wpAny _ _ (updateSeq S (·.push .none) >>= fun _ => updateSeq S (·.pop)) _ _ _
  refine wpAny_bind (wpAny_updateSeq e0 rfl ?_)
  have I6 := I5.lset (f := (·.push Value.none)) (its' := [Value.none]) (ys := [.non]) (t' := s5.toks) g4 e0 (by simp) (.cons rfl .nil) (by rw [List.length_singleton, sizeLine_eq]; decide)
  obtain ⟨z1, it1, k1, r1, l1, e1⟩ := I6.lstM upd_same
  obtain ⟨u1, rfl, ru1⟩ := r1.one
  refine wpAny_updateSeq e1 rfl ?_ (by show 1 ≤ sizeLine; rw [sizeLine_eq]; decide) (by show 0 ≤ sizeLine + 1; exact Nat.zero_le _)
  have I7 := I6.lset (f := (·.pop)) (its := [u1]) (its' := []) (ys := []) (t' := s5.toks) upd_same e1 (by rfl) .nil (Nat.zero_le _)
  exact wpAny_pure ⟨plainId_quiet PySem.F.plain_extend_loop _, loop _ _ I7 (fun c n1 n2 => by rw [upd_ne n2, upd_ne n2]; exact base c n1 n2) upd_same (by rw [upd_ne njS, upd_ne njS, upd_same])⟩
theorem call_iterT : CallR X (.builtin "iter") (fun xs H Q => ∃ (t : Addr) (zs : List V), xs = [.ref t] ∧ SqT X.K H t zs ∧ ∀ j, H j = none → Q (.ref j) (upd H j (ItT t j 0))) := by
  intro pins s σ H xs us Q I rv h
  obtain ⟨t, zs, rfl, hT, q⟩ := h
  obtain rfl := Vals.ref1 rv
  obtain ⟨its, _, g, _⟩ := I.tuple hT
  exact call_iter_tup (show s.heap.IsTuple t its.toArray from g) ⟨.ref s.heap.objs.size, _, I.laid (t' := s.toks) (fun b u e => Heap.get?_push_of_some _ e) (Nat.le_refl _) (itT_ok ⟨_, Heap.get?_push_size _ rfl, rfl, rfl⟩), rfl, q _ (I.hok.fresh (Nat.le_refl _))⟩
end
end P5

end
section
set_option Elab.async false
set_option linter.all false
set_option maxRecDepth 100000
set_option maxHeartbeats 4000000
namespace P5
open PySem PySem.Spec PySem.SeqAt PyProof.Rows L2
section
variable {P : Program} {w : World} {K : PySem.W.Frag} {mg : Str → Option Value} {base : Heap} {aN aS CE CP CB : Addr}
/-! ### growth_of, pieces_of -/
abbrev sGof : Stmt := tp 28
theorem scGof : FnScope ["change"] ["change"] (defScope sGof) := ⟨rfl, rfl, rfl, by decide +kernel, rfl, by decide +kernel, by decide +kernel⟩
def spGof (K : PySem.W.Frag) : Sp := fun vs H Q _ => ∃ (v : V) (e : Ed), vs = [v] ∧ ChV K H v e ∧ Q (.int (grow e)) H
theorem ok_gof {f : Addr} {fd : FuncData} (F : Fun K "growth_of" "growth_of" sGof f fd) (B : BN mg) : FnOk P w K mg base CX0 1 f fd ["change"] (spGof K) := by
  refine F.ok scGof (fun vs H Q E h => ?_) (fun cdv A outer s H vs Q E hr h => ?_)
  · obtain ⟨_, _, rfl, _⟩ := h
    rfl
  obtain ⟨_, e, rfl, ⟨x, t, rfl, hx, ht⟩, q⟩ := h
  refine ⟨_, pss_one (ps_ret (pe_op op_sub (pe_callB call_len_seq rfl B.len PySem.boot_len (pa_cons (pe_ix ix_tup (pv 0) pe_int (fun _ _ => rfl)) pa_nil))
    (pe_op op_sub (pe_ix ix_tup (pv 0) pe_int (fun _ _ => rfl)) (pe_ix ix_tup (pv 0) pe_int (fun _ _ => rfl))))), ?_⟩
  refine ⟨_, rfl, x, _, 2, .ref t, rfl, rfl, hx, rfl, t, _, rfl, .inr ht, ?_⟩
  refine ⟨_, rfl, x, _, 1, .int e.b, rfl, rfl, hx, rfl, _, rfl, x, _, 0, .int e.a, rfl, rfl, hx, rfl, _, _, rfl, rfl, _, _, rfl, rfl, ?_⟩
  rw [List.length_map]
  exact q
abbrev sPof : Stmt := tp 20
abbrev NPof : List Str := ["changes", "pieces", "at", "first", "last", "words"]
theorem scPof : FnScope NPof ["changes"] (defScope sPof) := ⟨rfl, rfl, rfl, by decide +kernel, rfl, by decide +kernel, by decide +kernel⟩
def spPof (K : PySem.W.Frag) : Sp := fun vs H Q _ => ∃ (t : Addr) (cv : List V) (C : List Ed), vs = [.ref t] ∧ SqT K H t cv ∧ ChsV K H cv C ∧ Apt false 0 C ∧ C.length ≤ 200 ∧
  ∀ H' l pv, Same H H' → H' l = some (.lst pv) → PcsV K H' pv (pcsC 0 C) → Q (.ref l) H'
theorem apt_at : ∀ {C : List Ed} {t : Bool} {s i : Nat} {e : Ed}, Apt t s C → C[i]? = some e → endC s (C.take i) ≤ e.a
  | _, _, _, 0, _, .cons h1 _ _ _ _, h => by
    cases h
    exact h1
  | _, _, _, i + 1, _, .cons (C := C) _ _ _ _ h5, h => by
    rw [List.take_succ_cons, endC_cons]
    exact apt_at (i := i) h5 (by simpa using h)
  | _, _, _, _, _, .nil, h => by simp at h
theorem endC_snoc (s : Nat) (C : List Ed) (e : Ed) : endC s (C ++ [e]) = e.b := by
  unfold endC
  rw [List.foldl_append]
  rfl
theorem pcsC_snoc : ∀ (C : List Ed) (s : Nat) (e : Ed), pcsC s (C ++ [e]) = (pcsC s C).dropLast ++ [.kp (endC s C) (some e.a), .pt e.ws, .kp e.b none]
  | [], s, e => rfl
  | d :: C, s, e => by
    have h : pcsC d.b C ≠ [] := by
      intro z
      have := pcsC_len C d.b
      rw [z] at this
      simp at this
    show .kp s (some d.a) :: .pt d.ws :: pcsC d.b (C ++ [e]) = (.kp s (some d.a) :: .pt d.ws :: pcsC d.b C).dropLast ++ _
    rw [pcsC_snoc C d.b e, List.dropLast_cons_of_ne_nil (by simp), List.dropLast_cons_of_ne_nil h]
    rfl
theorem pcsC_last : ∀ (C : List Ed) (s : Nat), pcsC s C = (pcsC s C).dropLast ++ [.kp (endC s C) none]
  | [], s => rfl
  | d :: C, s => by
    have h : pcsC d.b C ≠ [] := by
      intro z
      have := pcsC_len C d.b
      rw [z] at this
      simp at this
    show .kp s (some d.a) :: .pt d.ws :: pcsC d.b C = (.kp s (some d.a) :: .pt d.ws :: pcsC d.b C).dropLast ++ _
    rw [List.dropLast_cons_of_ne_nil (by simp), List.dropLast_cons_of_ne_nil h]
    have ih := pcsC_last C d.b
    rw [endC_cons]
    show .kp s (some d.a) :: .pt d.ws :: pcsC d.b C = .kp s (some d.a) :: .pt d.ws :: ((pcsC d.b C).dropLast ++ [.kp (endC d.b C) none])
    rw [← ih]
theorem ok_pof {f : Addr} {fd : FuncData} (F : Fun K "pieces_of" "pieces_of" sPof f fd) (B : BN mg) : FnOk P w K mg base CX0 1 f fd ["changes"] (spPof K) := by
  refine F.ok scPof (fun vs H Q E h => ?_) (fun cdv A outer s H vs Q E hr h => ?_)
  · obtain ⟨_, _, _, rfl, _⟩ := h
    rfl
  obtain ⟨t, cv, C, rfl, hT, hV, hA, hl, q⟩ := h
  refine ⟨_, pss_cons (ps_set (i := 1) scPof.nd rfl (Or.inl rfl) (pe_lst pa_nil)) (pss_cons (ps_set (i := 2) scPof.nd rfl (Or.inl rfl) pe_int)
    (pss_cons (ps_for PassesOwn.never rfl (pi_tup (pv 0)) (pg_tup rfl (pgs_cons (pg_name (i := 3) scPof.nd rfl (Or.inl rfl)) (pgs_cons (pg_name (i := 4) scPof.nd rfl (Or.inl rfl)) (pgs_cons (pg_name (i := 5) scPof.nd rfl (Or.inl rfl)) pgs_nil))))
      (pss_cons (ps_expr (pe_bm PySem.F.plainAttrs_list PySem.F.slot_list_append PySem.F.type_list_append mt_append (pv 1) (pa_cons (pe_tup (pa_cons (pv 2) (pa_cons (pv 3) (pa_cons (pe_tup pa_nil) pa_nil)))) pa_nil)))
      (pss_cons (ps_expr (pe_bm PySem.F.plainAttrs_list PySem.F.slot_list_append PySem.F.type_list_append mt_append (pv 1) (pa_cons (pe_tup (pa_cons pe_non (pa_cons pe_non (pa_cons (pv 5) pa_nil)))) pa_nil)))
      (pss_one (ps_set (i := 2) scPof.nd rfl (Or.inl rfl) (pv 4))))))
    (pss_one (ps_ret (pe_op op_cat (pv 1) (pe_lst (pa_cons (pe_tup (pa_cons (pv 2) (pa_cons pe_non (pa_cons (pe_tup pa_nil) pa_nil)))) pa_nil))))))), ?_⟩
  have sz : ∀ {n : Nat}, n ≤ 1000 → n ≤ sizeLine := fun h => small_le h
  have sz2 : ∀ {n : Nat}, n < 1000 → n < sizeLine := fun h => Nat.lt_of_lt_of_le h (small_le (Nat.le_refl _))
  have hlen : cv.length = C.length := hV.len
  refine ⟨by show 0 ≤ sizeLine; decide, fun F0 hF0 => ?_⟩
  have s0 := Same.new hF0 (.lst [])
  have hF00 : upd H F0 (.lst []) F0 = some (.lst []) := upd_same
  generalize upd H F0 (.lst []) = H0 at *
  refine ⟨_, rfl, t, rfl, ⟨_, Same.tup s0 hT⟩, ?_⟩
  refine for_tup (xs := cv) (fun i σ H' => Same H H' ∧ ∃ (dv : List V) (v3 v4 v5 : Option V), H' F0 = some (.lst dv) ∧ PcsV K H' dv (pcsC 0 (C.take i)).dropLast ∧ dv.length ≤ 2 * i ∧ σ = [some (.ref t), some (.ref F0), some (.int (endC 0 (C.take i))), v3, v4, v5])
    ⟨s0, [], none, none, none, hF00, by rw [List.take_zero]; trivial, Nat.le_refl _, rfl⟩ (fun i σ H' _ ⟨s, _⟩ => Same.tup s hT) ?_ ?_
  · rintro i x σ H1 hx ⟨s1, dv, v3, v4, v5, hF, hD, hDl, rfl⟩
    obtain ⟨e, hre, hch⟩ := hV.get hx
    obtain ⟨hil, _⟩ := kat_drop hre
    have hle := apt_at hA hre
    obtain ⟨a, tw, rfl, ha, htw⟩ := hch.imp (fun _ _ z => Same.tup s1 z)
    refine ⟨a, _, rfl, ha, rfl, _, _, rfl, _, _, rfl, _, _, rfl, rfl, ?_⟩
    refine ⟨_, rfl, .inl ⟨rfl, _, .inl (.inl hF)⟩, _, rfl, _, rfl, by show 0 ≤ sizeLine; decide, fun p1 h1 => ⟨by show 3 ≤ sizeLine; decide, fun p2 h2 => ?_⟩⟩
    have s2 := Same.new h1 (.tup [])
    have c1 : upd H1 p1 (.tup []) p1 = some (.tup []) := upd_same
    generalize upd H1 p1 (.tup []) = H2 at *
    have s3 := Same.new h2 (.tup [.int (endC 0 (C.take i)), .int e.a, .ref p1])
    have c2 : upd H2 p2 (.tup [.int (endC 0 (C.take i)), .int e.a, .ref p1]) p2 = some (.tup [.int (endC 0 (C.take i)), .int e.a, .ref p1]) := upd_same
    generalize upd H2 p2 (.tup [.int (endC 0 (C.take i)), .int e.a, .ref p1]) = H3 at *
    have s23 := s2.trans s3
    have hF3 := s23 _ _ hF
    have A3 : PcV K H3 (.ref p2) (.kp (endC 0 (C.take i)) (some e.a)) := ⟨p2, p1, rfl, SqT.of c2, SqT.of (s3 _ _ c1), fun b' e => by cases e; exact hle⟩
    refine ⟨F0, dv, _, rfl, rfl, hF3, sz2 (by omega), ?_⟩
    have hF4 : upd H3 F0 (.lst (dv ++ [.ref p2])) F0 = some (.lst (dv ++ [.ref p2])) := upd_same
    have hD4 : PcsV K (upd H3 F0 (.lst (dv ++ [.ref p2]))) (dv ++ [.ref p2]) ((pcsC 0 (C.take i)).dropLast ++ [.kp (endC 0 (C.take i)) (some e.a)]) := RelL.app (RelL.imp (fun _ _ z => PcV.put hF3 z) (hD.same s23)) (RelL.one (PcV.put hF3 A3))
    have s14 : Same H (upd H3 F0 (.lst (dv ++ [.ref p2]))) := same_put hF0 (s1.trans s23)
    have htw4 : SqT K (upd H3 F0 (.lst (dv ++ [.ref p2]))) tw (e.ws.map V.str) := SqT.put hF3 (Same.tup s23 htw)
    generalize upd H3 F0 (.lst (dv ++ [.ref p2])) = H4 at *
    refine ⟨_, rfl, .inl ⟨rfl, _, .inl (.inl hF4)⟩, _, rfl, by show 3 ≤ sizeLine; decide, fun p3 h3 => ?_⟩
    have s5 := Same.new h3 (.tup [.non, .non, .ref tw])
    have c3 : upd H4 p3 (.tup [.non, .non, .ref tw]) p3 = some (.tup [.non, .non, .ref tw]) := upd_same
    generalize upd H4 p3 (.tup [.non, .non, .ref tw]) = H5 at *
    have hF5 := s5 _ _ hF4
    have A5 : PcV K H5 (.ref p3) (.pt e.ws) := ⟨p3, tw, rfl, SqT.of c3, Same.tup s5 htw4⟩
    refine ⟨F0, _, _, rfl, rfl, hF5, sz2 (by rw [List.length_append, List.length_singleton]; omega), ?_⟩
    refine ⟨_, rfl, ?_⟩
    have et : C.take (i + 1) = C.take i ++ [e] := take_more hre
    refine ⟨same_put hF0 (s14.trans s5), _, some (.int e.a), some (.int e.b), some (.ref tw), upd_same, ?_, by simp only [List.length_append, List.length_singleton]; omega, ?_⟩
    · have z := RelL.app (RelL.imp (fun _ _ z => PcV.put (zs := dv ++ [.ref p2] ++ [.ref p3]) hF5 z) (hD4.same s5)) (RelL.one (PcV.put hF5 A5))
      rw [et, pcsC_snoc]
      have ez : ((pcsC 0 (C.take i)).dropLast ++ [Pc.kp (endC 0 (C.take i)) (some e.a), Pc.pt e.ws, Pc.kp e.b none]).dropLast = (pcsC 0 (C.take i)).dropLast ++ [Pc.kp (endC 0 (C.take i)) (some e.a)] ++ [Pc.pt e.ws] := by
        rw [List.dropLast_append_of_ne_nil (by simp)]
        simp
      rw [ez]
      exact z
    · rw [et, endC_snoc]
      rfl
  · rintro σ H1 ⟨s1, dv, v3, v4, v5, hF, hD, hDl, rfl⟩
    rw [List.take_of_length_le (by omega)] at hD
    refine ⟨_, rfl, _, rfl, by show 0 ≤ sizeLine; decide, fun p1 h1 => ⟨by show 3 ≤ sizeLine; decide, fun p2 h2 => ⟨by show 1 ≤ sizeLine; decide, fun p3 h3 => ?_⟩⟩⟩
    have ee : endC 0 (C.take cv.length) = endC 0 C := by rw [List.take_of_length_le (by omega)]
    have s2 := Same.new h1 (.tup [])
    have c1 : upd H1 p1 (.tup []) p1 = some (.tup []) := upd_same
    generalize upd H1 p1 (.tup []) = H2 at *
    have s3 := Same.new h2 (.tup [.int (endC 0 (C.take cv.length)), .non, .ref p1])
    have c2 : upd H2 p2 (.tup [.int (endC 0 (C.take cv.length)), .non, .ref p1]) p2 = some (.tup [.int (endC 0 (C.take cv.length)), .non, .ref p1]) := upd_same
    generalize upd H2 p2 (.tup [.int (endC 0 (C.take cv.length)), .non, .ref p1]) = H3 at *
    have s4 := Same.new h3 (.lst [.ref p2])
    have c3 : upd H3 p3 (.lst [.ref p2]) p3 = some (.lst [.ref p2]) := upd_same
    generalize upd H3 p3 (.lst [.ref p2]) = H4 at *
    have s24 := (s2.trans s3).trans s4
    rw [ee] at c2
    have A4 : PcV K H4 (.ref p2) (.kp (endC 0 C) none) := ⟨p2, p1, rfl, SqT.of (s4 _ _ c2), SqT.of ((s3.trans s4) _ _ c1), fun b' e => nomatch e⟩
    refine ⟨F0, p3, _, _, rfl, rfl, s24 _ _ hF, c3, sz (by rw [List.length_singleton]; omega), fun r hr => ?_⟩
    have s5 := Same.new hr (.lst (dv ++ [.ref p2]))
    refine q _ r _ ((s1.trans s24).trans s5) upd_same ?_
    rw [pcsC_last]
    exact RelL.app (hD.same (s24.trans s5)) (RelL.one (A4.same s5))
end
end P5

end
section
set_option Elab.async false
set_option linter.all false
set_option maxRecDepth 100000
set_option maxHeartbeats 4000000
namespace P5
open PySem PySem.Spec PySem.SeqAt PyProof.Rows L2
/-- what isinstance(x, C) asks of the class C, by name -/
structure RIn (K : PySem.W.Frag) (mg : Str → Option Value) (x : Str) (C : Addr) : Prop where
  g : mg x = some (.ref C)
  ha : PySem.W.findIn K (.ref C) "__class__" = some (some (.builtin "object.__class__"))
  hn : PySem.W.specialIn K (.builtin "object.__class__") "__get__" = some (some (.builtin "getset_descriptor.__get__"))
  ht : PySem.W.takesIn K (.builtin "object.__class__") = some true
  hm : PySem.W.mroIn K C (.type "object") = some true
  kit : PySem.W.kitOne K (.ref C) (.ref C) = some true
theorem tot_rev (C : List Ed) : tot C.reverse = tot C := by
  induction C with
  | nil => rfl
  | cons e C ih =>
    rw [List.reverse_cons, tot_app, ih]
    show tot C + (e.ws.length + 0) = e.ws.length + tot C
    omega
section
variable {P : Program} {w : World} {K : PySem.W.Frag} {mg : Str → Option Value} {base : Heap} {aN aS CE CP CB : Addr}
abbrev sPLen : Stmt := inClass (tp 26) 2
theorem scPLen : FnScope ["self"] ["self"] (defScope sPLen) := ⟨rfl, rfl, rfl, by decide +kernel, rfl, by decide +kernel, by decide +kernel⟩
theorem ok_plen {f : Addr} {fd : FuncData} (F : Fun K "__len__" "Patch.__len__" sPLen f fd) (B : BN mg) (EP : PC K CP) : FnOk P w K mg base CX0 1 f fd ["self"] (spPLen K CP) := by
  refine F.ok scPLen (fun vs H Q E h => ?_) (fun cdv A outer s H vs Q E hr h => ?_)
  · obtain ⟨_, _, _, rfl, _⟩ := h
    rfl
  obtain ⟨p, C, m, rfl, ⟨dx, t, vs, hp, hT, hV, hO⟩, q⟩ := h
  refine ⟨_, pss_one (ps_ret (pe_callB call_len_seq rfl B.len PySem.boot_len (pa_cons (pe_fld (pv 0) rfl) pa_nil))), ?_⟩
  refine ⟨_, rfl, p, CP, dx, _, .ref t, rfl, hp, EP.cl, EP.nC, rfl, t, _, rfl, .inr hT, ?_⟩
  rw [hV.len]
  exact q
abbrev sPBool : Stmt := inClass (tp 26) 4
theorem scPBool : FnScope ["self"] ["self"] (defScope sPBool) := ⟨rfl, rfl, rfl, by decide +kernel, rfl, by decide +kernel, by decide +kernel⟩
theorem ok_pbool {f : Addr} {fd : FuncData} (F : Fun K "__bool__" "Patch.__bool__" sPBool f fd) (mB : mg "bool" = none) (EP : PC K CP) : FnOk P w K mg base CX0 1 f fd ["self"] (spPBool K CP) := by
  refine F.ok scPBool (fun vs H Q E h => ?_) (fun cdv A outer s H vs Q E hr h => ?_)
  · obtain ⟨_, _, _, rfl, _⟩ := h
    rfl
  obtain ⟨p, C, m, rfl, ⟨dx, t, vs, hp, hT, hV, hO⟩, q⟩ := h
  refine ⟨_, pss_one (ps_ret (pe_callTy call_boolT rfl mB (by decide +kernel) (pa_cons (pe_fld (pv 0) rfl) pa_nil))), ?_⟩
  have hl := hV.len
  have hf := hO.few
  refine ⟨_, rfl, p, CP, dx, _, .ref t, rfl, hp, EP.cl, EP.nC, rfl, t, _, rfl, hT, by omega, ?_⟩
  have e : (!vs.isEmpty) = !C.isEmpty := by
    cases vs with
    | nil =>
      cases C with
      | nil => rfl
      | cons _ _ => simp at hl
    | cons _ _ =>
      cases C with
      | nil => simp at hl
      | cons _ _ => rfl
  rw [e]
  exact q
abbrev sPIter : Stmt := inClass (tp 26) 3
theorem scPIter : FnScope ["self"] ["self"] (defScope sPIter) := ⟨rfl, rfl, rfl, by decide +kernel, rfl, by decide +kernel, by decide +kernel⟩
theorem ok_piter {f : Addr} {fd : FuncData} (F : Fun K "__iter__" "Patch.__iter__" sPIter f fd) (mI : mg "iter" = none) (EP : PC K CP) : FnOk P w K mg base CX0 1 f fd ["self"] (spPIter K CP) := by
  refine F.ok scPIter (fun vs H Q E h => ?_) (fun cdv A outer s H vs Q E hr h => ?_)
  · obtain ⟨_, _, _, _, _, rfl, _⟩ := h
    rfl
  obtain ⟨p, dx, t, cs, m, rfl, hp, hT, q⟩ := h
  refine ⟨_, pss_one (ps_ret (pe_callB call_iterT rfl mI (by decide +kernel) (pa_cons (pe_fld (pv 0) rfl) pa_nil))), ?_⟩
  exact ⟨_, rfl, p, CP, dx, _, .ref t, rfl, hp, EP.cl, EP.nC, rfl, t, cs, rfl, hT, q⟩
abbrev sPEq : Stmt := inClass (tp 26) 1
theorem scPEq : FnScope ["self", "other"] ["self", "other"] (defScope sPEq) := ⟨rfl, rfl, rfl, by decide +kernel, rfl, by decide +kernel, by decide +kernel⟩
theorem eq_end {C D : List Ed} {m k : Nat} {Q : VK} {H : Hp} (q : Q (.bl (decide (C = D ∧ m = k))) H) : Q (.bl (if decide (C = D) = true then decide (V.int m = V.int k) else false)) H := by
  have e : (if decide (C = D) = true then decide (V.int m = V.int k) else false) = decide (C = D ∧ m = k) := by
    by_cases h : C = D
    · rw [decide_eq_true h, if_pos rfl]
      by_cases h2 : m = k
      · rw [decide_eq_true (by rw [h2]), decide_eq_true ⟨h, h2⟩]
      · rw [decide_eq_false (fun z => h2 (by have := V.int.inj z; omega)), decide_eq_false fun z => h2 z.2]
    · rw [decide_eq_false h, if_neg Bool.false_ne_true, decide_eq_false fun z => h z.1]
  rw [e]
  exact q
theorem ok_peq {f : Addr} {fd : FuncData} (F : Fun K "__eq__" "Patch.__eq__" sPEq f fd) (B : BN mg) (EP : PC K CP) (R : RIn K mg "Patch" CP) : FnOk P w K mg base CX0 1 f fd ["self", "other"] (spPEq K CP) := by
  refine F.ok scPEq (fun vs H Q E h => ?_) (fun cdv A outer s H vs Q E hr h => ?_)
  · obtain ⟨_, _, _, _, _, _, rfl, _⟩ := h
    rfl
  obtain ⟨p, p2, C, D, m, k, rfl, ⟨dx, t, vs, hp, hT, hV, hO⟩, ⟨dx2, t2, vs2, hp2, hT2, hV2, hO2⟩, q⟩ := h
  refine ⟨_, pss_cons (ps_if (pt_not (pt_val (pe_callB call_isi rfl B.isi (by decide +kernel) (pa_cons (pv 1) (pa_cons (pgl R.g) pa_nil))))) (pss_one ps_never) pss_nil)
    (pss_one (ps_ret (pe_and (pe_cmpR (op_eqD (hu64 hr)) (pe_fld (pv 0) rfl) (pe_fld (pv 1) rfl) (nomark _)) (pe_one (pe_cmpR op_eq (pe_fld (pv 0) rfl) (pe_fld (pv 1) rfl) (nomark _)))))), ?_⟩
  refine ⟨_, rfl, .ref p2, .ref CP, .ref CP, .ref CP, true, rfl, .own _, .base (.ins hp2 EP.cl R.ha R.hn R.ht R.hm), R.kit, _, rfl, iteF ?_⟩
  refine ⟨_, rfl, p, CP, dx, _, .ref t, rfl, hp, EP.cl, EP.nC, rfl, _, rfl, p2, CP, dx2, _, .ref t2, rfl, hp2, EP.cl, EP.nC, rfl, .tuple (C.map chD), .tuple (D.map chD), .tup hT (dp_chs hV), .tup hT2 (dp_chs hV2), shaped_chsT hO.ok, shaped_chsT hO2.ok, _, rfl, ?_⟩
  rw [show PyData.eqv (.tuple (C.map chD)) (.tuple (D.map chD)) = decide (C = D) from eqv_chs C D]
  by_cases h : C = D
  · refine iteTT (decide_eq_true h) ⟨_, rfl, p, CP, dx, _, .int m, rfl, hp, EP.cl, EP.nL, rfl, _, rfl, p2, CP, dx2, _, .int k, rfl, hp2, EP.cl, EP.nL, rfl, rfl, ?_⟩
    have z := eq_end (Q := Q) (H := H) q
    rw [if_pos (decide_eq_true h)] at z
    exact z
  · refine iteFF (decide_eq_false h) ?_
    have z := eq_end (Q := Q) (H := H) q
    rw [if_neg (by rw [decide_eq_false h]; exact Bool.false_ne_true)] at z
    exact z
abbrev sPGrow : Stmt := inClass (tp 26) 6
theorem scPGrow : FnScope ["self", "change"] ["self"] (defScope sPGrow) := ⟨rfl, rfl, rfl, by decide +kernel, rfl, by decide +kernel, by decide +kernel⟩
theorem ok_pgrow {f f1 : Addr} {fd fd1 : FuncData} (F : Fun K "growth" "Patch.growth" sPGrow f fd) (B : BN mg) (EP : PC K CP)
    (G1 : FnOk P w K mg base CX0 1 f1 fd1 ["change"] (spGof K)) (b1 : Binds K fd1 ["change"] []) (k1 : PySem.W.keepIn K (.ref f1) = true) (m1 : mg "growth_of" = some (.ref f1)) : FnOk P w K mg base CX0 2 f fd ["self"] (spPGrow K CP) := by
  refine F.ok scPGrow (fun vs H Q E h => ?_) (fun cdv A outer s H vs Q E hr h => ?_)
  · obtain ⟨_, _, _, rfl, _⟩ := h
    rfl
  obtain ⟨p, C, m, rfl, ⟨dx, t, vs, hp, hT, hV, hO⟩, q⟩ := h
  refine ⟨_, pss_one (ps_ret (pe_callB (cr_sum rfl) rfl B.sum (by decide +kernel) (pa_cons (pe_lc (own := [("change", 1)]) (g := gName 1) rfl scPGrow.nd (pi_tup (pe_fld (pv 0) rfl))
      (blkOk_by (N := ["self", "change"]) (sc := defScope sPGrow) (by decide +kernel)) (fun _ _ _ _ _ => pg_name (i := 1) scPGrow.nd rfl (Or.inl rfl)) (fun _ _ _ _ _ => pts_nil)
      (fun _ _ _ _ _ => pe_call G1 hr rfl m1 k1 b1 .nil pass0 (pa_cons (pv 1) pa_nil))) pa_nil))), ?_⟩
  have hl : vs.length = C.length := hV.len
  have hf := hO.few
  refine ⟨_, rfl, p, CP, dx, _, .ref t, rfl, hp, EP.cl, EP.nC, rfl, t, rfl, ⟨_, hT⟩, fun L hL => lcT ((C.map grow).map V.int) (by rw [List.length_map, List.length_map]; exact hl.symm) (by omega) hT hL (fun i y x H' Q' hx hy s k => ?_) fun H2 s2 hL2 => ?_⟩
  · obtain ⟨e, hre, hch⟩ := hV.get hx
    rw [List.getElem?_map, List.getElem?_map, hre] at hy
    cases hy
    exact ⟨rfl, _, rfl, x, e, rfl, ChV.same s hch, k H' (Same.refl _)⟩
  · exact ⟨L, C.map grow, rfl, SqL.of hL2, q H2 s2⟩
abbrev sPEds : Stmt := inClass (tp 26) 7
theorem scPEds : FnScope ["self", "first", "last", "words"] ["self"] (defScope sPEds) := ⟨rfl, rfl, rfl, by decide +kernel, rfl, by decide +kernel, by decide +kernel⟩
theorem ok_peds {f fI : Addr} {fd fdI : FuncData} (F : Fun K "edits" "Patch.edits" sPEds f fd) (EP : PC K CP) (J : MkE P w K mg base CE fI fdI) : FnOk P w K mg base CX0 6 f fd ["self"] (spPEds K CE CP) := by
  refine F.ok scPEds (fun vs H Q E h => ?_) (fun cdv A outer s H vs Q E hr h => ?_)
  · obtain ⟨_, _, _, rfl, _⟩ := h
    rfl
  obtain ⟨p, C, m, rfl, ⟨dx, t, vs, hp, hT, hV, hO⟩, q⟩ := h
  refine ⟨_, pss_one (ps_ret (pe_lc (own := [("first", 1), ("last", 2), ("words", 3)]) (g := gTup K 3 (gCons (gName 1) (gCons (gName 2) (gCons (gName 3) gNil)))) rfl scPEds.nd (pi_tup (pe_revT (pe_fld (pv 0) rfl)))
      (blkOk_by (N := ["self", "first", "last", "words"]) (sc := defScope sPEds) (by decide +kernel))
      (fun _ _ _ _ _ => pg_tup rfl (pgs_cons (pg_name (i := 1) scPEds.nd rfl (Or.inl rfl)) (pgs_cons (pg_name (i := 2) scPEds.nd rfl (Or.inl rfl)) (pgs_cons (pg_name (i := 3) scPEds.nd rfl (Or.inl rfl)) pgs_nil)))) (fun _ _ _ _ _ => pts_nil)
      (fun _ _ _ _ _ => pe_make (E := E0) J.M J.F hr rfl J.m J.b .nil pass0 (pa_cons (pv 1) (pa_cons (pv 2) (pa_cons (pv 3) pa_nil)))))), ?_⟩
  have hl : vs.length = C.length := hV.len
  have hf := hO.few
  have hR : RelL (ChV K H) vs.reverse C.reverse := RelL.rev (chs_rel.mp hV)
  refine ⟨_, rfl, p, CP, dx, _, .ref t, rfl, hp, EP.cl, EP.nC, rfl, t, vs, rfl, hT, fun r hr1 => ?_⟩
  have s1 := Same.new hr1 (.tup vs.reverse)
  have c1 : upd H r (.tup vs.reverse) r = some (.tup vs.reverse) := upd_same
  generalize upd H r (.tup vs.reverse) = H1 at *
  refine ⟨r, rfl, ⟨_, SqT.of c1⟩, fun L hL => ?_⟩
  have hLH : H L = none := fresh_of s1 hL
  refine lc_inv C.length (by omega) (fun i acc H' => Same H H' ∧ H' r = some (.tup vs.reverse) ∧ ∃ cs : List Addr, acc = cs.map V.ref ∧ EdsH K CE H' cs (C.reverse.take i))
    ⟨same_put hLH s1, by rw [upd_ne (ne_of_none c1 hL)]; exact c1, [], rfl, trivial⟩ (fun i acc H5 Ny Nx hi hacc ⟨a5, r5, cs, ea, hE⟩ qy qx => ?_) (fun acc H5 hacc ⟨a5, r5, cs, ea, hE⟩ => ?_)
  · have hi2 : i < vs.reverse.length := by rw [List.length_reverse]; omega
    refine ⟨⟨vs.reverse, vs.reverse[i], SqT.of r5, List.getElem?_eq_getElem hi2⟩, fun x H6 yl => ?_⟩
    obtain ⟨e6, hx⟩ := yl
    subst e6
    have hx := hx _ (SqT.of r5)
    obtain ⟨e, hre, hch⟩ := hR.get hx
    obtain ⟨a, tw, rfl, ha, htw⟩ := ChV.same a5 hch
    refine ⟨a, _, rfl, ha, rfl, _, _, rfl, _, _, rfl, _, _, rfl, rfl, rfl, _, rfl, ?_⟩
    refine ⟨_, rfl, _, rfl, mk_edV (Q := fun x H2 => Ny (.ref x) H2) rfl rfl (.inr htw) (hO.ok e (List.mem_reverse.mp (List.mem_of_getElem? hre))) fun H7 y s7 hy hE7 => ?_⟩
    have hacc7 := s7 _ _ hacc
    refine qy _ _ hacc7 ⟨same_put hLH (a5.trans s7), by rw [upd_ne (ne_of_none c1 hL)]; exact s7 _ _ r5, cs ++ [y], by rw [ea, List.map_append]; rfl, ?_⟩
    rw [take_more hre]
    exact EdsH.snoc (hE7.put hacc7) ((hE.imp fun _ _ z => z.same s7).imp fun _ _ z => z.put hacc7)
  · refine ⟨⟨vs.reverse, SqT.of r5, by rw [List.length_reverse]; omega⟩, ?_⟩
    rw [List.take_of_length_le (by rw [List.length_reverse]; exact Nat.le_refl _)] at hE
    subst ea
    refine q H5 L cs _ a5 hLH hacc hE List.length_reverse (tot_rev C) (rev_fits hO.apt hO.fin) fun x hx => ?_
    exact rev_ok hO.apt [] x rfl (by have := hO.fin; omega)
end
end P5

end
section
set_option Elab.async false
set_option linter.all false
set_option maxRecDepth 100000
set_option maxHeartbeats 4000000
/-! list comprehensions while an exception is handled -/
namespace HL
open PySem PySem.Spec PyProof.Rows L2 HotX L2H
/-- a block's context that bears the handled exception -/
abbrev blkH (X : Cx) (s : Shared) (H : Hp) (scope : Scope) (ce : Env) (fp : List Addr) (q : Addr × Obj) : Cx := { X.blk s H scope ce fp with pn := [q] }
section
variable {X : Cx} {pins : List (Addr × Obj)} {σ : L2.St} {H : Hp} {s : Shared}
theorem bear {q : Addr × Obj} (I : Inv X [] σ H s) (h : s.heap.get? q.1 = some q.2 ∧ H q.1 = none ∧ q.1 ≠ X.env.locals ∧ q.1 ∉ X.fs ∧ ∀ v, q.2.data ≠ .cell v) : Inv { X with pn := [q] } [] σ H s :=
  ⟨⟨I.ok.mod, I.ok.kind, I.ok.glob, I.ok.blt, I.ok.above, I.ok.inj, I.ok.has, I.ok.cab, I.ok.hd, I.ok.frames, I.ok.stk, I.ok.exf, I.ok.bs, I.ok.bsz, I.ok.noex, I.ok.exfs, I.ok.funs, I.ok.frf⟩,
    I.os, I.bare, I.base, I.loc, I.cell, I.free, I.freeC, fun p hp => by
      have e : p = q := by simpa using hp
      rw [e]
      exact h, I.hok, I.len⟩
/-- [elt for tg in iter], an exception handled -/
theorem pe_lcH {elt tg iter : Expr} {scope : Scope} {own : List (Str × Nat)} {pos : Pos} {wi : TI} {g : TG} {te : TE} (hot : HotC X) (hN : X.N.Nodup) (hi : PIH X tg iter wi) (ok : BlkOk X.N X.env.scope scope own)
    (hg : ∀ (s : Shared) (H : Hp) (C : Addr) (cl : List (Str × Addr)) (fp : List Addr) (q : Addr × Obj), HotC (blkH X s H scope (compEnvC scope cl C X.env) fp q) → PG (blkH X s H scope (compEnvC scope cl C X.env) fp q) tg g)
    (he : ∀ (s : Shared) (H : Hp) (C : Addr) (cl : List (Str × Addr)) (fp : List Addr) (q : Addr × Obj), HotC (blkH X s H scope (compEnvC scope cl C X.env) fp q) → PE (blkH X s H scope (compEnvC scope cl C X.env) fp q) elt te)
    (hs : ∀ x, foldedSetIterable iter X.env x = pure x := by intro _; rfl) : PE X (.ListComp elt [⟨tg, iter, [], 0⟩] scope pos) (tLc wi g tYes te (own.map (·.2))) := by
  refine ⟨fun pins s σ H Q I h => ?_⟩
  obtain ⟨q, hq, hqm⟩ := hot
  rw [eval_ListComp]
  have fr : ∀ y ∈ scope.names, y.2 = .free → ∃ c, X.env.cells.lookup y.1 = some c := fun y hy e => I.ok.has _ (ok.free y hy e)
  refine wpAny_comprehension_free rfl hs (closure_ok fr) ok.kind (fun y hy e => by rw [ok.uniq y hy, e]) (thn (hi.run pins s σ H _ I h) fun _ s1 hx => thn hx fun _ s2 h2 => ?_)
  obtain ⟨j, fp, tn, J, G, rfl, I2, T, t2, f2, w⟩ := h2
  refine wpAny_newObj_type (newEnv_comp ?_) (by show 0 ≤ sizeLine; decide)
  obtain ⟨D, hD⟩ : ∃ D, D = s2.heap.objs.size := ⟨_, rfl⟩
  rw [← hD]
  obtain ⟨W, ⟨m0, w0⟩, turn⟩ := w D (I2.hok.fresh (Nat.le_of_eq hD.symm))
  -- the list made
  have I3 : Inv X pins σ (upd G D (.lst [])) { s2 with heap := s2.heap.push { cls := .type "list", data := .seq ([] : List Value).toArray } } :=
    I2.laid (t' := s2.toks) (fun b o e => Heap.get?_push_of_some _ e) (Nat.le_of_eq hD.symm) ⟨Nat.zero_le _, [], 0, .nil, by rw [hD]; exact Heap.get?_push_size _ rfl⟩
  have lt2 : ∀ b ∈ fp, b < s2.heap.objs.size := fun b hb => let ⟨o, e, _⟩ := T.obj _ _ t2 b hb; Heap.lt_size e
  have f3 : ∀ b ∈ fp, FpOk X pins (upd G D (.lst [])) b := fun b hb => ⟨by rw [upd_ne (by rw [hD]; exact Nat.ne_of_lt (lt2 b hb))]; exact (f2 b hb).1, (f2 b hb).2⟩
  have t3 := T.keep _ _ (s2.heap.push { cls := .type "list", data := .seq ([] : List Value).toArray }) t2 fun b _ o e => Heap.get?_push_of_some _ e
  have lt3 : ∀ b ∈ fp, b < (s2.heap.push { cls := .type "list", data := .seq ([] : List Value).toArray }).objs.size := fun b hb => by rw [Heap.size_push]; exact Nat.lt_succ_of_lt (lt2 b hb)
  generalize hz : ({ s2 with heap := s2.heap.push { cls := .type "list", data := .seq ([] : List Value).toArray } } : Shared) = z at *
  have zh : s2.heap.push { cls := .type "list", data := .seq ([] : List Value).toArray } = z.heap := by rw [← hz]
  rw [zh] at t3 lt3
  generalize upd G D (.lst []) = G3 at *
  have I4 := block_start I3 ok hN (fun b hb => ⟨f3 b hb, lt3 b hb⟩)
  have P3 := I3.pin q (List.mem_append_left _ hqm)
  -- the block
  have kk : ∀ c o, z.heap.get? c = some o → (pushCells (z.heap.push { cls := .type "dict", data := .dict #[] }) scope.names).get? c = some o := fun c o e => pushCells_keeps _ _ _ _ (Heap.get?_push_of_some _ e)
  have I5 := bear (q := q) I4 ⟨kk _ _ P3.1, P3.2.1, Nat.ne_of_lt (Heap.lt_size P3.1), fun hm => (List.mem_cons.mp (I3.stkSub q.1 hm)).elim P3.2.2.1 P3.2.2.2.1, P3.2.2.2.2⟩
  have t4 := T.keep _ _ _ t3 fun c _ o e => kk c o e
  have hb0 : HotC (blkH X z G3 scope (compEnvC scope (cellsFrom (z.heap.objs.size + 1) scope.names (cloFrom X.env.cells scope.names [])) z.heap.objs.size X.env) fp q) := ⟨q, hq, List.mem_cons_self⟩
  have gG := hg z G3 z.heap.objs.size (cellsFrom (z.heap.objs.size + 1) scope.names (cloFrom X.env.cells scope.names [])) fp q hb0
  have gE := he z G3 z.heap.objs.size (cellsFrom (z.heap.objs.size + 1) scope.names (cloFrom X.env.cells scope.names [])) fp q hb0
  show codeAny _ _ (.compStart (.ListComp elt [⟨tg, iter, [], 0⟩] scope pos) 0 (.ref j) (.ref D) (compEnvC scope (cellsFrom (z.heap.objs.size + 1) scope.names (cloFrom X.env.cells scope.names [])) z.heap.objs.size X.env)) (compPost (model X.prog X.w) X.A X.xe none _ (.ref D) z.heap.objs.size) { z with heap := pushCells (z.heap.push { cls := .type "dict", data := .dict #[] }) scope.names }
  generalize hce : compEnvC scope (cellsFrom (z.heap.objs.size + 1) scope.names (cloFrom X.env.cells scope.names [])) z.heap.objs.size X.env = ce at *
  have cL : ce.locals = z.heap.objs.size := by subst hce; rfl
  have stat : ∀ {H' : Hp}, (∀ b ∈ fp, H' b = none) → ∀ b ∈ fp, FpOk (blkH X z G3 scope ce fp q) [] H' b := fun hn b hb =>
    ⟨hn b hb, (I5.ok.exf b hb).1, I5.ok.exfs b hb, .inl hb, fun x c e => (I5.ok.exf b hb).2 x c e, fun p hp => by
      have e : p = q := by simpa using hp
      rw [e]
      exact (f3 b hb).2.2.2.2.2 q (List.mem_append_left _ hqm)⟩
  have loop : codeAny (model X.prog X.w) X.A (.compLoop (.ListComp elt [⟨tg, iter, [], 0⟩] scope pos) 0 (.ref j) (.ref D) ce) (compPost (model X.prog X.w) X.A X.xe none (EP X pins σ Q) (.ref D) z.heap.objs.size) { z with heap := pushCells (z.heap.push { cls := .type "dict", data := .dict #[] }) scope.names } := by
    refine compLoop_any (fun n s' => ∃ i H', Inv (blkH X z G3 scope ce fp q) [] (wipe σ (own.map (·.2))) H' s' ∧ tn i s'.heap ∧ (∀ b ∈ fp, H' b = none) ∧ W i n H') ?_ m0 ⟨0, G3, I5, t4, fun b hb => (f3 b hb).1, w0⟩
    rintro n s5 ⟨i, H5, J5, t5, n5, w5⟩
    rcases turn i n H5 w5 with ⟨st, qq⟩ | ⟨go, Nx, hNx, step⟩
    · refine thnF (T.done (blkH X z G3 scope ce fp q) rfl rfl rfl hb0 i [] s5 _ H5 (fun _ _ => False) J5 (stat n5) t5 st) fun r s6 z6 => ?_
      obtain ⟨rfl, J6⟩ := z6
      have I7 : Inv X pins σ H5 s6 := I3.call' (ch := fp) J6.os J6.base J6.hok J6.bare fun b hb => ⟨(f3 b hb).2.2.2.1, (f3 b hb).2.1, (f3 b hb).2.2.2.2.1, (f3 b hb).2.2.2.2.2⟩
      have nC : H5 ce.locals = none := J6.free
      obtain ⟨m, hn, _⟩ := J6.loc
      have hn : s6.heap.Ns ce.locals m := hn
      rw [cL] at nC hn
      obtain ⟨u0, u1, u2, u3, u4, u5⟩ := I3.fpOk (Nat.le_refl _) nC
      exact ⟨m, hn, fun h6 sb => ⟨.ref D, H5, I7.turned (t' := s6.toks) (fun b o nb e => (sb.2 b nb).trans e) u0 u1 u3 u4 u5, rfl, qq⟩⟩
    · refine thnF (T.item (blkH X z G3 scope ce fp q) rfl rfl rfl hb0 i [] s5 _ H5 (fun _ _ => False) J5 (stat n5) t5 go) fun r s6 z6 => ?_
      obtain ⟨u, rfl, h6⟩ := z6
      refine thnF h6 fun _ s7 z7 => ?_
      obtain ⟨x, H7, J7, r7, y7, t7, n7⟩ := z7
      have J7' := J7.pinned (stat n7) (T.obj _ _ t7)
      refine thnF (gG.run _ s7 _ H7 x u _ J7' r7 (step x H7 y7)) fun _ s8 z8 => ?_
      obtain ⟨σ8, H8, J8, e8, q8⟩ := z8
      refine thnF ((pts_nil (X := blkH X z G3 scope ce fp q)).run _ s8 σ8 H8 _ J8 q8) fun b s9 z9 => ?_
      obtain ⟨H9, J9, q9⟩ := z9
      have last : ∀ {s' : Shared} {H' : Hp}, Inv (blkH X z G3 scope ce fp q) ([] ++ pinsAt fp s7.heap) σ8 H' s' → Nx H' → ∃ m, m < n ∧ ∃ i H', Inv (blkH X z G3 scope ce fp q) [] (wipe σ (own.map (·.2))) H' s' ∧ tn i s'.heap ∧ (∀ b ∈ fp, H' b = none) ∧ W i m H' := fun {s' H'} J' nx => by
        obtain ⟨m1, l1, w1⟩ := hNx H' nx
        have pp : ∀ b ∈ fp, ∀ o, s7.heap.get? b = some o → s'.heap.get? b = some o ∧ H' b = none := fun b hb o e =>
          have y := J'.pin (b, o) (List.mem_append_right _ (List.mem_append_right _ (mem_pinsAt hb e)))
          ⟨y.1, y.2.1⟩
        refine ⟨m1, l1, i + 1, H', (J'.unpinned (pins := [])).weak (by rw [← e8, wipe_length]) (fun k v e => by rw [← e8] at e; exact (wipe_some e).1), T.keep _ _ _ t7 fun b hb o e => (pp b hb o e).1, fun b hb => ?_, w1⟩
        obtain ⟨o, e, _⟩ := T.obj _ _ t7 b hb
        exact (pp b hb o e).2
      cases b with
      | false => simp only [Bool.false_eq_true, if_false] at q9 ⊢; exact last J9 q9
      | true =>
        simp only [if_true] at q9 ⊢
        refine thnF (gE.run _ s9 σ8 H9 _ J9 q9) fun v s10 z10 => ?_
        obtain ⟨yv, H10, J10, r10, acc, hD10, l10, nx⟩ := z10
        exact app_ok (X := blkH X z G3 scope ce fp q) J10 hD10 l10 r10 fun s11 J11 => last J11 nx
  exact codeAny_compStart_list loop (T.self X.A 0 _ _ _ t4 loop)
end
end HL

end
section
set_option Elab.async false
set_option linter.all false
set_option maxRecDepth 100000
set_option maxHeartbeats 4000000
/-! loops over texts, and all(list), while an exception is handled -/
namespace HL
open PySem PySem.Spec PyProof.Rows L2 HotX L2H
section
variable {prog : Program} {w : World} {A : Around} {E : Value → Shared → Prop} {s : Shared}
theorem asc_end {j x1 : Addr} {z : Str} {t : Tok} {i : Nat} {Q : Option Value → Shared → Prop} (hot : HotAt A x1 s.heap) (hj : s.heap.IsStrIter j "str_ascii_iterator" z t i) (hx : z.cps[i]? = none) (q : ∀ h2, Heap.ExtBut j s.heap h2 → Q none { s with heap := h2 }) :
    wpAny (model prog w) A (pyNext (.ref j)) Q E s := by
  obtain ⟨ob, hb, hc, hd⟩ := id hj
  have hne := hot_ne hot hb hd (by simp)
  obtain ⟨hh, o1, v1, g1, e1, k1⟩ := hot
  have g2 : ∀ f, (s.heap.update j f).get? x1 = some o1 := fun f => by rw [Heap.get?_update_other _ _ hne.symm]; exact g1
  unfold pyNext
  refine wpAny_bind (wpAny_attempt (wpAny_callSpecial?_slot (name := Str.ofString "__next__") hj.typeIs F.slot_str_ascii_iterator_next (wpAny_call_entry F.slot_str_ascii_iterator_next hj.typeIs F.entry_str_ascii_iterator_next ?_ (F.args_str_ascii_iterator_next_1 _))))
  show wpAny _ _ (field (.ref j) 0 >>= _) _ _ s
  refine wpAny_bind (wpAny_field hb hd (x := .str z t) rfl ?_); show wpAny _ _ (field (.ref j) 1 >>= _) _ _ s
  refine wpAny_bind (wpAny_field hb hd (x := .int i 0) rfl ?_); simp only [Int.toNat_natCast, hx]
  refine wpAny_bind (wpAny_rule (wpAny_bind (wpAny_setField hb hd (by simp) (wpAny_bind (wpAny_letGo ?_))))); show wpAny _ _ (newExc (.type "StopIteration") [] >>= _) _ _ _
  refine wpAny_bind ?_; simp only [newExc, newTuple]
  refine wpAny_bind (wpAny_newObj_type ?_ (by size_fits)); refine wpAny_bind (m := firstArgMember _ _) (wpAny_of_eq (a := Value.none) (by first | rfl | (simp only [firstArgMember]; rfl)) ?_)
  refine wpAny_newObj_type ?_ (by size_fits)
  refine raiseNew_hot ⟨hh, o1, v1, Heap.get?_push_of_some _ (Heap.get?_push_of_some _ (g2 _)), e1, k1⟩ (Nat.ne_of_lt (Heap.lt_size (Heap.get?_push_of_some _ (g2 _)))) (Heap.get?_push_size _ rfl) rfl (by first | (simp; done) | (simp; omega) | (simp only [Array.size_append]; simp; omega)) ?_
  refine wpAny_bind (wpAny_isInstance (T := "StopIteration") (b := true) ⟨_, Heap.get?_update_self _ (Heap.get?_push_size _ rfl) rfl, rfl⟩ isSubtype_stop (wpAny_pure (q _ fun b o nb e => ?_)))
  have e3 : (s.heap.update j (Obj.mapFields (·.setIfInBounds 0 .none))).get? b = some o := (Heap.SameBut.update ..).extBut b o nb e
  rw [Heap.get?_update_other _ _ (Nat.ne_of_gt (Heap.lt_size (Heap.get?_push_of_some _ e3)))]; exact Heap.get?_push_of_some _ (Heap.get?_push_of_some _ e3)
theorem wid_end {j x1 : Addr} {z : Str} {t : Tok} {i : Nat} {Q : Option Value → Shared → Prop} (hot : HotAt A x1 s.heap) (hj : s.heap.IsStrIter j "str_iterator" z t i) (hx : z.cps[i]? = none) (q : ∀ h2, Heap.ExtBut j s.heap h2 → Q none { s with heap := h2 }) :
    wpAny (model prog w) A (pyNext (.ref j)) Q E s := by
  obtain ⟨ob, hb, hc, hd⟩ := id hj
  have hne := hot_ne hot hb hd (by simp)
  obtain ⟨hh, o1, v1, g1, e1, k1⟩ := hot
  have g2 : ∀ f, (s.heap.update j f).get? x1 = some o1 := fun f => by rw [Heap.get?_update_other _ _ hne.symm]; exact g1
  unfold pyNext
  refine wpAny_bind (wpAny_attempt (wpAny_callSpecial?_slot (name := Str.ofString "__next__") hj.typeIs F.slot_str_iterator_next (wpAny_call_entry F.slot_str_iterator_next hj.typeIs F.entry_str_iterator_next ?_ (F.args_str_iterator_next_1 _))))
  show wpAny _ _ (field (.ref j) 0 >>= _) _ _ s
  refine wpAny_bind (wpAny_field hb hd (x := .str z t) rfl ?_); show wpAny _ _ (field (.ref j) 1 >>= _) _ _ s
  refine wpAny_bind (wpAny_field hb hd (x := .int i 0) rfl ?_); simp only [Int.toNat_natCast, hx]
  refine wpAny_bind (wpAny_rule (wpAny_bind (wpAny_setField hb hd (by simp) (wpAny_bind (wpAny_letGo ?_))))); show wpAny _ _ (newExc (.type "StopIteration") [] >>= _) _ _ _
  refine wpAny_bind ?_; simp only [newExc, newTuple]
  refine wpAny_bind (wpAny_newObj_type ?_ (by size_fits)); refine wpAny_bind (m := firstArgMember _ _) (wpAny_of_eq (a := Value.none) (by first | rfl | (simp only [firstArgMember]; rfl)) ?_)
  refine wpAny_newObj_type ?_ (by size_fits)
  refine raiseNew_hot ⟨hh, o1, v1, Heap.get?_push_of_some _ (Heap.get?_push_of_some _ (g2 _)), e1, k1⟩ (Nat.ne_of_lt (Heap.lt_size (Heap.get?_push_of_some _ (g2 _)))) (Heap.get?_push_size _ rfl) rfl (by first | (simp; done) | (simp; omega) | (simp only [Array.size_append]; simp; omega)) ?_
  refine wpAny_bind (wpAny_isInstance (T := "StopIteration") (b := true) ⟨_, Heap.get?_update_self _ (Heap.get?_push_size _ rfl) rfl, rfl⟩ isSubtype_stop (wpAny_pure (q _ fun b o nb e => ?_)))
  have e3 : (s.heap.update j (Obj.mapFields (·.setIfInBounds 0 .none))).get? b = some o := (Heap.SameBut.update ..).extBut b o nb e
  rw [Heap.get?_update_other _ _ (Nat.ne_of_gt (Heap.lt_size (Heap.get?_push_of_some _ e3)))]; exact Heap.get?_push_of_some _ (Heap.get?_push_of_some _ e3)
end
section
variable {P : Program} {w : World} {K : PySem.W.Frag} {tg : Expr}
theorem turn_ascH (i0 : Addr) (z : Str) (t : Tok) : TurnH P w K tg (Its z) [i0] i0 (fun i h => h.IsStrIter i0 "str_ascii_iterator" z t i) :=
  { mem := List.mem_cons_self
    obj := fun i h st b hb => one_of hb fun e => by
      subst e
      obtain ⟨o, g, c, d⟩ := st
      exact ⟨o, g, fun v z => by rw [d] at z; cases z⟩
    keep := fun i h h2 st k => let ⟨o, g, r⟩ := st; ⟨o, k i0 List.mem_cons_self o g, r⟩
    item := fun X hP hw hK hc i pins s σ H E I hf st hg => by
      subst hP hw hK
      obtain ⟨f0, f1, f2, f3, f4, f5⟩ := hf i0 List.mem_cons_self
      have hz : z.cps[i]? = some (z.cps[i]'hg) := Array.getElem?_eq_getElem hg
      refine wpAny_pyNext_ascii_item st hz fun h2 st2 sb => ?_
      have I1 : Inv X pins σ H { s with heap := h2, toks := s.toks + 1 } := I.turned (fun b o nb e => (sb.2 b nb).trans e) f0 f1 f3 f4 f5
      obtain ⟨o, g, c, d⟩ := id st2
      exact ⟨_, rfl, go_of (s := { s with heap := h2, toks := s.toks + 1 }) g c d (by decide) ⟨.str ⟨#[z.cps[i]'hg]⟩, H, I1, ⟨_, rfl⟩, ⟨rfl, _, hz, rfl⟩, st2, fun b hb => (hf b hb).1⟩⟩
    done := fun X hP hw hK hc i pins s σ H E I hf st hg => by
      subst hP hw hK
      obtain ⟨f0, f1, f2, f3, f4, f5⟩ := hf i0 List.mem_cons_self
      obtain ⟨x1, hot⟩ := hc.at I
      exact asc_end hot st (Array.getElem?_eq_none hg) fun h2 eb => ⟨rfl, I.turned (t' := s.toks) (fun b o nb e => eb b o nb e) f0 f1 f3 f4 f5⟩
    self := fun _ _ _ _ _ st h => wpAny_pyIter_striter_ascii st h }
theorem turn_widH (i0 : Addr) (z : Str) (t : Tok) : TurnH P w K tg (Its z) [i0] i0 (fun i h => h.IsStrIter i0 "str_iterator" z t i) :=
  { mem := List.mem_cons_self
    obj := fun i h st b hb => one_of hb fun e => by
      subst e
      obtain ⟨o, g, c, d⟩ := st
      exact ⟨o, g, fun v z => by rw [d] at z; cases z⟩
    keep := fun i h h2 st k => let ⟨o, g, r⟩ := st; ⟨o, k i0 List.mem_cons_self o g, r⟩
    item := fun X hP hw hK hc i pins s σ H E I hf st hg => by
      subst hP hw hK
      obtain ⟨f0, f1, f2, f3, f4, f5⟩ := hf i0 List.mem_cons_self
      have hz : z.cps[i]? = some (z.cps[i]'hg) := Array.getElem?_eq_getElem hg
      refine wpAny_pyNext_wide_item st hz fun h2 st2 sb => ?_
      have I1 : Inv X pins σ H { s with heap := h2, toks := s.toks + 1 } := I.turned (fun b o nb e => (sb.2 b nb).trans e) f0 f1 f3 f4 f5
      obtain ⟨o, g, c, d⟩ := id st2
      exact ⟨_, rfl, go_of (s := { s with heap := h2, toks := s.toks + 1 }) g c d (by decide) ⟨.str ⟨#[z.cps[i]'hg]⟩, H, I1, ⟨_, rfl⟩, ⟨rfl, _, hz, rfl⟩, st2, fun b hb => (hf b hb).1⟩⟩
    done := fun X hP hw hK hc i pins s σ H E I hf st hg => by
      subst hP hw hK
      obtain ⟨f0, f1, f2, f3, f4, f5⟩ := hf i0 List.mem_cons_self
      obtain ⟨x1, hot⟩ := hc.at I
      exact wid_end hot st (Array.getElem?_eq_none hg) fun h2 eb => ⟨rfl, I.turned (t' := s.toks) (fun b o nb e => eb b o nb e) f0 f1 f3 f4 f5⟩
    self := fun _ _ _ _ _ st h => wpAny_pyIter_striter_wide st h }
end
section
variable {X : Cx} {tg : Expr}
theorem pi_strH {l : Expr} {tl : TE} (hl : PE X l tl) : PIH X tg l (iStr tl) :=
  ⟨fun pins s σ H R I h => thn (hl.run pins s σ H _ I h) fun v s1 z => by
    obtain ⟨y, H1, I1, r1, x, rfl, q⟩ := z
    obtain ⟨t, rfl⟩ := r1
    have ff : ∀ b ∈ [s1.heap.objs.size], FpOk X pins H1 b := fun b hb => one_of hb fun e => by
      subst e
      exact I1.fpOk (Nat.le_refl _) (I1.hok.fresh (Nat.le_refl _))
    cases ha : x.cps.all (· < 128)
    · exact wpAny_pyIter_wide ha ⟨s1.heap.objs.size, [s1.heap.objs.size], _, _, H1, rfl, I1.kept (t' := s1.toks) fun b o e => Heap.get?_push_of_some _ e, turn_widH _ x t, ⟨_, Heap.get?_push_size _ rfl, rfl, rfl⟩, ff, q⟩
    · exact wpAny_pyIter_ascii ha ⟨s1.heap.objs.size, [s1.heap.objs.size], _, _, H1, rfl, I1.kept (t' := s1.toks) fun b o e => Heap.get?_push_of_some _ e, turn_ascH _ x t, ⟨_, Heap.get?_push_size _ rfl, rfl, rfl⟩, ff, q⟩⟩
theorem walks_hot {prog : Program} {w : World} {A : Around} (x1 i0 a : Addr) (hx : x1 ≠ i0) (ha : a ≠ i0) (ys : Array Value) :
    Walks prog w A i0 [i0, a, x1] [i0] ys.size (fun i v => ys[i]? = some v) (fun i h => (h.IsListIter i0 a i ∧ h.IsList a ys) ∧ HotAt A x1 h) :=
  { sub := fun b hb => one_of hb fun e => by rw [e]; exact List.mem_cons_self
    frame := fun _ _ _ st k => ⟨⟨st.1.1.at fun o e => k i0 (by simp) o e, st.1.2.at fun o e => k a (by simp) o e⟩, HotAt.keep st.2 fun o e => k x1 (by simp) o e⟩
    item := fun i s Q E hi st q => wpAny_pyNext_list_item st.1.1 st.1.2 (x := ys[i]) (by simp [hi]) fun h2 t2 b2 =>
      q _ h2 s.toks (by simp [hi]) ⟨⟨t2, st.1.2.extBut b2.extBut ha⟩, HotAt.keep st.2 fun o e => b2.extBut x1 o hx e⟩ fun b o nb e => b2.extBut b o (fun z => nb (by simp [z])) e
    done := fun s Q E st q => list_end st.2 st.1.1 st.1.2 (by simp) fun h2 e2 => q h2 s.toks fun b o nb e => e2 b o (fun z => nb (by simp [z])) e
    self := fun _ _ _ _ st q => wpAny_pyIter_listiter st.1.1 q }
theorem cr_allH (hc : HotC X) : CallR X (.builtin "all") (rAll X.K) := by
  intro pins s σ H vs us Q I r h
  obtain ⟨a, bs, rfl, hs, q⟩ := h
  obtain ⟨its, rv, hl, _⟩ := I.list hs
  obtain ⟨x1, hot⟩ := hc.at I
  rw [Vals.ref1 r]
  have hb := rv.bls
  have lx : x1 < s.heap.objs.size := by obtain ⟨_, o, _, e, _⟩ := hot; exact Heap.lt_size e
  refine call_all_walk (iter_any hl.isList fun s2 e2 st hne => ?_)
  subst e2
  have hot2 : HotAt X.A.in1 x1 (s.heap.push { cls := .type "list_iterator", data := .fields #[.ref a, .int 0 0] }) := HotAt.keep hot fun o e => Heap.get?_push_of_some _ e
  refine ⟨_, _, _, _, _, _, _, rfl, walks_hot (A := X.A.in1) x1 _ a (Nat.ne_of_lt lx) hne its.toArray, ⟨st, hot2⟩, truth_bools hb, fun h' tk hk => ⟨.bl _, H, I.kept fun b o eo => hk b o (fun hm => one_of hm fun e => ?_) (Heap.get?_push_of_some _ eo), ?_, q⟩⟩
  · rw [e] at eo
    exact absurd (Heap.lt_size eo) (Nat.lt_irrefl _)
  · show Value.bool _ = Value.bool _
    rw [← L2.all_range, hb, List.size_toArray, List.length_map]
end
end HL

end
section
set_option Elab.async false
set_option linter.all false
set_option maxRecDepth 100000
set_option maxHeartbeats 4000000
/-! is_small, is_word, is_whole, is_mark while an exception is handled -/
namespace P5
open PySem PySem.Spec PySem.SeqAt PyProof.Rows L2
theorem okH {P : Program} {w : World} {K : PySem.W.Frag} {mg : Str → Option Value} {base : Heap} {x qual : Str} {st : Stmt} {f : Addr} {fd : FuncData} {N ps : List Str} {k : Nat} {sp : Sp} (F : Fun K x qual st f fd) (S : FnScope N ps (defScope st)) (len : ∀ vs H Q E, sp vs H Q E → vs.length = ps.length)
    (body : ∀ (cdv : Value) (A : Around) (outer : List Env) (s : Shared) (H : Hp) (vs : List V) (Q : VK) (E : XK) (p : Addr × Obj), L2H.HotC (L2H.cxH CX0 P w K mg base N qual (defScope st) f cdv A outer s H E p) → L2H.RoomH k (L2H.cxH CX0 P w K mg base N qual (defScope st) f cdv A outer s H E p).A → sp vs H Q E →
      ∃ t, PSs (L2H.cxH CX0 P w K mg base N qual (defScope st) f cdv A outer s H E p) (defBody st) t ∧ t { nx := fun _ H' => Q .non H', rt := Q } (L2.start N vs) H) : L2H.FnH P w K mg base CX0 (k + 1) f fd ps sp := by
  obtain ⟨oc, od, kV, doc, pm, an, cdv, ct, osl, rfl, lk, hcd⟩ := F.ex
  exact L2H.fn_ofH lk hcd S len fun A outer s H vs Q E p hot hr hsp => body cdv A outer s H vs Q E p ⟨p, hot, List.mem_cons_self⟩ hr hsp
theorem passH {X : Cx} : ∀ σ, PassesAt CX0 X σ ((fun _ => E0 : L2.St → XK) σ) := fun _ _ _ _ _ _ _ h => (show False from h).elim
section
variable {P : Program} {w : World} {K : PySem.W.Frag} {mg : Str → Option Value} {base : Heap} {aN aS : Addr}
theorem ok_smallH {f : Addr} {fd : FuncData} (F : Fun K "is_small" "is_small" sSmall f fd) : L2H.FnH P w K mg base CX0 1 f fd ["letter"] spSmall := by
  refine okH F scSmall (fun vs H Q E h => ?_) (fun cdv A outer s H vs Q E q0 hot hr h => ?_)
  · obtain ⟨x, rfl, _⟩ := h
    rfl
  obtain ⟨x, rfl, q⟩ := h
  refine ⟨_, pss_one (ps_ret (pe_chain op_le_str op_le_str pe_str (pv 0) pe_str)), ?_⟩
  refine ⟨_, rfl, _, _, rfl, rfl, _, rfl, ite2 (fun c => ?_) (fun c => ?_)⟩
  · refine ⟨_, _, rfl, rfl, ?_⟩
    have e : smallS x = !decide (("z" : Str).cps.toList < x.cps.toList) := by
      unfold smallS
      rw [c, Bool.true_and]
    rw [← e]
    exact q
  · have e : smallS x = false := by
      unfold smallS
      rw [Bool.eq_false_iff.mpr c, Bool.false_and]
    rw [← e]
    exact q
theorem ok_wordH {f f1 : Addr} {fd fd1 : FuncData} (F : Fun K "is_word" "is_word" sWord f fd) (T : KC K mg aN aS)
    (G1 : L2H.FnH P w K mg base CX0 1 f1 fd1 ["letter"] spSmall) (b1 : Binds K fd1 ["letter"] []) (k1 : PySem.W.keepIn K (.ref f1) = true) (m1 : mg "is_small" = some (.ref f1)) : L2H.FnH P w K mg base CX0 2 f fd ["thing"] spWord := by
  refine okH F scWord (fun vs H Q E h => ?_) (fun cdv A outer s H vs Q E q0 hot hr h => ?_)
  · obtain ⟨x, rfl, _⟩ := h
    rfl
  obtain ⟨x, rfl, hl, q⟩ := h
  obtain ⟨tk, gL⟩ := T.gL
  refine ⟨_, pss_cons (ps_if (PW.pt (pw_or (pt_not (pt_val (pe_callB call_isi rfl T.isi (by decide +kernel) (pa_cons (pv 0) (pa_cons (pe_strT T.str) pa_nil)))))
      (pw_or1 (pt_not (pt_chain op_le op_le pe_int (pe_callB call_len_str rfl T.len PySem.boot_len (pa_cons (pv 0) pa_nil)) (pe_glob (v := .int 10) rfl gL ⟨_, rfl⟩)))))) (pss_one (ps_ret pe_bl)) pss_nil)
    (pss_one (ps_ret (pe_and (pe_cmpR op_notIn_seq (pv 0) (pgl T.gN) (by rfl)) (pe_one (pe_callB (HL.cr_allH hot) rfl T.all (by decide +kernel) (pa_cons (HL.pe_lcH hot (own := [("letter", 1)]) (g := gName 1) scWord.nd (HL.pi_strH (pv 0))
      (blkOk_by (N := ["thing", "letter"]) (sc := defScope sWord) (by decide +kernel)) (fun _ _ _ _ _ _ _ => pg_name (i := 1) scWord.nd rfl (Or.inl rfl))
      (fun _ _ _ _ _ _ hot => L2H.pe_callH (E := fun _ => E0) G1 hr hot rfl m1 k1 b1 passH (pa_cons (pv 1) pa_nil))) pa_nil)))))), ?_⟩
  refine ⟨_, rfl, .str x, .ty "str", .type "str", .type "str", true, rfl, .ty _, .base (.str x), kit_ty (by decide +kernel), _, rfl, ?_⟩
  refine iteF ?_
  refine ⟨_, rfl, _, rfl, small_le (by omega), _, _, rfl, rfl, _, rfl, ite2 (fun c => ?_) (fun c => ?_)⟩
  · refine ⟨_, _, rfl, rfl, _, rfl, ?_⟩
    have c1 : 1 ≤ (x.length : Int) := of_decide_eq_true c
    cases c2 : decide ((x.length : Int) ≤ 10) with
    | false =>
      have c2' : ¬ x.length ≤ 10 := by
        have := of_decide_eq_false c2
        omega
      refine iteT ?_
      have e : wordB x = false := by
        unfold wordB
        rw [decide_eq_false c2', Bool.and_false, Bool.false_and, Bool.false_and]
      rw [← e]
      exact q H (Same.refl H)
    | true =>
      have c2' : x.length ≤ 10 := by
        have := of_decide_eq_true c2
        omega
      have c1' : 1 ≤ x.length := by omega
      refine iteF ?_
      have e : wordB x = (!noWord x && ((signs x).map smallS).all id) := by
        unfold wordB
        rw [decide_eq_true c1', decide_eq_true c2', Bool.true_and, Bool.true_and]
      refine ⟨_, rfl, _, _, rfl, .inr (T.tN _), rfl, rfl, !noWord x, rfl, ite2 (fun z => ?_) (fun z => ?_)⟩
      · refine ⟨_, rfl, x, rfl, fun D hN => lcS (((signs x).map smallS).map V.bl) (by simp [signs, Str.length]) (by omega) hN (fun i y cc H' Q' hc hy s k => ?_) fun H' s hL => ?_⟩
        · rw [List.getElem?_map, List.getElem?_map] at hy
          unfold signs at hy
          rw [List.getElem?_map, hc] at hy
          cases hy
          exact ⟨rfl, _, rfl, _, rfl, k H' (Same.refl H')⟩
        · refine ⟨D, _, rfl, SqL.of hL, ?_⟩
          have zz := q H' s
          rw [e, z, Bool.true_and] at zz
          exact zz
      · have zz := q H (Same.refl H)
        rw [e, Bool.eq_false_iff.mpr z, Bool.false_and] at zz
        exact zz
  · refine ⟨_, rfl, iteT ?_⟩
    have c1 : ¬ (1 : Int) ≤ (x.length : Int) := of_decide_eq_false (Bool.eq_false_iff.mpr c)
    have c1' : ¬ 1 ≤ x.length := by omega
    have e : wordB x = false := by
      unfold wordB
      rw [decide_eq_false c1', Bool.false_and, Bool.false_and, Bool.false_and]
    rw [← e]
    exact q H (Same.refl H)
theorem ok_wholeH {f : Addr} {fd : FuncData} (F : Fun K "is_whole" "is_whole" sWhole f fd) (T : KC K mg aN aS) : L2H.FnH P w K mg base CX0 1 f fd ["thing"] spWhole := by
  refine okH F scWhole (fun vs H Q E h => ?_) (fun cdv A outer s H vs Q E q0 hot hr h => ?_)
  · obtain ⟨x, rfl, _⟩ := h
    rfl
  obtain ⟨i, rfl, q⟩ := h
  refine ⟨_, pss_one (ps_ret (pe_and (pe_callB call_isi rfl T.isi (by decide +kernel) (pa_cons (pv 0) (pa_cons (pe_intT T.int) pa_nil)))
    (pe_one (pe_not (pe_callB call_isi rfl T.isi (by decide +kernel) (pa_cons (pv 0) (pa_cons (pe_boolT T.bool) pa_nil))))))), ?_⟩
  refine ⟨_, rfl, .int i, .ty "int", .type "int", .type "int", true, rfl, .ty _, .base (.int i), kit_ty (by decide +kernel), _, rfl, iteT ?_⟩
  exact ⟨_, rfl, .int i, .ty "bool", .type "int", .type "bool", false, rfl, .ty _, .base (.int i), kit_ty (by decide +kernel), _, rfl, q⟩
theorem ok_markH {f f1 : Addr} {fd fd1 : FuncData} (F : Fun K "is_mark" "is_mark" sMark f fd) (T : KC K mg aN aS)
    (G1 : L2H.FnH P w K mg base CX0 2 f1 fd1 ["thing"] spWord) (b1 : Binds K fd1 ["thing"] []) (k1 : PySem.W.keepIn K (.ref f1) = true) (m1 : mg "is_word" = some (.ref f1)) : L2H.FnH P w K mg base CX0 3 f fd ["thing"] spMark := by
  refine okH F scMark (fun vs H Q E h => ?_) (fun cdv A outer s H vs Q E q0 hot hr h => ?_)
  · obtain ⟨x, _, rfl, _⟩ := h
    rfl
  obtain ⟨x, hx, rfl, q⟩ := h
  refine ⟨_, pss_one (ps_ret (pe_or (L2H.pe_callH (E := fun _ => E0) G1 hr hot rfl m1 k1 b1 passH (pa_cons (pv 0) pa_nil)) (pe_or (pe_cmpR op_in_seq (pv 0) (pgl T.gS) (by rfl))
    (pe_one (pe_cmpR op_in_seq (pv 0) (pe_tup (pa_cons pe_str (pa_cons pe_str pa_nil))) (by rfl)))))), ?_⟩
  refine ⟨_, rfl, x, rfl, mrk_len x hx, fun H' s' => ⟨_, rfl, ?_⟩⟩
  cases e : wordB x with
  | true => exact iteT (q H' s')
  | false =>
    refine iteF ⟨_, rfl, aS, _, rfl, .inr (T.tS _), rfl, rfl, ?_⟩
    rw [if_neg Bool.false_ne_true]
    refine ⟨_, rfl, ?_⟩
    show ite (inV (.str x) (SGN.map V.str) = true) _ _
    rw [inV_strs]
    rcases mrk_sgn x hx e with h | h
    · rw [decide_eq_true h]
      exact iteT (q H' s')
    · by_cases h2 : x ∈ SGN
      · rw [decide_eq_true h2]
        exact iteT (q H' s')
      · rw [decide_eq_false h2]
        refine iteF ⟨_, rfl, (by show 2 ≤ sizeLine; decide), fun p hp => ?_⟩
        have s1 := Same.new hp (.tup (TWO.map V.str))
        refine ⟨p, TWO.map V.str, rfl, .inr (SqT.of upd_same), rfl, rfl, ?_⟩
        rw [if_neg Bool.false_ne_true, inV_strs, decide_eq_true h]
        exact q _ (s'.trans s1)
end
end P5

end
section
set_option Elab.async false
set_option linter.all false
set_option maxRecDepth 100000
set_option maxHeartbeats 4000000
/-! max(ints, default=d), also while an exception is handled -/
namespace HL
open PySem PySem.Spec PyProof.Rows L2 HotX L2H
/-- what must hold around so that a list's iterator ends -/
structure Ends1 (prog : Program) (w : World) (A : Around) (ex : List Addr) (Z : Heap → Prop) : Prop where
  keep : ∀ h h' : Heap, Z h → (∀ b ∈ ex, ∀ o, h.get? b = some o → h'.get? b = some o) → Z h'
  old : ∀ h : Heap, Z h → ∀ b ∈ ex, b < h.objs.size
  fin : ∀ (s : Shared) (j t : Addr) (i : Nat) (ys : Array Value) (Q : Option Value → Shared → Prop) (E : Value → Shared → Prop), Z s.heap → s.heap.IsListIter j t i → s.heap.IsList t ys → ys[i]? = none → (∀ h2, Heap.ExtBut j s.heap h2 → Q none { s with heap := h2 }) → wpAny (model prog w) A (pyNext (.ref j)) Q E s
theorem ends_cold {prog : Program} {w : World} {A : Around} (hh : A.handled = none) : Ends1 prog w A [] (fun _ => True) :=
  ⟨fun _ _ _ _ => trivial, fun _ _ b hb => (by cases hb), fun s j t i ys Q E _ h1 h2 h3 q => wpAny_pyNext_list_end hh h1 h2 h3 q⟩
theorem ends_hot {prog : Program} {w : World} {A : Around} (x1 : Addr) : Ends1 prog w A [x1] (HotAt A x1) :=
  ⟨fun _ _ z k => HotAt.keep z fun o e => k x1 List.mem_cons_self o e, fun h z b hb => (by
    obtain ⟨_, o, _, e, _⟩ := z
    rw [List.mem_singleton.mp hb]
    exact Heap.lt_size e), fun s j t i ys Q E z h1 h2 h3 q => list_end z h1 h2 h3 q⟩
theorem mv_list {prog : Program} {w : World} {A : Around} {ex : List Addr} {Z : Heap → Prop} (N : Ends1 prog w A ex Z) (i0 a : Addr) (ha : a ≠ i0) (hx : i0 ∉ ex) (ys : Array Value) :
    WalksS prog w A i0 (i0 :: a :: ex) [i0] Eq ys.size (fun i v => ys[i]? = some v) (fun i s => (s.heap.IsListIter i0 a i ∧ s.heap.IsList a ys) ∧ Z s.heap) where
  sub := fun b hb => by rw [List.mem_singleton.mp hb]; exact List.mem_cons_self
  grefl := fun _ => rfl
  gtrans := fun _ _ _ h1 h2 => h1.trans h2
  frame := fun i s h' tk st _ k => ⟨⟨st.1.1.at fun o e => k i0 (by simp) o e, st.1.2.at fun o e => k a (by simp) o e⟩, N.keep _ _ st.2 fun b hb o e => k b (by simp [hb]) o e⟩
  item := fun i s Q E hi st q => wpAny_pyNext_list_item st.1.1 st.1.2 (x := ys[i]) (by simp [hi]) fun h2 t2 b2 =>
    q _ { s with heap := h2 } (by simp [hi]) ⟨⟨t2, st.1.2.extBut b2.extBut ha⟩, N.keep _ _ st.2 fun b hb o e => b2.extBut b o (fun z => hx (z ▸ hb)) e⟩ ⟨fun b o nb e => b2.extBut b o (fun z => nb (by simp [z])) e, rfl, rfl, rfl, Nat.le_refl _⟩
  done := fun s Q E st q => N.fin s i0 a _ ys Q E st.2 st.1.1 st.1.2 (by simp) fun h2 e2 => q { s with heap := h2 } ⟨fun b o nb e => e2 b o (fun z => nb (by simp [z])) e, rfl, rfl, rfl, Nat.le_refl _⟩
  self := fun i s Q E st q => wpAny_pyIter_listiter st.1.1 q
theorem mx_raw {prog : Program} {w : World} {A : Around} {E : Value → Shared → Prop} {s : Shared} {l : Addr} {its : List Value} {ns : List Int} {d : Value} {ex : List Addr} {Z : Heap → Prop} {Q : Value → Shared → Prop} (N : Ends1 prog w A.in1 ex Z) (hZ : Z s.heap)
    (hl : s.heap.IsList l its.toArray) (hi : IntsAre its ns) (h0 : ns = [] → ∀ h' tk, (∀ b o, s.heap.get? b = some o → h'.get? b = some o) → Q d { s with heap := h', toks := tk })
    (h : ∀ h' tk M t', (∀ b o, s.heap.get? b = some o → h'.get? b = some o) → M ∈ ns → (∀ a, a ∈ ns → a ≤ M) → Q (.int M t') { s with heap := h', toks := tk }) : wpAny (model prog w) A (call (.builtin "max") [.ref l] [(Str.ofString "default", d)]) Q E s := by
  obtain ⟨xs, e⟩ := hi.allInts.items
  have hn : numsOf (intItems xs).toList = ns := by rw [← e]; exact hi.numsOf
  rw [nums_intItems] at hn
  subst hn
  rw [e] at hl
  refine call_max_walkD (iter_any hl fun s2 e2 st hne => ?_)
  subst e2
  have keepZ : Z (s.heap.push { cls := .type "list_iterator", data := .fields #[.ref l, .int 0 0] }) := N.keep _ _ hZ fun b _ o eo => Heap.get?_push_of_some _ eo
  have hold : ∀ {s' : Shared}, Moved [s.heap.objs.size] Eq { s with heap := s.heap.push { cls := .type "list_iterator", data := .fields #[.ref l, .int 0 0] } } s' → (∀ b o, s.heap.get? b = some o → s'.heap.get? b = some o) ∧ s' = { s with heap := s'.heap, toks := s'.toks } := fun {s'} hm => by
    refine ⟨fun b o eo => hm.heap b o (fun hb => ?_) (Heap.get?_push_of_some _ eo), ?_⟩
    · rw [List.mem_singleton.mp hb] at eo
      exact absurd (Heap.lt_size eo) (Nat.lt_irrefl _)
    · obtain ⟨h', g', d', t', o'⟩ := s'
      have e1 : s.gens = g' := hm.gens
      have e2 : d' = s.drawn := hm.drawn
      have e3 : o' = s.os := hm.os
      subst e1 e2 e3
      rfl
  have lt : l < s.heap.objs.size := by obtain ⟨_, e1, _⟩ := hl; exact Heap.lt_size e1
  have old := N.old _ hZ
  refine ⟨_, _, _, _, _, _, _, ({} : Heap), fun i j => decide (numAt xs i > numAt xs j), rfl, mv_list N s.heap.objs.size l hne (fun hm => Nat.lt_irrefl _ (old _ hm)) (intItems xs), ⟨st, keepZ⟩, fun b hb => ?_, fun b o eo => ?_, fun b o eo => ?_, fun hn s' hm => ?_, fun hn => ⟨fun i j vi vj s1 Q1 E1 _ hvi hvj hq => CmpOf.ints_gt (numAt xs) (fun _ _ => intItems_at) i j vi vj s1 Q1 E1 hvi hvj hq, fun v s' hP hm => ?_⟩⟩
  · show b < (s.heap.push _).objs.size
    rw [Heap.size_push]
    rcases List.mem_cons.mp hb with z | hb
    · rw [z]; exact Nat.lt_succ_self _
    · rcases List.mem_cons.mp hb with z | hb
      · rw [z]; exact Nat.lt_succ_of_lt lt
      · exact Nat.lt_succ_of_lt (old b hb)
  · exact absurd (Heap.lt_size eo) (Nat.not_lt_zero _)
  · exact absurd (Heap.lt_size eo) (Nat.not_lt_zero _)
  · obtain ⟨k1, k2⟩ := hold hm
    rw [k2]
    refine h0 ?_ s'.heap s'.toks k1
    have hz : xs.size = 0 := by simpa [intItems] using hn
    rw [Array.eq_empty_of_size_eq_zero hz]
    rfl
  · obtain ⟨k1, k2⟩ := hold hm
    obtain ⟨t, rfl⟩ := intItems_at hP
    have hsz : 0 < xs.size := by simpa [intItems] using hn
    have hsz2 : (intItems xs).size = xs.size := by simp [intItems]
    obtain ⟨h1, h2⟩ := argBest_gt (numAt xs) ((intItems xs).size - 1)
    rw [k2]
    refine h s'.heap s'.toks _ t k1 ?_ fun a ha => ?_
    · rw [numAt_eq]; exact PySem.getD_mem (by rw [List.length_map, Array.length_toList]; omega)
    · obtain ⟨j, hj, rfl⟩ := mem_getD ha
      rw [List.length_map, Array.length_toList] at hj
      rw [← numAt_eq]; exact h2 j (by omega)
/-- the greatest of ints, or d if there is none -/
def rMxD (K : PySem.W.Frag) : List V → List V → Hp → VK → Prop := fun vs zs H Q => ∃ (a : Addr) (ns : List Int) (d : Int), vs = [.ref a] ∧ zs = [.int d] ∧ SqL K H a (ns.map V.int) ∧ ∀ m : Int, (ns = [] → m = d) → (ns ≠ [] → m ∈ ns) → (∀ y ∈ ns, y ≤ m) → Q (.int m) H
section
variable {X : Cx}
theorem mx_call {ex : List Addr} {Z : Heap → Prop} {pins : List (Addr × Obj)} {s : Shared} {σ : L2.St} {H : Hp} {xs zs : List V} {us ws : List Value} {Q : VK} (N : Ends1 X.prog X.w X.A.in1 ex Z) (hZ : Z s.heap) (I : Inv X pins σ H s) (r : Vals xs us) (r2 : Vals zs ws) (h : rMxD X.K xs zs H Q) :
    wpAny (model X.prog X.w) X.A (call (.builtin "max") us ([("default" : Str)].zip ws)) (EP X pins σ Q) X.xe s := by
  obtain ⟨a, ns, d, rfl, rfl, hs, q⟩ := h
  obtain ⟨its, rv, hl, _⟩ := I.list hs
  rw [Vals.ref1 r]
  obtain ⟨u, rfl, ru⟩ := r2.one
  obtain ⟨t, rfl⟩ : ∃ t, u = Value.int d t := ru
  refine mx_raw N hZ hl.isList rv.ints (fun e h' tk k => ⟨.int d, H, I.kept k, ⟨_, rfl⟩, q d (fun _ => rfl) (fun z => absurd e z) (fun y hy => by rw [e] at hy; cases hy)⟩) fun h' tk M t' k h1 h2 => ⟨.int M, H, I.kept k, ⟨_, rfl⟩, q M (fun z => by rw [z] at h1; cases h1) (fun _ => h1) h2⟩
theorem cr_mxD (hc : X.calm = true) : CallRK X (.builtin "max") ["default"] (rMxD X.K) :=
  fun pins s σ H xs zs us ws Q I r r2 h => mx_call (ends_cold (A := X.A.in1) (I.ok.hd hc)) trivial I r r2 h
theorem cr_mxDH (hc : HotC X) : CallRK X (.builtin "max") ["default"] (rMxD X.K) := fun pins s σ H xs zs us ws Q I r r2 h => by
  obtain ⟨x1, hot⟩ := hc.at I
  exact mx_call (ends_hot x1) hot I r r2 h
end
end HL

end
section
set_option Elab.async false
set_option linter.all false
set_option maxRecDepth 100000
set_option maxHeartbeats 4000000
/-! zip of two tuples while an exception is handled -/
namespace HL
open PySem PySem.Spec PyProof.Rows L2 HotX L2H RZ
section
variable {prog : Program} {w : World} {A : Around} {E : Value → Shared → Prop} {s : Shared}
theorem nx_tupH {j t x1 : Addr} {i : Nat} {ys : Array Value} {Q : Value → Shared → Prop} (hot : HotAt A x1 s.heap) (hj : s.heap.IsTupleIter j t i) (ht : s.heap.IsTuple t ys) (hx : ys[i]? = none)
    (q : ∀ h2 e, Heap.ExtBut j s.heap h2 → (∃ o, h2.get? e = some o ∧ o.cls = .type "StopIteration") → E (.ref e) { s with heap := h2 }) : wpAny (model prog w) A (Builtin.SmallTypes.nextOf (.ref j)) Q E s := by
  obtain ⟨ob, hb, hc, hd⟩ := id hj
  obtain ⟨ot, got, _, nt, hdt⟩ := ht
  have hne := hot_ne hot hb hd (by simp)
  obtain ⟨hh, o1, v1, g1, e1, k1⟩ := hot
  unfold Builtin.SmallTypes.nextOf
  refine wpAny_bind (wpAny_callSpecial?_slot (name := Str.ofString "__next__") hj.typeIs F.slot_tuple_iterator_next (wpAny_call_entry F.slot_tuple_iterator_next hj.typeIs F.entry_tuple_iterator_next ?_ (F.args_tuple_iterator_next_1 _)))
  show wpAny _ _ (field (.ref j) 0 >>= _) _ _ s
  refine wpAny_bind (wpAny_field hb hd (x := .ref t) rfl ?_)
  show wpAny _ _ (if (Value.ref t == Value.none) = true then _ else _) _ _ s
  rw [if_neg (show ¬ (Value.ref t == Value.none) = true by exact Bool.false_ne_true)]
  show wpAny _ _ (field (.ref j) 1 >>= _) _ _ s
  refine wpAny_bind (wpAny_field hb hd (x := .int i 0) rfl ?_)
  show wpAny _ _ (seqItems? (.ref t) >>= _) _ _ s
  refine wpAny_bind (wpAny_seqItems got hdt ?_); simp only [Int.toNat_natCast, hx]
  refine wpAny_bind (wpAny_rule (wpAny_bind (wpAny_setField hb hd (by simp) ?_))); show wpAny _ _ (newExc (.type "StopIteration") [] >>= _) _ _ _
  have g2 : (s.heap.update j (Obj.mapFields (·.setIfInBounds 0 .none))).get? x1 = some o1 := by rw [Heap.get?_update_other _ _ hne.symm]; exact g1
  have eb : Heap.ExtBut j s.heap (s.heap.update j (Obj.mapFields (·.setIfInBounds 0 .none))) := (Heap.SameBut.update ..).extBut
  generalize s.heap.update j (Obj.mapFields (·.setIfInBounds 0 .none)) = h9 at *
  refine wpAny_bind ?_; simp only [newExc, newTuple]
  refine wpAny_bind (wpAny_newObj_type ?_ (by size_fits)); refine wpAny_bind (m := firstArgMember _ _) (wpAny_of_eq (a := Value.none) (by first | rfl | (simp only [firstArgMember]; rfl)) ?_)
  refine wpAny_newObj_type ?_ (by size_fits)
  refine raiseNew_hot ⟨hh, o1, v1, Heap.get?_push_of_some _ (Heap.get?_push_of_some _ g2), e1, k1⟩ (Nat.ne_of_lt (Heap.lt_size (Heap.get?_push_of_some _ g2))) (Heap.get?_push_size _ rfl) rfl (by first | (simp; done) | (simp; omega) | (simp only [Array.size_append]; simp; omega)) ?_
  refine q _ _ (fun b o nb e => ?_) ⟨_, Heap.get?_update_self _ (Heap.get?_push_size _ rfl) rfl, rfl⟩
  have e3 := eb b o nb e
  rw [Heap.get?_update_other _ _ (Nat.ne_of_gt (Heap.lt_size (Heap.get?_push_of_some _ e3)))]; exact Heap.get?_push_of_some _ (Heap.get?_push_of_some _ e3)
theorem hot_apart {x1 b : Addr} {o : Obj} (hot : HotAt A x1 s.heap) (ho : s.heap.get? b = some o) (hd : ∀ vs, o.data = .fields vs → vs[2]? ≠ some .none) : x1 ≠ b := fun e => by
  obtain ⟨_, o1, v1, g1, e1, k1⟩ := hot
  rw [e, ho] at g1; cases g1
  exact hd _ e1 k1
theorem zip_endH {z TI TO i1 i2 l1 l2 x1 : Addr} {k1 k2 : Nat} {xs ys : Array Value} {a b : Value} {Q : Option Value → Shared → Prop} (hot : HotAt A x1 s.heap) (D : ZipApart z TI TO i1 i2 l1 l2)
    (hz : IsZip s.heap z TI TO .none) (hTI : IsPair s.heap TI (.ref i1) (.ref i2)) (hTO : IsPair s.heap TO a b)
    (h1 : s.heap.IsTupleIter i1 l1 k1) (h2 : s.heap.IsTupleIter i2 l2 k2) (hl1 : s.heap.IsTuple l1 xs) (hl2 : s.heap.IsTuple l2 ys) (hend : xs[k1]? = none ∨ ys[k2]? = none)
    (hQ : ∀ h', (∀ c o, c ≠ z → c ≠ TO → c ≠ i1 → c ≠ i2 → s.heap.get? c = some o → h'.get? c = some o) → Q none { s with heap := h' }) : wpAny (model prog w) A (pyNext (.ref z)) Q E s := by
  have hT : s.TypeIs (.ref z) "zip" := ⟨_, hz, rfl⟩
  have nz : x1 ≠ z := hot_apart hot hz fun vs e k => by cases e; cases k
  have nTO : x1 ≠ TO := hot_apart hot hTO fun vs e k => by cases e
  have n1 : x1 ≠ i1 := by obtain ⟨o, g, _, d⟩ := h1; exact hot_ne hot g d (by simp)
  have n2 : x1 ≠ i2 := by obtain ⟨o, g, _, d⟩ := h2; exact hot_ne hot g d (by simp)
  unfold pyNext
  have go : ∀ (h' : Heap) (e : Addr), (∀ c o, c ≠ z → c ≠ TO → c ≠ i1 → c ≠ i2 → s.heap.get? c = some o → h'.get? c = some o) → (∃ o, h'.get? e = some o ∧ o.cls = .type "StopIteration") →
      wpAny (model prog w) A (isInstance (.ref e) (.type "StopIteration") >>= fun r => if r = true then pure none else throw (.ref e)) Q E { s with heap := h' } := fun h' e hk he => by
    obtain ⟨o, ho, hc⟩ := he
    exact wpAny_bind (wpAny_isInstance (T := "StopIteration") (b := true) ⟨o, ho, hc⟩ isSubtype_stop (wpAny_pure (hQ _ hk)))
  refine wpAny_bind (wpAny_attempt (wpAny_callSpecial?_slot (name := Str.ofString "__next__") hT F.slot_zip_next (wpAny_call_entry F.slot_zip_next hT F.entry_zip_next ?_ (F.args_zip_next_1 _))))
  show wpAny _ _ (field (.ref z) 2 >>= _) _ _ _
  refine wpAny_bind (wpAny_field hz rfl (x := .bool false) rfl ?_)
  show wpAny _ _ (field (.ref z) 3 >>= _) _ _ _
  refine wpAny_bind (wpAny_field hz rfl (x := .ref TI) rfl (wpAny_bind (wpAny_seqItems hTI rfl ?_)))
  show wpAny _ _ (Builtin.SmallTypes.ownedTupleIsFree (.ref z) >>= _) _ _ _
  refine wpAny_bind ?_
  unfold Builtin.SmallTypes.ownedTupleIsFree
  refine wpAny_bind (wpAny_field hz rfl (x := .none) rfl (wpAny_pure ?_))
  simp only [if_true]
  refine wpAny_bind (wpAny_rule (wpAny_bind (wpAny_field hz rfl (x := .ref TO) rfl (wpAny_bind (wpAny_setField_rec hz (by simp) fun h3 hz3 hs3 => ?_)))))
  replace hz3 : IsZip h3 z TI TO .ellipsis := hz3
  have hot3 : HotAt A x1 h3 := HotAt.keep hot fun o e => hs3.extBut x1 o nz e
  refine wpAny_bind ?_
  simp only [List.zipIdx_cons, List.zipIdx_nil, List.forIn_cons, List.forIn_nil]
  refine wpAny_bind (wpAny_bind (wpAny_onRaise ?_))
  show wpAny _ _ (Builtin.SmallTypes.nextOf (.ref i1) >>= _) _ _ _
  cases hx : xs[k1]? with
  | none =>
    refine wpAny_bind (nx_tupH (x1 := x1) hot3 (h1.extBut hs3.extBut D.i1z) (hl1.extBut hs3.extBut D.l1z) hx fun h4 e hs4 he => ?_)
    obtain ⟨oe, hoe, hce⟩ := he
    have hz4 : IsZip h4 z TI TO .ellipsis := hs4 _ _ D.i1z.symm hz3
    have hez : e ≠ z := fun x => by subst x; rw [hz4] at hoe; cases hoe; simp at hce
    exact wpAny_setField_rec hz4 (by simp) fun h5 _ hs5 => go h5 e (fun c o c1 _ c3 _ x => hs5.extBut _ _ c1 (hs4 _ _ c3 (hs3.extBut _ _ c1 x))) ⟨oe, hs5.extBut _ _ hez hoe, hce⟩
  | some x =>
    have hy : ys[k2]? = none := hend.elim (fun h => by rw [hx] at h; cases h) id
    refine wpAny_bind (nextOf_tuple_item (h1.extBut hs3.extBut D.i1z) (hl1.extBut hs3.extBut D.l1z) hx fun h4 h14 hs4 => wpAny_pure ?_)
    have hTO4 : IsPair h4 TO a b := hs4.extBut _ _ D.TOi1 (hs3.extBut _ _ D.TOz hTO)
    have hot4 : HotAt A x1 h4 := HotAt.keep hot3 fun o e => hs4.extBut x1 o n1 e
    refine wpAny_bind (wpAny_seqItems hTO4 rfl (wpAny_bind (wpAny_updateSeq_pair hTO4 fun h5 hTO5 hs5 => wpAny_bind (wpAny_letGo (wpAny_pure ?_)))))
    have hot5 : HotAt A x1 h5 := HotAt.keep hot4 fun o e => hs5.extBut x1 o nTO e
    refine wpAny_bind (wpAny_bind (wpAny_onRaise ?_))
    show wpAny _ _ (Builtin.SmallTypes.nextOf (.ref i2) >>= _) _ _ _
    refine wpAny_bind (nx_tupH (x1 := x1) hot5 (((h2.extBut hs3.extBut D.i2z).extBut hs4.extBut D.i12.symm).extBut hs5.extBut D.TOi2.symm) (((hl2.extBut hs3.extBut D.l2z).extBut hs4.extBut D.l2i1).extBut hs5.extBut D.l2TO) hy fun h6 e hs6 he => ?_)
    obtain ⟨oe, hoe, hce⟩ := he
    have hz6 : IsZip h6 z TI TO .ellipsis := hs6 _ _ D.i2z.symm (hs5.extBut _ _ D.TOz.symm (hs4.extBut _ _ D.i1z.symm hz3))
    have hez : e ≠ z := fun x => by subst x; rw [hz6] at hoe; cases hoe; simp at hce
    exact wpAny_setField_rec hz6 (by simp) fun h7 _ hs7 => go h7 e (fun c o c1 c2 c3 c4 x => hs7.extBut _ _ c1 (hs6 _ _ c4 (hs5.extBut _ _ c2 (hs4.extBut _ _ c3 (hs3.extBut _ _ c1 x))))) ⟨oe, hs7.extBut _ _ hez hoe, hce⟩
end
theorem turn_zipTH {P : Program} {w : World} {K : PySem.W.Frag} {elts : List Expr} {kk : Nat} {tpos : Pos} {a b z TI TO i1 i2 : Addr} (D : ZipApart z TI TO i1 i2 a b) :
    TurnH P w K (.Tuple elts kk tpos) (ItzT K a b) [z, TI, TO, i1, i2] z (fun i h => IsZip h z TI TO .none ∧ IsPair h TI (.ref i1) (.ref i2) ∧ (∃ x y, IsPair h TO x y) ∧ h.IsTupleIter i1 a i ∧ h.IsTupleIter i2 b i) where
  mem := (turn_zipT (P := P) (w := w) (K := K) (elts := elts) (kk := kk) (tpos := tpos) D).mem
  obj := (turn_zipT (P := P) (w := w) (K := K) (elts := elts) (kk := kk) (tpos := tpos) D).obj
  keep := (turn_zipT (P := P) (w := w) (K := K) (elts := elts) (kk := kk) (tpos := tpos) D).keep
  item := by
    intro X hP hw hK _ i pins s σ H E I hf st ⟨xs, ys, x, y, hqx, hqy, hx, hy⟩
    subst hP hw hK
    obtain ⟨gz, gTI, ⟨x0, y0, gTO⟩, j1, j2⟩ := st
    obtain ⟨us, rx, px, _⟩ := I.tuple hqx
    obtain ⟨vs, ry, py, _⟩ := I.tuple hqy
    obtain ⟨u, hu, ru⟩ := rx.get hx
    obtain ⟨v, hv, rv⟩ := ry.get hy
    have lz : z < s.heap.objs.size := Heap.lt_size gz
    have lall : ∀ c ∈ [z, TI, TO, i1, i2], c < s.heap.objs.size := fun c hc => by
      have e : c = z ∨ c = TI ∨ c = TO ∨ c = i1 ∨ c = i2 := by simpa using hc
      obtain ⟨o1, g1, _⟩ := j1
      obtain ⟨o2, g2, _⟩ := j2
      exact e.elim (fun q => q ▸ lz) fun e => e.elim (fun q => q ▸ Heap.lt_size gTI) fun e => e.elim (fun q => q ▸ Heap.lt_size gTO) fun e => e.elim (fun q => q ▸ Heap.lt_size g1) fun q => q ▸ Heap.lt_size g2
    refine pyNext_zipT_item D gz gTI gTO j1 j2 px py (x := u) (y := v) (by simpa using hu) (by simpa using hv) fun h2 z2 TO2 j12 j22 T2 sz2 k2 => ⟨_, rfl, wpAny_letOwnedTupleGo_zip (s := { s with heap := h2 }) z2 fun h3 z3 sb => ?_⟩
    have up : ∀ {c o}, c ≠ z → h2.get? c = some o → h3.get? c = some o := fun {c o} n e => (sb.2 c n).trans e
    have T3 := up (Nat.ne_of_gt lz) T2
    have fresh : H s.heap.objs.size = none := I.hok.fresh (Nat.le_refl _)
    have I3 : Inv X pins σ (upd H s.heap.objs.size (.tup [x, y])) { s with heap := h3 } := by
      refine I.turnedNew (t' := s.toks) (ch := [z, TI, TO, i1, i2]) (fun c o hb q => ?_) hf (Nat.le_refl _) ⟨by show 2 ≤ sizeLine; decide, [u, v], .cons ru (.cons rv .nil), ⟨_, T3, rfl, _, rfl⟩⟩
      have n : ∀ e ∈ [z, TI, TO, i1, i2], c ≠ e := fun e he q' => hb (q' ▸ he)
      exact up (n z (by simp)) (k2 c o (n z (by simp)) (n TO (by simp)) (n i1 (by simp)) (n i2 (by simp)) q)
    refine ⟨.ref s.heap.objs.size, _, I3, rfl, ⟨_, x, y, rfl, fresh, rfl, fun l hl => (I.tuple_inj hl hqx) ▸ hx, fun l hl => (I.tuple_inj hl hqy) ▸ hy⟩, ⟨z3, up D.TIz (k2 _ _ D.TIz D.TITO D.TIi1 D.TIi2 gTI), ⟨u, v, up D.TOz TO2⟩, j12.at fun o q => up D.i1z q, j22.at fun o q => up D.i2z q⟩, fun c hc => ?_⟩
    rw [upd_ne (Nat.ne_of_lt (lall c hc))]
    exact (hf c hc).1
  done := by
    intro X hP hw hK hc i pins s σ H E I hf st hg
    subst hP hw hK
    obtain ⟨hz, hTI, ⟨x0, y0, hTO⟩, h1, h2⟩ := st
    obtain ⟨xs, ys, hqx, hqy, hend⟩ := hg
    obtain ⟨its, rv, p, _⟩ := I.tuple hqx
    obtain ⟨its2, rv2, p2, _⟩ := I.tuple hqy
    have l1 := rv.length
    have l2 := rv2.length
    have he : its.toArray[i]? = none ∨ its2.toArray[i]? = none := hend.elim (fun q => .inl (by simp; omega)) fun q => .inr (by simp; omega)
    obtain ⟨x1, hot⟩ := hc.at I
    exact zip_endH hot D hz hTI hTO h1 h2 p p2 he fun h' hk => ⟨rfl, I.turnedL (t' := s.toks) (ch := [z, TI, TO, i1, i2]) (fun c o hb q =>
      hk c o (fun q' => hb (by simp [q'])) (fun q' => hb (by simp [q'])) (fun q' => hb (by simp [q'])) (fun q' => hb (by simp [q'])) q) hf⟩
  self := (turn_zipT (P := P) (w := w) (K := K) (elts := elts) (kk := kk) (tpos := tpos) D).self
section
variable {X : Cx}
/-- zip of two tuples -/
def iZipT (K : PySem.W.Frag) (ta : TA) : TI := fun σ H R => ta σ H fun vs H1 => ∃ a b xs ys, vs = [.ref a, .ref b] ∧ SqT K H1 a xs ∧ SqT K H1 b ys ∧ R (ItzT K a b) H1
theorem pi_zipTH {e e2 : Expr} {ta : TA} {p pos tpos : Pos} {elts : List Expr} {kk : Nat} (hg : Gl X "zip") (hm : X.mg "zip" = none) (ha : PA X [e, e2] ta)
    (hs : starEach [e, e2] X.env = (false, eval e X.env) :: starEach [e2] X.env := by rfl) (hpl : (backTo pos (starEach [e2] X.env)).any (·.1) = false := by rfl) :
    PIH X (.Tuple elts kk tpos) (.Call (.Name "zip" p) [e, e2] [] pos) (iZipT X.K ta) :=
  ⟨fun pins s σ H R I h => Call_ (ld_blt I hg hm PyProof.Rows.boot_zip (PyProof.Rows.callWith_type1 (thn (ha.run pos pins s σ H _ I h) fun us s1 ⟨vs, H1, I1, r1, q1⟩ => by
    obtain ⟨a, b, xs, ys, rfl, hx, hy, q⟩ := q1
    obtain ⟨va, r, rfl, ra, rr⟩ : ∃ va r, us = va :: r ∧ RelV (.ref a) va ∧ Vals [.ref b] r := by cases r1 with | cons r rr => exact ⟨_, _, rfl, r, rr⟩
    obtain rfl : va = Value.ref a := ra
    obtain rfl := Vals.ref1 rr
    obtain ⟨its, rv, p1, _⟩ := I1.tuple hx
    obtain ⟨its2, rv2, p2, _⟩ := I1.tuple hy
    obtain ⟨o1, g1, _⟩ := id p1
    obtain ⟨o2, g2, _⟩ := id p2
    have new5 : ∀ c ∈ [s1.heap.objs.size + 4, s1.heap.objs.size + 2, s1.heap.objs.size + 3, s1.heap.objs.size, s1.heap.objs.size + 1], FpOk X pins H1 c := fun c hc => by
      have hle : s1.heap.objs.size ≤ c := by simp at hc; omega
      exact I1.fpOk hle (I1.hok.fresh hle)
    refine call_zipT (show s1.heap.IsTuple a its.toArray from p1) (show s1.heap.IsTuple b its2.toArray from p2) fun h' hz hTI hTO k1 k2 hsz hk => wpAny_pyIter_zip hz ?_
    exact ⟨s1.heap.objs.size + 4, [s1.heap.objs.size + 4, s1.heap.objs.size + 2, s1.heap.objs.size + 3, s1.heap.objs.size, s1.heap.objs.size + 1], _, _, H1, rfl, I1.kept (t' := s1.toks) hk, turn_zipTH (PySem.W.ktu_apart s1.heap.objs.size a b (Heap.lt_size g1) (Heap.lt_size g2)), ⟨hz, hTI, ⟨_, _, hTO⟩, k1, k2⟩, new5, q⟩) hs hpl))⟩
end
end HL

end
section
set_option Elab.async false
set_option linter.all false
set_option maxRecDepth 100000
set_option maxHeartbeats 4000000
namespace P5
open PySem PySem.Spec PySem.SeqAt PyProof.Rows L2
theorem hu64H {A : Around} {k : Nat} (hr : L2H.RoomH k A) : A.units + 64 < cLine := by have := hr.un; omega
section
variable {P : Program} {w : World} {K : PySem.W.Frag} {mg : Str → Option Value} {base : Heap} {aN aS CE CP CB : Addr}
abbrev sIsCh : Stmt := tp 27
abbrev NIsCh : List Str := ["thing", "first", "last", "words", "word"]
theorem scIsCh : FnScope NIsCh ["thing"] (defScope sIsCh) := ⟨rfl, rfl, rfl, by decide +kernel, rfl, by decide +kernel, by decide +kernel⟩
def spIsCh (K : PySem.W.Frag) : Sp := fun vs H Q _ => ∃ (v : V) (e : Ed), vs = [v] ∧ ChV K H v e ∧ e.Ok ∧ (e.a < e.b ∨ e.ws ≠ []) ∧ ∀ H', Same H H' → Q (.bl true) H'

theorem ok_isch {f fw fm : Addr} {fd fdw fdm : FuncData} (F : Fun K "is_change" "is_change" sIsCh f fd) (B : BN mg)
    (G1 : FnOk P w K mg base CX0 1 fw fdw ["thing"] spWhole) (b1 : Binds K fdw ["thing"] []) (k1 : PySem.W.keepIn K (.ref fw) = true) (m1 : mg "is_whole" = some (.ref fw))
    (G2 : FnOk P w K mg base CX0 3 fm fdm ["thing"] spMark) (b2 : Binds K fdm ["thing"] []) (k2 : PySem.W.keepIn K (.ref fm) = true) (m2 : mg "is_mark" = some (.ref fm)) : FnOk P w K mg base CX0 4 f fd ["thing"] (spIsCh K) := by
  refine F.ok scIsCh (fun vs H Q E h => ?_) (fun cdv A outer s H vs Q E hr h => ?_)
  · obtain ⟨_, _, rfl, _⟩ := h
    rfl
  obtain ⟨_, e, rfl, ⟨x, t, rfl, hx, ht⟩, ho, hne, q⟩ := h
  refine ⟨_, pss_cons (ps_if (PW.pt (pw_or (pt_not (pt_val (pe_callB call_isi rfl B.isi (by decide +kernel) (pa_cons (pv 0) (pa_cons (pe_tupT B.tup) pa_nil)))))
      (pw_or1 (pt_cmpR op_ne (pe_callB call_len_seq rfl B.len PySem.boot_len (pa_cons (pv 0) pa_nil)) pe_int (nomark _))))) (pss_one (ps_ret pe_bl)) pss_nil)
    (pss_cons (ps_asg (pv 0) (pg_tup rfl (pgs_cons (pg_name (i := 1) scIsCh.nd rfl (Or.inl rfl)) (pgs_cons (pg_name (i := 2) scIsCh.nd rfl (Or.inl rfl)) (pgs_cons (pg_name (i := 3) scIsCh.nd rfl (Or.inl rfl)) pgs_nil)))))
    (pss_cons (ps_if (PW.pt (pw_or (pt_not (pt_val (pe_call G1 (hr.mono (by decide)) rfl m1 k1 b1 .nil pass0 (pa_cons (pv 1) pa_nil)))) (pw_or (pt_not (pt_val (pe_call G1 (hr.mono (by decide)) rfl m1 k1 b1 .nil pass0 (pa_cons (pv 2) pa_nil))))
      (pw_or1 (pt_not (pt_chain op_le op_le pe_int (pv 1) (pv 2))))))) (pss_one (ps_ret pe_bl)) pss_nil)
    (pss_cons (ps_if (PW.pt (pw_or (pt_not (pt_val (pe_callB call_isi rfl B.isi (by decide +kernel) (pa_cons (pv 3) (pa_cons (pe_tupT B.tup) pa_nil)))))
      (pw_or1 (pt_not (pt_val (pe_callB (cr_all rfl) rfl B.all (by decide +kernel) (pa_cons (pe_lc (own := [("word", 4)]) (g := gName 4) rfl scIsCh.nd (pi_tup (pv 3))
      (blkOk_by (N := NIsCh) (sc := defScope sIsCh) (by decide +kernel)) (fun _ _ _ _ _ => pg_name (i := 4) scIsCh.nd rfl (Or.inl rfl)) (fun _ _ _ _ _ => pts_nil)
      (fun _ _ _ _ _ => pe_call G2 hr rfl m2 k2 b2 .nil pass0 (pa_cons (pv 4) pa_nil))) pa_nil))))))) (pss_one (ps_ret pe_bl)) pss_nil)
    (pss_one (ps_ret (pe_or (pe_cmpR op_lt (pv 1) (pv 2) (nomark _)) (pe_one (pe_cmpR op_gt (pe_callB call_len_seq rfl B.len PySem.boot_len (pa_cons (pv 3) pa_nil)) pe_int (nomark _))))))))), ?_⟩
  have hle := ho.le
  have hsm := ho.sm
  refine ⟨_, rfl, .ref x, .ty "tuple", .type "tuple", .type "tuple", true, rfl, .ty _, sqT_ty hx, kit_ty (by decide +kernel), _, rfl, iteF ?_⟩
  refine ⟨_, rfl, x, _, rfl, .inr hx, rfl, _, rfl, iteFF rfl ?_⟩
  refine ⟨_, rfl, x, _, rfl, hx, rfl, _, _, rfl, _, _, rfl, _, _, rfl, rfl, ?_⟩
  refine ⟨_, rfl, _, rfl, _, rfl, iteF ⟨_, rfl, _, rfl, _, rfl, iteF ⟨_, rfl, _, _, rfl, rfl, _, rfl, iteTT (decide_eq_true (by omega)) ⟨_, rfl, _, _, rfl, rfl, _, rfl, ?_⟩⟩⟩⟩
  refine iteFF (by rw [decide_eq_true (by omega)]; rfl) ?_
  refine ⟨_, rfl, .ref t, .ty "tuple", .type "tuple", .type "tuple", true, rfl, .ty _, sqT_ty ht, kit_ty (by decide +kernel), _, rfl, iteF ?_⟩
  have trues : (List.replicate e.ws.length true).all id = true := by
    rw [List.all_eq_true]
    intro b hb
    exact List.eq_of_mem_replicate hb
  refine ⟨_, rfl, t, rfl, ⟨_, ht⟩, fun D hN => lcT ((List.replicate e.ws.length true).map V.bl) (by rw [List.length_map, List.length_replicate, List.length_map]) (by rw [List.length_map]; omega) ht hN (fun i y x' H' Q' hx' hy s k => ?_) fun H' s hL => ?_⟩
  · have ey : y = .bl true := by
      obtain ⟨b, hb, e⟩ := List.mem_map.mp (List.mem_of_getElem? hy)
      rw [← e, List.eq_of_mem_replicate hb]
    rw [List.getElem?_map] at hx'
    cases e2 : e.ws[i]? with
    | none => rw [e2] at hx'; cases hx'
    | some z =>
      rw [e2] at hx'
      cases hx'
      subst ey
      exact ⟨rfl, _, rfl, z, ho.mrk z (List.mem_of_getElem? e2), rfl, fun H' s' => k H' s'⟩
  refine ⟨D, _, rfl, SqL.of hL, _, rfl, ?_⟩
  rw [trues]
  refine iteF ?_
  have ht' := Same.tup s ht
  refine ⟨_, rfl, _, rfl, _, _, rfl, rfl, _, rfl, ?_⟩
  by_cases c : e.a < e.b
  · exact iteTT (decide_eq_true (by omega)) (q H' s)
  · refine iteFF (decide_eq_false (by omega)) ⟨_, rfl, t, _, rfl, .inr ht', _, _, rfl, rfl, ?_⟩
    have hw : e.ws ≠ [] := hne.elim (fun h => absurd h c) id
    have hl : 0 < e.ws.length := List.length_pos_iff.mpr hw
    have z := q H' s
    rw [show (true : Bool) = decide ((0 : Int) < ((e.ws.map V.str).length : Int)) from (decide_eq_true (by rw [List.length_map]; omega)).symm] at z
    exact z

theorem ok_ischH {f fw fm : Addr} {fd fdw fdm : FuncData} (F : Fun K "is_change" "is_change" sIsCh f fd) (B : BN mg)
    (G1 : L2H.FnH P w K mg base CX0 1 fw fdw ["thing"] spWhole) (b1 : Binds K fdw ["thing"] []) (k1 : PySem.W.keepIn K (.ref fw) = true) (m1 : mg "is_whole" = some (.ref fw))
    (G2 : L2H.FnH P w K mg base CX0 3 fm fdm ["thing"] spMark) (b2 : Binds K fdm ["thing"] []) (k2 : PySem.W.keepIn K (.ref fm) = true) (m2 : mg "is_mark" = some (.ref fm)) : L2H.FnH P w K mg base CX0 4 f fd ["thing"] (spIsCh K) := by
  refine okH F scIsCh (fun vs H Q E h => ?_) (fun cdv A outer s H vs Q E q0 hot hr h => ?_)
  · obtain ⟨_, _, rfl, _⟩ := h
    rfl
  obtain ⟨_, e, rfl, ⟨x, t, rfl, hx, ht⟩, ho, hne, q⟩ := h
  refine ⟨_, pss_cons (ps_if (PW.pt (pw_or (pt_not (pt_val (pe_callB call_isi rfl B.isi (by decide +kernel) (pa_cons (pv 0) (pa_cons (pe_tupT B.tup) pa_nil)))))
      (pw_or1 (pt_cmpR op_ne (pe_callB call_len_seq rfl B.len PySem.boot_len (pa_cons (pv 0) pa_nil)) pe_int (nomark _))))) (pss_one (ps_ret pe_bl)) pss_nil)
    (pss_cons (ps_asg (pv 0) (HL.pg_tupH hot (pgs_cons (pg_name (i := 1) scIsCh.nd rfl (Or.inl rfl)) (pgs_cons (pg_name (i := 2) scIsCh.nd rfl (Or.inl rfl)) (pgs_cons (pg_name (i := 3) scIsCh.nd rfl (Or.inl rfl)) pgs_nil)))))
    (pss_cons (ps_if (PW.pt (pw_or (pt_not (pt_val (L2H.pe_callH (E := fun _ => E0) G1 (hr.mono (by decide)) hot rfl m1 k1 b1 passH (pa_cons (pv 1) pa_nil)))) (pw_or (pt_not (pt_val (L2H.pe_callH (E := fun _ => E0) G1 (hr.mono (by decide)) hot rfl m1 k1 b1 passH (pa_cons (pv 2) pa_nil))))
      (pw_or1 (pt_not (pt_chain op_le op_le pe_int (pv 1) (pv 2))))))) (pss_one (ps_ret pe_bl)) pss_nil)
    (pss_cons (ps_if (PW.pt (pw_or (pt_not (pt_val (pe_callB call_isi rfl B.isi (by decide +kernel) (pa_cons (pv 3) (pa_cons (pe_tupT B.tup) pa_nil)))))
      (pw_or1 (pt_not (pt_val (pe_callB (HL.cr_allH hot) rfl B.all (by decide +kernel) (pa_cons (HL.pe_lcH hot (own := [("word", 4)]) (g := gName 4) scIsCh.nd (HL.pi_tupH (pv 3))
      (blkOk_by (N := NIsCh) (sc := defScope sIsCh) (by decide +kernel)) (fun _ _ _ _ _ _ hotb => pg_name (i := 4) scIsCh.nd rfl (Or.inl rfl)) 
      (fun _ _ _ _ _ _ hot => L2H.pe_callH (E := fun _ => E0) G2 hr hot rfl m2 k2 b2 passH (pa_cons (pv 4) pa_nil))) pa_nil))))))) (pss_one (ps_ret pe_bl)) pss_nil)
    (pss_one (ps_ret (pe_or (pe_cmpR op_lt (pv 1) (pv 2) (nomark _)) (pe_one (pe_cmpR op_gt (pe_callB call_len_seq rfl B.len PySem.boot_len (pa_cons (pv 3) pa_nil)) pe_int (nomark _))))))))), ?_⟩
  have hle := ho.le
  have hsm := ho.sm
  refine ⟨_, rfl, .ref x, .ty "tuple", .type "tuple", .type "tuple", true, rfl, .ty _, sqT_ty hx, kit_ty (by decide +kernel), _, rfl, iteF ?_⟩
  refine ⟨_, rfl, x, _, rfl, .inr hx, rfl, _, rfl, iteFF rfl ?_⟩
  refine ⟨_, rfl, x, _, rfl, hx, rfl, _, _, rfl, _, _, rfl, _, _, rfl, rfl, ?_⟩
  refine ⟨_, rfl, _, rfl, _, rfl, iteF ⟨_, rfl, _, rfl, _, rfl, iteF ⟨_, rfl, _, _, rfl, rfl, _, rfl, iteTT (decide_eq_true (by omega)) ⟨_, rfl, _, _, rfl, rfl, _, rfl, ?_⟩⟩⟩⟩
  refine iteFF (by rw [decide_eq_true (by omega)]; rfl) ?_
  refine ⟨_, rfl, .ref t, .ty "tuple", .type "tuple", .type "tuple", true, rfl, .ty _, sqT_ty ht, kit_ty (by decide +kernel), _, rfl, iteF ?_⟩
  have trues : (List.replicate e.ws.length true).all id = true := by
    rw [List.all_eq_true]
    intro b hb
    exact List.eq_of_mem_replicate hb
  refine ⟨_, rfl, t, rfl, ⟨_, ht⟩, fun D hN => lcT ((List.replicate e.ws.length true).map V.bl) (by rw [List.length_map, List.length_replicate, List.length_map]) (by rw [List.length_map]; omega) ht hN (fun i y x' H' Q' hx' hy s k => ?_) fun H' s hL => ?_⟩
  · have ey : y = .bl true := by
      obtain ⟨b, hb, e⟩ := List.mem_map.mp (List.mem_of_getElem? hy)
      rw [← e, List.eq_of_mem_replicate hb]
    rw [List.getElem?_map] at hx'
    cases e2 : e.ws[i]? with
    | none => rw [e2] at hx'; cases hx'
    | some z =>
      rw [e2] at hx'
      cases hx'
      subst ey
      exact ⟨rfl, _, rfl, z, ho.mrk z (List.mem_of_getElem? e2), rfl, fun H' s' => k H' s'⟩
  refine ⟨D, _, rfl, SqL.of hL, _, rfl, ?_⟩
  rw [trues]
  refine iteF ?_
  have ht' := Same.tup s ht
  refine ⟨_, rfl, _, rfl, _, _, rfl, rfl, _, rfl, ?_⟩
  by_cases c : e.a < e.b
  · exact iteTT (decide_eq_true (by omega)) (q H' s)
  · refine iteFF (decide_eq_false (by omega)) ⟨_, rfl, t, _, rfl, .inr ht', _, _, rfl, rfl, ?_⟩
    have hw : e.ws ≠ [] := hne.elim (fun h => absurd h c) id
    have hl : 0 < e.ws.length := List.length_pos_iff.mpr hw
    have z := q H' s
    rw [show (true : Bool) = decide ((0 : Int) < ((e.ws.map V.str).length : Int)) from (decide_eq_true (by rw [List.length_map]; omega)).symm] at z
    exact z
end
end P5

end
section
set_option Elab.async false
set_option linter.all false
set_option maxRecDepth 100000
set_option maxHeartbeats 4000000
namespace P5
open PySem PySem.Spec PySem.SeqAt PyProof.Rows L2
theorem apt_ne : ∀ {C : List Ed} {t : Bool} {s : Nat} {e : Ed}, Apt t s C → e ∈ C → e.a < e.b ∨ e.ws ≠ []
  | [], _, _, _, _, h => by cases h
  | d :: C, _, _, e, .cons h1 h2 h3 h4 h5, h => by
    rcases List.mem_cons.mp h with z | z
    · rw [z]; exact h4
    · exact apt_ne h5 z
theorem apt_head {C : List Ed} {s : Nat} {e : Ed} (h : Apt true s C) (he : C[0]? = some e) : s < e.a := by
  cases h with
  | nil => simp at he
  | cons h1 h2 h3 h4 h5 =>
    cases he
    exact h2 rfl
theorem apt_pair : ∀ {C : List Ed} {t : Bool} {s i : Nat} {e e' : Ed}, Apt t s C → C[i]? = some e → C[i + 1]? = some e' → e.b < e'.a
  | _, _, _, 0, _, _, .cons _ _ _ _ h5, h, h' => by
    cases h
    exact apt_head h5 (by simpa using h')
  | _, _, _, i + 1, _, _, .cons (C := C) _ _ _ _ h5, h, h' => apt_pair (C := C) (i := i) h5 (by simpa using h) (by simpa using h')
  | _, _, _, _, _, _, .nil, h, _ => by simp at h
section
variable {P : Program} {w : World} {K : PySem.W.Frag} {mg : Str → Option Value} {base : Heap} {aN aS CE CP CB : Addr}
abbrev sPInit : Stmt := inClass (tp 26) 0
abbrev NPInit : List Str := ["self", "changes", "least", "change", "one", "other", "_", "last"]
theorem scPInit : FnScope NPInit ["self", "changes", "least"] (defScope sPInit) := ⟨rfl, rfl, rfl, by decide +kernel, rfl, by decide +kernel, by decide +kernel⟩

theorem ok_pinit {f fw fc : Addr} {fd fdw fdc : FuncData} (F : Fun K "__init__" "Patch.__init__" sPInit f fd) (B : BN mg) (mZ : mg "zip" = none) (EP : PC K CP)
    (G1 : FnOk P w K mg base CX0 1 fw fdw ["thing"] spWhole) (b1 : Binds K fdw ["thing"] []) (k1 : PySem.W.keepIn K (.ref fw) = true) (m1 : mg "is_whole" = some (.ref fw))
    (G2 : FnOk P w K mg base CX0 4 fc fdc ["thing"] (spIsCh K)) (b2 : Binds K fdc ["thing"] []) (k2 : PySem.W.keepIn K (.ref fc) = true) (m2 : mg "is_change" = some (.ref fc)) : FnOk P w K mg base CX0 5 f fd ["self", "changes", "least"] (spPInit K CP) := by
  refine F.ok scPInit (fun vs H Q E h => ?_) (fun cdv A outer s H vs Q E hr h => ?_)
  · obtain ⟨_, _, _, _, _, _, rfl, _⟩ := h
    rfl
  obtain ⟨p, dx, t, cs, C, m, rfl, hp, hT, hV, hO, q⟩ := h
  refine ⟨_, pss_cons (ps_if (PW.pt (pw_or (pt_not (pt_val (pe_callB call_isi rfl B.isi (by decide +kernel) (pa_cons (pv 1) (pa_cons (pe_tupT B.tup) pa_nil)))))
      (pw_or1 (pt_not (pt_val (pe_callB (cr_all rfl) rfl B.all (by decide +kernel) (pa_cons (pe_lc (own := [("change", 3)]) (g := gName 3) rfl scPInit.nd (pi_tup (pv 1))
      (blkOk_by (N := NPInit) (sc := defScope sPInit) (by decide +kernel)) (fun _ _ _ _ _ => pg_name (i := 3) scPInit.nd rfl (Or.inl rfl)) (fun _ _ _ _ _ => pts_nil)
      (fun _ _ _ _ _ => pe_call G2 hr rfl m2 k2 b2 .nil pass0 (pa_cons (pv 3) pa_nil))) pa_nil))))))) (pss_one ps_never) pss_nil)
    (pss_cons (ps_if (pt_not (pt_val (pe_callB (cr_all rfl) rfl B.all (by decide +kernel) (pa_cons (pe_lc (own := [("one", 4), ("other", 5)]) (g := gTup K 2 (gCons (gName 4) (gCons (gName 5) gNil))) rfl scPInit.nd
      (RZ.pi_zipA rfl mZ (pa_cons (pv 1) (pa_cons (pe_slice (r := rSlA K) sl_tupA (pv 1) (po_some pe_int) po_none) pa_nil)))
      (blkOk_by (N := NPInit) (sc := defScope sPInit) (by decide +kernel)) (fun _ _ _ _ _ => pg_tup rfl (pgs_cons (pg_name (i := 4) scPInit.nd rfl (Or.inl rfl)) (pgs_cons (pg_name (i := 5) scPInit.nd rfl (Or.inl rfl)) pgs_nil))) (fun _ _ _ _ _ => pts_nil)
      (fun _ _ _ _ _ => pe_cmpR op_lt (pe_ix (r := rIxT K) ix_tup (pv 4) pe_int (fun _ _ => rfl)) (pe_ix (r := rIxT K) ix_tup (pv 5) pe_int (fun _ _ => rfl)) (nomark _))) pa_nil)))) (pss_one ps_never) pss_nil)
    (pss_cons (ps_if (PW.pt (pw_or (pt_not (pt_val (pe_call G1 (hr.mono (by decide)) rfl m1 k1 b1 .nil pass0 (pa_cons (pv 2) pa_nil))))
      (pw_or1 (pt_cmpR op_lt (pv 2) (pe_callBK (HL.cr_mxD rfl) rfl B.max (by decide +kernel) (pa_cons (pe_lc (own := [("_", 6), ("last", 7)]) (g := gTup K 3 (gCons (gName 6) (gCons (gName 7) (gCons (gName 6) gNil)))) rfl scPInit.nd (pi_tup (pv 1))
      (blkOk_by (N := NPInit) (sc := defScope sPInit) (by decide +kernel)) (fun _ _ _ _ _ => pg_tup rfl (pgs_cons (pg_name (i := 6) scPInit.nd rfl (Or.inl rfl)) (pgs_cons (pg_name (i := 7) scPInit.nd rfl (Or.inl rfl)) (pgs_cons (pg_name (i := 6) scPInit.nd rfl (Or.inl rfl)) pgs_nil)))) (fun _ _ _ _ _ => pts_nil)
      (fun _ _ _ _ _ => pv 7)) pa_nil) (pk_cons pe_int pk_nil)) (nomark _))))) (pss_one ps_never) pss_nil)
    (pss_cons (ps_fld (pv 0) (pv 1) rfl) (pss_one (ps_fld (pv 0) (pv 2) rfl))))), ?_⟩
  have hl : cs.length = C.length := hV.len
  have hf := hO.few
  have allT : ∀ n : Nat, (List.replicate n true).all id = true := fun n => by
    rw [List.all_eq_true]
    intro b hb
    exact List.eq_of_mem_replicate hb
  have tru : ∀ {n i : Nat} {y : V}, ((List.replicate n true).map V.bl)[i]? = some y → y = .bl true := fun {n i y} hy => by
    obtain ⟨b, hb, e⟩ := List.mem_map.mp (List.mem_of_getElem? hy)
    rw [← e, List.eq_of_mem_replicate hb]
  refine ⟨_, rfl, .ref t, .ty "tuple", .type "tuple", .type "tuple", true, rfl, .ty _, sqT_ty hT, kit_ty (by decide +kernel), _, rfl, iteF ?_⟩
  refine ⟨_, rfl, t, rfl, ⟨_, hT⟩, fun D hD => lcT ((List.replicate cs.length true).map V.bl) (by rw [List.length_map, List.length_replicate]) (by omega) hT hD (fun i y x H' Q' hx hy s k => ?_) fun H1 s1 hL => ?_⟩
  · obtain ⟨e, hre, hch⟩ := hV.get hx
    rw [tru hy] at k
    exact ⟨rfl, _, rfl, x, e, rfl, ChV.same s hch, hO.ok e (List.mem_of_getElem? hre), apt_ne hO.apt (List.mem_of_getElem? hre), fun H4 s4 => k H4 s4⟩
  refine ⟨D, _, rfl, SqL.of hL, _, rfl, ?_⟩
  rw [allT]
  refine iteF ?_
  have hT1 := Same.tup s1 hT
  -- ascending and apart
  refine ⟨_, rfl, _, rfl, 1, rfl, noPart (slA_of hT1 fun H2 t2 s2 ht2 => ?_)⟩
  have e1 : cutV cs (some (1 : Int)) none = cs.drop 1 := by
    cases cs with
    | nil => rfl
    | cons x xs => exact cut_from (x :: xs) 1 (by show 1 ≤ xs.length + 1; omega)
  rw [e1] at ht2
  have hT2 := Same.tup s2 hT1
  have s12 := s1.trans s2
  refine ⟨t, t2, cs, cs.drop 1, rfl, .inr ⟨hT2, ht2, fun D2 hD2 => ?_⟩⟩
  refine lc_go (cs.drop 1).length (fun i v H' => ∃ T x y, v = .ref T ∧ SqT K H' T [x, y] ∧ cs[i]? = some x ∧ (cs.drop 1)[i]? = some y) ((List.replicate (cs.drop 1).length true).map V.bl) (by rw [List.length_map, List.length_replicate]) (by rw [List.length_drop]; omega) hD2
    (fun i H' hi s => ⟨cs, cs.drop 1, _, _, Same.tup s hT2, Same.tup s ht2, List.getElem?_eq_getElem (by rw [List.length_drop] at hi; omega), List.getElem?_eq_getElem hi⟩)
    (fun i x H' H'' hi s yl => ?_) (fun H' s => ⟨cs, cs.drop 1, Same.tup s hT2, Same.tup s ht2, .inr (Nat.le_refl _)⟩) (fun i y x H' Q' hy s hx k => ?_) fun H3 s3 hL3 => ?_
  · obtain ⟨T, a, b, rfl, nT, rfl, ha, hb⟩ := yl
    exact ⟨Same.new nT _, T, a, b, rfl, SqT.of upd_same, ha _ (Same.tup s hT2), hb _ (Same.tup s ht2)⟩
  · obtain ⟨T, a, b, rfl, hTT, ha, hb⟩ := hx
    obtain ⟨e, hre, hch⟩ := hV.get ha
    rw [List.getElem?_drop] at hb
    obtain ⟨e', hre', hch'⟩ := hV.get hb
    have hlt := apt_pair hO.apt hre (show C[i + 1]? = some e' by rw [Nat.add_comm]; exact hre')
    rw [tru hy] at k
    obtain ⟨xa, ta, rfl, hxa, _⟩ := ChV.same (s12.trans s) hch
    obtain ⟨xb, tb, rfl, hxb, _⟩ := ChV.same (s12.trans s) hch'
    refine ⟨T, _, rfl, hTT, rfl, _, _, rfl, _, _, rfl, rfl, rfl, _, rfl, ?_⟩
    refine ⟨xa, _, 1, .int e.b, rfl, rfl, hxa, rfl, _, rfl, xb, _, 0, .int e'.a, rfl, rfl, hxb, rfl, _, _, rfl, rfl, ?_⟩
    have z := k H' (Same.refl _)
    rw [show (true : Bool) = decide ((e.b : Int) < (e'.a : Int)) from (decide_eq_true (by omega)).symm] at z
    exact z
  refine ⟨D2, _, rfl, SqL.of hL3, _, rfl, ?_⟩
  rw [allT]
  refine iteF ?_
  have s13 := s12.trans s3
  have hT3 := Same.tup s3 hT2
  -- the least number
  refine ⟨_, rfl, _, rfl, _, rfl, iteF ⟨_, rfl, _, rfl, t, rfl, ⟨_, hT3⟩, fun D4 hD4 => lcT ((C.map fun e => (e.b : Int)).map V.int) (by rw [List.length_map, List.length_map]; exact hl.symm) (by omega) hT3 hD4 (fun i y x H' Q' hx hy s k => ?_) fun H4 s4 hL4 => ?_⟩⟩
  · obtain ⟨e, hre, hch⟩ := hV.get hx
    rw [List.getElem?_map, List.getElem?_map, hre] at hy
    cases hy
    obtain ⟨xa, ta, rfl, hxa, _⟩ := ChV.same (s13.trans s) hch
    exact ⟨xa, _, rfl, hxa, rfl, _, _, rfl, _, _, rfl, _, _, rfl, rfl, rfl, _, rfl, k H' (Same.refl _)⟩
  refine ⟨D4, C.map fun e => (e.b : Int), 0, rfl, rfl, SqL.of hL4, fun M h0 h1 _ => ⟨_, _, rfl, rfl, _, rfl, iteFF (decide_eq_false ?_) ?_⟩⟩
  · have hM : M ≤ (m : Int) := by
      by_cases z : C = []
      · have := h0 (by rw [z]; rfl)
        omega
      · obtain ⟨e, he, em⟩ := List.mem_map.mp (h1 fun y => z (List.map_eq_nil_iff.mp y))
        have := (hO.apt.facts he).2
        have := hO.fin
        omega
    omega
  have s14 := s13.trans s4
  have hp4 := s14 _ _ hp
  refine ⟨_, rfl, _, rfl, p, CP, dx, [], rfl, hp4, EP.cl, EP.nC, (by show 0 < 1000; decide), ?_⟩
  refine ⟨_, rfl, _, rfl, p, CP, dx, _, rfl, upd_same, EP.cl, EP.nL, (by show 1 < 1000; decide), ?_⟩
  have bt : But p H (upd (upd H4 p (.ins CP dx [("changes", .ref t)])) p (.ins CP dx [("changes", .ref t), ("least", .int m)])) := ((But.of s14).upd).upd
  exact q _ bt ⟨dx, t, cs, upd_same, but_tup hp bt hT, hV.imp fun _ _ z => but_tup hp bt z, hO⟩

theorem ok_pinitH {f fw fc : Addr} {fd fdw fdc : FuncData} (F : Fun K "__init__" "Patch.__init__" sPInit f fd) (B : BN mg) (mZ : mg "zip" = none) (EP : PC K CP)
    (G1 : L2H.FnH P w K mg base CX0 1 fw fdw ["thing"] spWhole) (b1 : Binds K fdw ["thing"] []) (k1 : PySem.W.keepIn K (.ref fw) = true) (m1 : mg "is_whole" = some (.ref fw))
    (G2 : L2H.FnH P w K mg base CX0 4 fc fdc ["thing"] (spIsCh K)) (b2 : Binds K fdc ["thing"] []) (k2 : PySem.W.keepIn K (.ref fc) = true) (m2 : mg "is_change" = some (.ref fc)) : L2H.FnH P w K mg base CX0 5 f fd ["self", "changes", "least"] (spPInit K CP) := by
  refine okH F scPInit (fun vs H Q E h => ?_) (fun cdv A outer s H vs Q E q0 hot hr h => ?_)
  · obtain ⟨_, _, _, _, _, _, rfl, _⟩ := h
    rfl
  obtain ⟨p, dx, t, cs, C, m, rfl, hp, hT, hV, hO, q⟩ := h
  refine ⟨_, pss_cons (ps_if (PW.pt (pw_or (pt_not (pt_val (pe_callB call_isi rfl B.isi (by decide +kernel) (pa_cons (pv 1) (pa_cons (pe_tupT B.tup) pa_nil)))))
      (pw_or1 (pt_not (pt_val (pe_callB (HL.cr_allH hot) rfl B.all (by decide +kernel) (pa_cons (HL.pe_lcH hot (own := [("change", 3)]) (g := gName 3) scPInit.nd (HL.pi_tupH (pv 1))
      (blkOk_by (N := NPInit) (sc := defScope sPInit) (by decide +kernel)) (fun _ _ _ _ _ _ hotb => pg_name (i := 3) scPInit.nd rfl (Or.inl rfl)) 
      (fun _ _ _ _ _ _ hot => L2H.pe_callH (E := fun _ => E0) G2 hr hot rfl m2 k2 b2 passH (pa_cons (pv 3) pa_nil))) pa_nil))))))) (pss_one ps_never) pss_nil)
    (pss_cons (ps_if (pt_not (pt_val (pe_callB (HL.cr_allH hot) rfl B.all (by decide +kernel) (pa_cons (HL.pe_lcH hot (own := [("one", 4), ("other", 5)]) (g := gTup K 2 (gCons (gName 4) (gCons (gName 5) gNil))) scPInit.nd
      (HL.pi_zipTH rfl mZ (pa_cons (pv 1) (pa_cons (pe_slice (r := rSlA K) sl_tupA (pv 1) (po_some pe_int) po_none) pa_nil)))
      (blkOk_by (N := NPInit) (sc := defScope sPInit) (by decide +kernel)) (fun _ _ _ _ _ _ hotb => HL.pg_tupH hotb (pgs_cons (pg_name (i := 4) scPInit.nd rfl (Or.inl rfl)) (pgs_cons (pg_name (i := 5) scPInit.nd rfl (Or.inl rfl)) pgs_nil))) 
      (fun _ _ _ _ _ _ hot => pe_cmpR op_lt (pe_ix (r := rIxT K) ix_tup (pv 4) pe_int (fun _ _ => rfl)) (pe_ix (r := rIxT K) ix_tup (pv 5) pe_int (fun _ _ => rfl)) (nomark _))) pa_nil)))) (pss_one ps_never) pss_nil)
    (pss_cons (ps_if (PW.pt (pw_or (pt_not (pt_val (L2H.pe_callH (E := fun _ => E0) G1 (hr.mono (by decide)) hot rfl m1 k1 b1 passH (pa_cons (pv 2) pa_nil))))
      (pw_or1 (pt_cmpR op_lt (pv 2) (pe_callBK (HL.cr_mxDH hot) rfl B.max (by decide +kernel) (pa_cons (HL.pe_lcH hot (own := [("_", 6), ("last", 7)]) (g := gTup K 3 (gCons (gName 6) (gCons (gName 7) (gCons (gName 6) gNil)))) scPInit.nd (HL.pi_tupH (pv 1))
      (blkOk_by (N := NPInit) (sc := defScope sPInit) (by decide +kernel)) (fun _ _ _ _ _ _ hotb => HL.pg_tupH hotb (pgs_cons (pg_name (i := 6) scPInit.nd rfl (Or.inl rfl)) (pgs_cons (pg_name (i := 7) scPInit.nd rfl (Or.inl rfl)) (pgs_cons (pg_name (i := 6) scPInit.nd rfl (Or.inl rfl)) pgs_nil)))) 
      (fun _ _ _ _ _ _ hot => pv 7)) pa_nil) (pk_cons pe_int pk_nil)) (nomark _))))) (pss_one ps_never) pss_nil)
    (pss_cons (ps_fld (pv 0) (pv 1) rfl) (pss_one (ps_fld (pv 0) (pv 2) rfl))))), ?_⟩
  have hl : cs.length = C.length := hV.len
  have hf := hO.few
  have allT : ∀ n : Nat, (List.replicate n true).all id = true := fun n => by
    rw [List.all_eq_true]
    intro b hb
    exact List.eq_of_mem_replicate hb
  have tru : ∀ {n i : Nat} {y : V}, ((List.replicate n true).map V.bl)[i]? = some y → y = .bl true := fun {n i y} hy => by
    obtain ⟨b, hb, e⟩ := List.mem_map.mp (List.mem_of_getElem? hy)
    rw [← e, List.eq_of_mem_replicate hb]
  refine ⟨_, rfl, .ref t, .ty "tuple", .type "tuple", .type "tuple", true, rfl, .ty _, sqT_ty hT, kit_ty (by decide +kernel), _, rfl, iteF ?_⟩
  refine ⟨_, rfl, t, rfl, ⟨_, hT⟩, fun D hD => lcT ((List.replicate cs.length true).map V.bl) (by rw [List.length_map, List.length_replicate]) (by omega) hT hD (fun i y x H' Q' hx hy s k => ?_) fun H1 s1 hL => ?_⟩
  · obtain ⟨e, hre, hch⟩ := hV.get hx
    rw [tru hy] at k
    exact ⟨rfl, _, rfl, x, e, rfl, ChV.same s hch, hO.ok e (List.mem_of_getElem? hre), apt_ne hO.apt (List.mem_of_getElem? hre), fun H4 s4 => k H4 s4⟩
  refine ⟨D, _, rfl, SqL.of hL, _, rfl, ?_⟩
  rw [allT]
  refine iteF ?_
  have hT1 := Same.tup s1 hT
  -- ascending and apart
  refine ⟨_, rfl, _, rfl, 1, rfl, noPart (slA_of hT1 fun H2 t2 s2 ht2 => ?_)⟩
  have e1 : cutV cs (some (1 : Int)) none = cs.drop 1 := by
    cases cs with
    | nil => rfl
    | cons x xs => exact cut_from (x :: xs) 1 (by show 1 ≤ xs.length + 1; omega)
  rw [e1] at ht2
  have hT2 := Same.tup s2 hT1
  have s12 := s1.trans s2
  refine ⟨t, t2, cs, cs.drop 1, rfl, hT2, ht2, fun D2 hD2 => ?_⟩
  refine lc_go (cs.drop 1).length (fun i v H' => ∃ T x y, v = .ref T ∧ SqT K H' T [x, y] ∧ cs[i]? = some x ∧ (cs.drop 1)[i]? = some y) ((List.replicate (cs.drop 1).length true).map V.bl) (by rw [List.length_map, List.length_replicate]) (by rw [List.length_drop]; omega) hD2
    (fun i H' hi s => ⟨cs, cs.drop 1, _, _, Same.tup s hT2, Same.tup s ht2, List.getElem?_eq_getElem (by rw [List.length_drop] at hi; omega), List.getElem?_eq_getElem hi⟩)
    (fun i x H' H'' hi s yl => ?_) (fun H' s => ⟨cs, cs.drop 1, Same.tup s hT2, Same.tup s ht2, .inr (Nat.le_refl _)⟩) (fun i y x H' Q' hy s hx k => ?_) fun H3 s3 hL3 => ?_
  · obtain ⟨T, a, b, rfl, nT, rfl, ha, hb⟩ := yl
    exact ⟨Same.new nT _, T, a, b, rfl, SqT.of upd_same, ha _ (Same.tup s hT2), hb _ (Same.tup s ht2)⟩
  · obtain ⟨T, a, b, rfl, hTT, ha, hb⟩ := hx
    obtain ⟨e, hre, hch⟩ := hV.get ha
    rw [List.getElem?_drop] at hb
    obtain ⟨e', hre', hch'⟩ := hV.get hb
    have hlt := apt_pair hO.apt hre (show C[i + 1]? = some e' by rw [Nat.add_comm]; exact hre')
    rw [tru hy] at k
    obtain ⟨xa, ta, rfl, hxa, _⟩ := ChV.same (s12.trans s) hch
    obtain ⟨xb, tb, rfl, hxb, _⟩ := ChV.same (s12.trans s) hch'
    refine ⟨T, _, rfl, hTT, rfl, _, _, rfl, _, _, rfl, rfl, rfl, _, rfl, ?_⟩
    refine ⟨xa, _, 1, .int e.b, rfl, rfl, hxa, rfl, _, rfl, xb, _, 0, .int e'.a, rfl, rfl, hxb, rfl, _, _, rfl, rfl, ?_⟩
    have z := k H' (Same.refl _)
    rw [show (true : Bool) = decide ((e.b : Int) < (e'.a : Int)) from (decide_eq_true (by omega)).symm] at z
    exact z
  refine ⟨D2, _, rfl, SqL.of hL3, _, rfl, ?_⟩
  rw [allT]
  refine iteF ?_
  have s13 := s12.trans s3
  have hT3 := Same.tup s3 hT2
  -- the least number
  refine ⟨_, rfl, _, rfl, _, rfl, iteF ⟨_, rfl, _, rfl, t, rfl, ⟨_, hT3⟩, fun D4 hD4 => lcT ((C.map fun e => (e.b : Int)).map V.int) (by rw [List.length_map, List.length_map]; exact hl.symm) (by omega) hT3 hD4 (fun i y x H' Q' hx hy s k => ?_) fun H4 s4 hL4 => ?_⟩⟩
  · obtain ⟨e, hre, hch⟩ := hV.get hx
    rw [List.getElem?_map, List.getElem?_map, hre] at hy
    cases hy
    obtain ⟨xa, ta, rfl, hxa, _⟩ := ChV.same (s13.trans s) hch
    exact ⟨xa, _, rfl, hxa, rfl, _, _, rfl, _, _, rfl, _, _, rfl, rfl, rfl, _, rfl, k H' (Same.refl _)⟩
  refine ⟨D4, C.map fun e => (e.b : Int), 0, rfl, rfl, SqL.of hL4, fun M h0 h1 _ => ⟨_, _, rfl, rfl, _, rfl, iteFF (decide_eq_false ?_) ?_⟩⟩
  · have hM : M ≤ (m : Int) := by
      by_cases z : C = []
      · have := h0 (by rw [z]; rfl)
        omega
      · obtain ⟨e, he, em⟩ := List.mem_map.mp (h1 fun y => z (List.map_eq_nil_iff.mp y))
        have := (hO.apt.facts he).2
        have := hO.fin
        omega
    omega
  have s14 := s13.trans s4
  have hp4 := s14 _ _ hp
  refine ⟨_, rfl, _, rfl, p, CP, dx, [], rfl, hp4, EP.cl, EP.nC, (by show 0 < 1000; decide), ?_⟩
  refine ⟨_, rfl, _, rfl, p, CP, dx, _, rfl, upd_same, EP.cl, EP.nL, (by show 1 < 1000; decide), ?_⟩
  have bt : But p H (upd (upd H4 p (.ins CP dx [("changes", .ref t)])) p (.ins CP dx [("changes", .ref t), ("least", .int m)])) := ((But.of s14).upd).upd
  exact q _ bt ⟨dx, t, cs, upd_same, but_tup hp bt hT, hV.imp fun _ _ z => but_tup hp bt z, hO⟩

theorem ok_peqH {f : Addr} {fd : FuncData} (F : Fun K "__eq__" "Patch.__eq__" sPEq f fd) (B : BN mg) (EP : PC K CP) (R : RIn K mg "Patch" CP) : L2H.FnH P w K mg base CX0 1 f fd ["self", "other"] (spPEq K CP) := by
  refine okH F scPEq (fun vs H Q E h => ?_) (fun cdv A outer s H vs Q E q0 hot hr h => ?_)
  · obtain ⟨_, _, _, _, _, _, rfl, _⟩ := h
    rfl
  obtain ⟨p, p2, C, D, m, k, rfl, ⟨dx, t, vs, hp, hT, hV, hO⟩, ⟨dx2, t2, vs2, hp2, hT2, hV2, hO2⟩, q⟩ := h
  refine ⟨_, pss_cons (ps_if (pt_not (pt_val (pe_callB call_isi rfl B.isi (by decide +kernel) (pa_cons (pv 1) (pa_cons (pgl R.g) pa_nil))))) (pss_one ps_never) pss_nil)
    (pss_one (ps_ret (pe_and (pe_cmpR (op_eqD (hu64H hr)) (pe_fld (pv 0) rfl) (pe_fld (pv 1) rfl) (nomark _)) (pe_one (pe_cmpR op_eq (pe_fld (pv 0) rfl) (pe_fld (pv 1) rfl) (nomark _)))))), ?_⟩
  refine ⟨_, rfl, .ref p2, .ref CP, .ref CP, .ref CP, true, rfl, .own _, .base (.ins hp2 EP.cl R.ha R.hn R.ht R.hm), R.kit, _, rfl, iteF ?_⟩
  refine ⟨_, rfl, p, CP, dx, _, .ref t, rfl, hp, EP.cl, EP.nC, rfl, _, rfl, p2, CP, dx2, _, .ref t2, rfl, hp2, EP.cl, EP.nC, rfl, .tuple (C.map chD), .tuple (D.map chD), .tup hT (dp_chs hV), .tup hT2 (dp_chs hV2), shaped_chsT hO.ok, shaped_chsT hO2.ok, _, rfl, ?_⟩
  rw [show PyData.eqv (.tuple (C.map chD)) (.tuple (D.map chD)) = decide (C = D) from eqv_chs C D]
  by_cases h : C = D
  · refine iteTT (decide_eq_true h) ⟨_, rfl, p, CP, dx, _, .int m, rfl, hp, EP.cl, EP.nL, rfl, _, rfl, p2, CP, dx2, _, .int k, rfl, hp2, EP.cl, EP.nL, rfl, rfl, ?_⟩
    have z := eq_end (Q := Q) (H := H) q
    rw [if_pos (decide_eq_true h)] at z
    exact z
  · refine iteFF (decide_eq_false h) ?_
    have z := eq_end (Q := Q) (H := H) q
    rw [if_neg (by rw [decide_eq_false h]; exact Bool.false_ne_true)] at z
    exact z
end
end P5

end
section
set_option Elab.async false
set_option linter.all false
set_option maxRecDepth 100000
set_option maxHeartbeats 4000000
namespace P5
open PySem PySem.Spec PySem.SeqAt PyProof.Rows L2
theorem fits_at {es : List Ed} {n i : Nat} {e : Ed} (h : Fits es n) (he : es[i]? = some e) : Fits (es.take i) n ∧ e.b ≤ siz (es.take i) n := by
  obtain ⟨hi, hd⟩ := kat_drop he
  have hs : es = es.take i ++ (e :: es.drop (i + 1)) := by rw [← hd, List.take_append_drop]
  rw [hs, Fits.app_iff2] at h
  exact ⟨h.1, h.2.1⟩
theorem PInv.few {L : Nat} {ps : List Pc} {F : List Str → List Str} {c s : Nat} (h : PInv L ps F c s) (hs : s ≤ 100) (hL : L ≤ 100) : PtOk (chg 0 [] ps) L ∧ ∀ l : List Str, L ≤ l.length → apC (chg 0 [] ps) 0 l = F l := by
  obtain ⟨i1, i2, i3⟩ := chg_ok (at_ := 0) (ws := []) h.wf (Nat.le_refl _)
  have htot := h.tot
  have ht := chg_ws ps 0 []
  simp only [List.length_nil] at ht
  have tl := (tot_le i1).2
  refine ⟨⟨i1, i2, fun e he => ?_, by omega, by omega⟩, fun l hl => ?_⟩
  · obtain ⟨f1, f2⟩ := i1.facts he
    have := tot_mem he
    exact ⟨f1, chg_mk (ws := []) h.mks (fun x hx => nomatch hx) e he, by omega, by omega⟩
  · have := i3 l hl
    rw [List.drop_zero, List.nil_append, h.den l hl] at this
    exact this
section
variable {P : Program} {w : World} {K : PySem.W.Frag} {mg : Str → Option Value} {base : Heap} {aN aS CE CP CB : Addr}
/-! ### check_patches -/
abbrev sChkP : Stmt := tp 30
theorem scChkP : FnScope ["patches", "told"] ["patches"] (defScope sChkP) := ⟨rfl, rfl, rfl, by decide +kernel, rfl, by decide +kernel, by decide +kernel⟩
def spChkP (K : PySem.W.Frag) (CP : Addr) : Sp := fun vs H Q _ => ∃ (l : Addr) (ps : List Addr), vs = [.ref l] ∧ SqL K H l (ps.map V.ref) ∧ (∀ p ∈ ps, InsI H p CP) ∧ ps.length ≤ 100 ∧ ∀ H', Same H H' → Q .non H'
theorem ok_chkp {f : Addr} {fd : FuncData} (F : Fun K "check_patches" "check_patches" sChkP f fd) (B : BN mg) (EP : PC K CP) (R : RIn K mg "Patch" CP) : FnOk P w K mg base CX0 1 f fd ["patches"] (spChkP K CP) := by
  refine F.ok scChkP (fun vs H Q E h => ?_) (fun cdv A outer s H vs Q E hr h => ?_)
  · obtain ⟨_, _, rfl, _⟩ := h
    rfl
  obtain ⟨l, ps, rfl, hS, hI, hl, q⟩ := h
  refine ⟨_, pss_one (ps_if (pt_not (pt_val (pe_callB (cr_all rfl) rfl B.all (by decide +kernel) (pa_cons (pe_lc (own := [("told", 1)]) (g := gName 1) rfl scChkP.nd (pi_list (pv 0))
      (blkOk_by (N := ["patches", "told"]) (sc := defScope sChkP) (by decide +kernel)) (fun _ _ _ _ _ => pg_name (i := 1) scChkP.nd rfl (Or.inl rfl)) (fun _ _ _ _ _ => pts_nil)
      (fun _ _ _ _ _ => pe_callB (id := "isinstance") (r := rIsi K) call_isi rfl B.isi (by decide +kernel) (pa_cons (pv 1) (pa_cons (pgl R.g) pa_nil)))) pa_nil)))) (pss_one ps_never) pss_nil), ?_⟩
  refine ⟨_, rfl, l, rfl, ⟨_, hS⟩, fun D hD => lcL ((List.replicate ps.length true).map V.bl) (by rw [List.length_map, List.length_map, List.length_replicate]) (by rw [List.length_map]; omega) hS hD (fun i y x H' Q' hx hy s k => ?_) fun H1 s1 hL => ?_⟩
  · have ey : y = .bl true := by
      obtain ⟨b, hb, e⟩ := List.mem_map.mp (List.mem_of_getElem? hy)
      rw [← e, List.eq_of_mem_replicate hb]
    rw [List.getElem?_map] at hx
    cases ep : ps[i]? with
    | none => rw [ep] at hx; cases hx
    | some p =>
      rw [ep] at hx
      cases hx
      obtain ⟨dx, fs, hp⟩ := hI p (List.mem_of_getElem? ep)
      rw [ey] at k
      exact ⟨rfl, _, rfl, .ref p, .ref CP, .ref CP, .ref CP, true, rfl, .own _, .base (.ins (s _ _ hp) EP.cl R.ha R.hn R.ht R.hm), R.kit, k H' (Same.refl _)⟩
  · refine ⟨D, _, rfl, SqL.of hL, _, rfl, ?_⟩
    rw [show (List.replicate ps.length true).all id = true from by
      rw [List.all_eq_true]
      intro b hb
      exact List.eq_of_mem_replicate hb]
    exact iteF (q H1 s1)
/-! ### patch -/
/-- a class's own instances are made -/
structure MkC (P : Program) (w : World) (K : PySem.W.Frag) (mg : Str → Option Value) (base : Heap) (x : Str) (C : Addr) (k : Nat) (ps : List Str) (sp : Sp) : Prop where
  ex : ∃ fI fdI, Mk K C fI ∧ FnOk P w K mg base CX0 k fI fdI ps sp ∧ L2.Binds K fdI ps []
  m : mg x = some (.ref C)
/-- a def of the module, by its level -/
structure Dk (P : Program) (w : World) (K : PySem.W.Frag) (mg : Str → Option Value) (base : Heap) (x : Str) (k : Nat) (ps : List Str) (sp : Sp) : Prop where
  ex : ∃ f fd, FnOk P w K mg base CX0 k f fd ps sp ∧ L2.Binds K fd ps [] ∧ PySem.W.keepIn K (.ref f) = true ∧ mg x = some (.ref f)
/-- a method of the class at C, by its level -/
structure MtK (P : Program) (w : World) (K : PySem.W.Frag) (mg : Str → Option Value) (base : Heap) (C : Addr) (k : Nat) (m : Str) (ps : List Str) (sp : Sp) : Prop where
  ex : ∃ f fd, Meth K C m f ∧ FnOk P w K mg base CX0 k f fd ps sp ∧ L2.Binds K fd ps []
abbrev sPatch : Stmt := tp 29
abbrev NPatch : List Str := ["edits", "edit", "pieces", "least", "growth"]
theorem scPatch : FnScope NPatch ["edits"] (defScope sPatch) := ⟨rfl, rfl, rfl, by decide +kernel, rfl, by decide +kernel, by decide +kernel⟩
theorem ok_patch {f : Addr} {fd : FuncData} (F : Fun K "patch" "patch" sPatch f fd) (B : BN mg) (mM : ∃ t, mg "MOST_EDITS" = some (.int 60 t)) (EE : EC K CE) (RE : RIn K mg "Edit" CE)
    (U : Dk P w K mg base "uncut" 1 [] (spUncut K)) (D : Dk P w K mg base "edited" 2 ["pieces", "first", "last", "words"] (spEdited K)) (Ch : Dk P w K mg base "changes_of" 1 ["pieces"] (spChg K))
    (G : MtK P w K mg base CE 1 "growth" ["self"] (spGrow K CE)) (M : MkC P w K mg base "Patch" CP 5 ["self", "changes", "least"] (spPInit K CP)) : FnOk P w K mg base CX0 12 f fd ["edits"] (spPatch K CE CP) := by
  refine F.ok scPatch (fun vs H Q E h => ?_) (fun cdv A outer s H vs Q E hr h => ?_)
  · obtain ⟨_, _, _, _, rfl, _⟩ := h
    rfl
  obtain ⟨l, cs, es, n0, rfl, hS, hE, hF, hn0, ht0, hl0, q⟩ := h
  obtain ⟨tk, gM⟩ := mM
  obtain ⟨fU, fdU, GU, bU, kU, mU⟩ := U.ex
  obtain ⟨fD, fdD, GD, bD, kD, mD⟩ := D.ex
  obtain ⟨fC, fdC, GC, bC, kC, mC⟩ := Ch.ex
  obtain ⟨fG, fdG, MG, GG, bG⟩ := G.ex
  obtain ⟨fI, fdI, MI, GI, bI⟩ := M.ex
  refine ⟨_, pss_cons (ps_if (PW.pt (pw_or (pt_not (pt_val (pe_callB call_isiT rfl B.isi (by decide +kernel) (pa_cons (pv 0) (pa_cons (pe_tup (pa_cons (pe_lstT B.lst) (pa_cons (pe_tupT B.tup) pa_nil))) pa_nil)))))
      (pw_or1 (pt_cmpR op_gt (pe_callB call_len_seq rfl B.len PySem.boot_len (pa_cons (pv 0) pa_nil)) (pe_glob (v := .int 60) rfl gM ⟨_, rfl⟩) (nomark _))))) (pss_one ps_never) pss_nil)
    (pss_cons (ps_if (pt_not (pt_val (pe_callB (cr_all rfl) rfl B.all (by decide +kernel) (pa_cons (pe_lc (own := [("edit", 1)]) (g := gName 1) rfl scPatch.nd (pi_alt (pi_list (pv 0)) (pi_tup (pv 0)))
      (blkOk_by (N := NPatch) (sc := defScope sPatch) (by decide +kernel)) (fun _ _ _ _ _ => pg_name (i := 1) scPatch.nd rfl (Or.inl rfl)) (fun _ _ _ _ _ => pts_nil)
      (fun _ _ _ _ _ => pe_callB (id := "isinstance") (r := rIsi K) call_isi rfl B.isi (by decide +kernel) (pa_cons (pv 1) (pa_cons (pgl RE.g) pa_nil)))) pa_nil)))) (pss_one ps_never) pss_nil)
    (pss_cons (ps_set (i := 2) scPatch.nd rfl (Or.inl rfl) (pe_call0 GU (hr.mono (by decide)) rfl mU kU bU .nil pass0)) (pss_cons (ps_set (i := 3) scPatch.nd rfl (Or.inl rfl) pe_int) (pss_cons (ps_set (i := 4) scPatch.nd rfl (Or.inl rfl) pe_int)
    (pss_cons (ps_for PassesOwn.never rfl (pi_alt (pi_list (pv 0)) (pi_tup (pv 0))) (pg_name (i := 1) scPatch.nd rfl (Or.inl rfl))
      (pss_cons (ps_set (i := 3) scPatch.nd rfl (Or.inl rfl) (pe_callB (call_max2 rfl) rfl B.max (by decide +kernel) (pa_cons (pv 3) (pa_cons (pe_op op_sub (pe_fld (pv 1) rfl) (pv 4)) pa_nil))))
      (pss_cons (ps_aug (i := 4) scPatch.nd rfl (Or.inl rfl) (pe_meth0 (pv 1) EE.cl MG GG (hr.mono (by decide)) bG .nil pass0) ip_add)
      (pss_one (ps_set (i := 2) scPatch.nd rfl (Or.inl rfl) (pe_call GD (hr.mono (by decide)) rfl mD kD bD .nil pass0 (pa_cons (pv 2) (pa_cons (pe_fld (pv 1) rfl) (pa_cons (pe_fld (pv 1) rfl) (pa_cons (pe_fld (pv 1) rfl) pa_nil))))))))))
    (pss_one (ps_ret (pe_make (E := E0) MI GI (hr.mono (by decide)) rfl M.m bI .nil pass0 (pa_cons (pe_call GC (hr.mono (by decide)) rfl mC kC bC .nil pass0 (pa_cons (pv 2) pa_nil)) (pa_cons (pv 3) pa_nil)))))))))), ?_⟩
  have hlc : cs.length = es.length := hE.len
  have hles : ∀ e ∈ es, e.a ≤ e.b := fun e he => by
    obtain ⟨i, hi⟩ := List.getElem?_of_mem he
    obtain ⟨hil, _⟩ := kat_drop hi
    obtain ⟨e', h1, dx, t, _, _, h2⟩ := hE.get (i := i) (c := cs[i]'(by omega)) (List.getElem?_eq_getElem (by omega))
    rw [hi] at h1
    cases h1
    exact h2.le
  refine ⟨_, rfl, (by show 2 ≤ sizeLine; decide), fun p0 hp0 => ?_⟩
  have s0 := Same.new hp0 (.tup [.ty "list", .ty "tuple"])
  have c0 : upd H p0 (.tup [.ty "list", .ty "tuple"]) p0 = some (.tup [.ty "list", .ty "tuple"]) := upd_same
  generalize upd H p0 (.tup [.ty "list", .ty "tuple"]) = H0 at *
  have hS0 := hS.same s0
  have hty : ∃ tn : String, TyX K H0 (.ref l) (.type tn) ∧ PySem.W.kitAny K (.type tn) [.type "list", .type "tuple"] = some true := by
    rcases hS0 with hS1 | hS1
    · exact ⟨"list", sqL_ty hS1, kitAny_cons (b := true) (kit_ty (by decide +kernel)) (fun z => nomatch z) (fun _ => rfl)⟩
    · exact ⟨"tuple", sqT_ty hS1, kitAny_cons (b := false) (kit_ty (by decide +kernel)) (fun _ => kitAny_cons (b := true) (kit_ty (by decide +kernel)) (fun z => nomatch z) (fun _ => rfl)) (fun z => nomatch z)⟩
  obtain ⟨tn, hty1, hty2⟩ := hty
  refine ⟨.ref l, p0, [.ty "list", .ty "tuple"], .type tn, [.type "list", .type "tuple"], true, rfl, c0, .cons (.ty _) (.cons (.ty _) .nil), hty1, hty2, _, rfl, iteF ?_⟩
  refine ⟨_, rfl, l, cs.map V.ref, rfl, hS0, _, _, rfl, rfl, _, rfl, iteFF (decide_eq_false (by rw [List.length_map]; omega)) ?_⟩
  have trues : (List.replicate cs.length true).all id = true := by
    rw [List.all_eq_true]
    intro b hb
    exact List.eq_of_mem_replicate hb
  rcases hS0 with hS1 | hS1
  · refine .inl ⟨_, rfl, l, rfl, ⟨_, hS1⟩, fun D0 hD0 => lcL ((List.replicate cs.length true).map V.bl) (by rw [List.length_map, List.length_map, List.length_replicate]) (by rw [List.length_map]; omega) hS1 hD0 (fun i y x H' Q' hx hy s k => ?_) fun H1 s1 hL => ?_⟩
    · skip
      have ey : y = .bl true := by
        obtain ⟨b, hb, e⟩ := List.mem_map.mp (List.mem_of_getElem? hy)
        rw [← e, List.eq_of_mem_replicate hb]
      rw [List.getElem?_map] at hx
      cases ec : cs[i]? with
      | none => rw [ec] at hx; cases hx
      | some c =>
        rw [ec] at hx
        cases hx
        obtain ⟨e, _, dxe, te, hce, _⟩ := hE.get ec
        rw [ey] at k
        exact ⟨rfl, _, rfl, .ref c, .ref CE, .ref CE, .ref CE, true, rfl, .own _, .base (.ins ((s0.trans s) _ _ hce) EE.cl RE.ha RE.hn RE.ht RE.hm), RE.kit, k H' (Same.refl _)⟩
    refine ⟨D0, _, rfl, SqL.of hL, _, rfl, ?_⟩
    rw [trues]
    refine iteF ⟨rfl, fun H2 lu v s2 hlu hv => ?_⟩
    have s02 := (s0.trans s1).trans s2
    have s12 := s1.trans s2
    refine .inl ⟨_, rfl, l, rfl, ⟨_, s12.seq hS1⟩, for_list (xs := cs.map V.ref) (fun i σ H' => Same H2 H' ∧ ∃ (lp : Addr) (pv : List V) (ps : List Pc) (L : Nat) (g : Int) (v1 : Option V), H' lp = some (.lst pv) ∧ PcsV K H' pv ps ∧ Run (es.take i) L g ∧ PInv L ps (fun l => done (es.take i) l) (1 + 3 * i) (tot (es.take i)) ∧ σ = [some (.ref l), v1, some (.ref lp), some (.int L), some (.int g)])
      ⟨Same.refl _, lu, [v], [.kp 0 none], 0, 0, none, hlu, RelL.one hv, Run.nil, PInv.start, rfl⟩ (fun i σ H' _ ⟨s3, _⟩ => (s12.trans s3).seq hS1) ?_ ?_⟩
    · rintro i x σ H3 hx ⟨s, lp, pv, ps, L, g, v1, hlp, hpv, hrun, hinv, rfl⟩
      rw [List.getElem?_map] at hx
      cases ec : cs[i]? with
      | none => rw [ec] at hx; cases hx
      | some c =>
        rw [ec] at hx
        cases hx
        obtain ⟨e, hre, hEc⟩ := hE.get ec
        obtain ⟨hil, _⟩ := kat_drop hre
        have s3 := s02.trans s
        obtain ⟨dxe, te, hce, hte, hoe⟩ := hEc.same s3
        obtain ⟨hF1, hF2⟩ := fits_at hF hre
        have hle := hoe.le
        have et : es.take (i + 1) = es.take i ++ [e] := take_more hre
        obtain ⟨L', hL'⟩ : ∃ L' : Nat, L' = (max (L : Int) (e.b - g)).toNat := ⟨_, rfl⟩
        have hLL : (L' : Int) = max (L : Int) (e.b - g) := by omega
        have hrun' := hrun.snoc hle hLL
        have hinv' := (hinv.mono (show L ≤ L' by omega)).edit (e := e) hle hoe.mrk (fun z hz => by
          have hf := (hrun.fit L').mpr (by omega)
          have hs := hrun.siz L' hf
          have hd := siz_done (es := es.take i) (l := z) (fun x hx => hles x (List.mem_of_mem_take hx)) (by rw [hz]; exact hf)
          rw [hz] at hd
          have : e.b ≤ (done (es.take i) z).length := by omega
          exact this)
        refine ⟨_, rfl, _, rfl, c, CE, dxe, _, .int e.b, rfl, hce, EE.cl, EE.nL, rfl, _, rfl, _, _, rfl, rfl, _, _, rfl, ?_⟩
        have emax : (if ((e.b : Int) - g) > (L : Int) then ((e.b : Int) - g) else (L : Int)) = (L' : Int) := by
          rw [hLL]
          by_cases z : ((e.b : Int) - g) > (L : Int)
          · rw [if_pos z]; omega
          · rw [if_neg z]; omega
        rw [emax]
        refine ⟨_, rfl, _, rfl, c, dxe, _, rfl, hce, rfl, c, e, rfl, ⟨dxe, te, hce, hte, hoe⟩, _, _, rfl, rfl, ?_⟩
        refine ⟨_, rfl, _, rfl, c, CE, dxe, _, .int e.a, rfl, hce, EE.cl, EE.nF, rfl, _, rfl, c, CE, dxe, _, .int e.b, rfl, hce, EE.cl, EE.nL, rfl, _, rfl, c, CE, dxe, _, .ref te, rfl, hce, EE.cl, EE.nW, rfl, ?_⟩
        have hc1 := hinv.cnt
        refine ⟨lp, te, pv, ps, e, rfl, SqL.of hlp, hpv, hte, hle, by omega, fun H5 l5 pv5 s5 hl5 hp5 => ⟨s.trans s5, l5, pv5, _, L', _, some (.ref c), hl5, hp5, ?_, ?_, rfl⟩⟩
        · rw [et]; exact hrun'
        · rw [et]
          have z := hinv'
          have e1 : (fun l => app e (done (es.take i) l)) = fun l => done (es.take i ++ [e]) l := by
            funext l
            rw [done_snoc]
          rw [e1] at z
          rw [tot_app, show tot [e] = e.ws.length from Nat.add_zero _]
          rw [show 1 + 3 * (i + 1) = 1 + 3 * i + 3 from by omega]
          exact z
    · rintro σ H3 ⟨s, lp, pv, ps, L, g, v1, hlp, hpv, hrun, hinv, rfl⟩
      rw [List.take_of_length_le (by rw [List.length_map]; omega)] at hrun hinv
      have hL0 : L ≤ n0 := (hrun.fit n0).mp hF
      have hc1 := hinv.cnt
      have ht1 := hinv.tot
      have s3 := s02.trans s
      refine ⟨_, rfl, lp, pv, ps, L, rfl, SqL.of hlp, hpv, hinv.wf, by rw [List.length_map] at hc1; omega, by omega, fun H5 t5 cv5 s5 ht5 hcv5 => ?_⟩
      refine ⟨_, rfl, ?_⟩
      obtain ⟨ok1, run1⟩ := hinv.patch (by rw [List.length_map]; omega) (by omega) (by omega)
      refine mk_pt (Q := fun x H2 => Q (.ref x) H2) ht5 hcv5 ok1 fun H6 x s6 fx q6 => ?_
      exact q H6 x _ L (s3.trans (s5.trans s6)) (fresh_of (s3.trans s5) fx) q6 ⟨hrun.lst, run1⟩
  · refine .inr ⟨_, rfl, l, rfl, ⟨_, hS1⟩, fun D0 hD0 => lcT ((List.replicate cs.length true).map V.bl) (by rw [List.length_map, List.length_map, List.length_replicate]) (by rw [List.length_map]; omega) hS1 hD0 (fun i y x H' Q' hx hy s k => ?_) fun H1 s1 hL => ?_⟩
    · skip
      have ey : y = .bl true := by
        obtain ⟨b, hb, e⟩ := List.mem_map.mp (List.mem_of_getElem? hy)
        rw [← e, List.eq_of_mem_replicate hb]
      rw [List.getElem?_map] at hx
      cases ec : cs[i]? with
      | none => rw [ec] at hx; cases hx
      | some c =>
        rw [ec] at hx
        cases hx
        obtain ⟨e, _, dxe, te, hce, _⟩ := hE.get ec
        rw [ey] at k
        exact ⟨rfl, _, rfl, .ref c, .ref CE, .ref CE, .ref CE, true, rfl, .own _, .base (.ins ((s0.trans s) _ _ hce) EE.cl RE.ha RE.hn RE.ht RE.hm), RE.kit, k H' (Same.refl _)⟩
    refine ⟨D0, _, rfl, SqL.of hL, _, rfl, ?_⟩
    rw [trues]
    refine iteF ⟨rfl, fun H2 lu v s2 hlu hv => ?_⟩
    have s02 := (s0.trans s1).trans s2
    have s12 := s1.trans s2
    refine .inr ⟨_, rfl, l, rfl, ⟨_, Same.tup s12 hS1⟩, for_tup (xs := cs.map V.ref) (fun i σ H' => Same H2 H' ∧ ∃ (lp : Addr) (pv : List V) (ps : List Pc) (L : Nat) (g : Int) (v1 : Option V), H' lp = some (.lst pv) ∧ PcsV K H' pv ps ∧ Run (es.take i) L g ∧ PInv L ps (fun l => done (es.take i) l) (1 + 3 * i) (tot (es.take i)) ∧ σ = [some (.ref l), v1, some (.ref lp), some (.int L), some (.int g)])
      ⟨Same.refl _, lu, [v], [.kp 0 none], 0, 0, none, hlu, RelL.one hv, Run.nil, PInv.start, rfl⟩ (fun i σ H' _ ⟨s3, _⟩ => Same.tup (s12.trans s3) hS1) ?_ ?_⟩
    · rintro i x σ H3 hx ⟨s, lp, pv, ps, L, g, v1, hlp, hpv, hrun, hinv, rfl⟩
      rw [List.getElem?_map] at hx
      cases ec : cs[i]? with
      | none => rw [ec] at hx; cases hx
      | some c =>
        rw [ec] at hx
        cases hx
        obtain ⟨e, hre, hEc⟩ := hE.get ec
        obtain ⟨hil, _⟩ := kat_drop hre
        have s3 := s02.trans s
        obtain ⟨dxe, te, hce, hte, hoe⟩ := hEc.same s3
        obtain ⟨hF1, hF2⟩ := fits_at hF hre
        have hle := hoe.le
        have et : es.take (i + 1) = es.take i ++ [e] := take_more hre
        obtain ⟨L', hL'⟩ : ∃ L' : Nat, L' = (max (L : Int) (e.b - g)).toNat := ⟨_, rfl⟩
        have hLL : (L' : Int) = max (L : Int) (e.b - g) := by omega
        have hrun' := hrun.snoc hle hLL
        have hinv' := (hinv.mono (show L ≤ L' by omega)).edit (e := e) hle hoe.mrk (fun z hz => by
          have hf := (hrun.fit L').mpr (by omega)
          have hs := hrun.siz L' hf
          have hd := siz_done (es := es.take i) (l := z) (fun x hx => hles x (List.mem_of_mem_take hx)) (by rw [hz]; exact hf)
          rw [hz] at hd
          have : e.b ≤ (done (es.take i) z).length := by omega
          exact this)
        refine ⟨_, rfl, _, rfl, c, CE, dxe, _, .int e.b, rfl, hce, EE.cl, EE.nL, rfl, _, rfl, _, _, rfl, rfl, _, _, rfl, ?_⟩
        have emax : (if ((e.b : Int) - g) > (L : Int) then ((e.b : Int) - g) else (L : Int)) = (L' : Int) := by
          rw [hLL]
          by_cases z : ((e.b : Int) - g) > (L : Int)
          · rw [if_pos z]; omega
          · rw [if_neg z]; omega
        rw [emax]
        refine ⟨_, rfl, _, rfl, c, dxe, _, rfl, hce, rfl, c, e, rfl, ⟨dxe, te, hce, hte, hoe⟩, _, _, rfl, rfl, ?_⟩
        refine ⟨_, rfl, _, rfl, c, CE, dxe, _, .int e.a, rfl, hce, EE.cl, EE.nF, rfl, _, rfl, c, CE, dxe, _, .int e.b, rfl, hce, EE.cl, EE.nL, rfl, _, rfl, c, CE, dxe, _, .ref te, rfl, hce, EE.cl, EE.nW, rfl, ?_⟩
        have hc1 := hinv.cnt
        refine ⟨lp, te, pv, ps, e, rfl, SqL.of hlp, hpv, hte, hle, by omega, fun H5 l5 pv5 s5 hl5 hp5 => ⟨s.trans s5, l5, pv5, _, L', _, some (.ref c), hl5, hp5, ?_, ?_, rfl⟩⟩
        · rw [et]; exact hrun'
        · rw [et]
          have z := hinv'
          have e1 : (fun l => app e (done (es.take i) l)) = fun l => done (es.take i ++ [e]) l := by
            funext l
            rw [done_snoc]
          rw [e1] at z
          rw [tot_app, show tot [e] = e.ws.length from Nat.add_zero _]
          rw [show 1 + 3 * (i + 1) = 1 + 3 * i + 3 from by omega]
          exact z
    · rintro σ H3 ⟨s, lp, pv, ps, L, g, v1, hlp, hpv, hrun, hinv, rfl⟩
      rw [List.take_of_length_le (by rw [List.length_map]; omega)] at hrun hinv
      have hL0 : L ≤ n0 := (hrun.fit n0).mp hF
      have hc1 := hinv.cnt
      have ht1 := hinv.tot
      have s3 := s02.trans s
      refine ⟨_, rfl, lp, pv, ps, L, rfl, SqL.of hlp, hpv, hinv.wf, by rw [List.length_map] at hc1; omega, by omega, fun H5 t5 cv5 s5 ht5 hcv5 => ?_⟩
      refine ⟨_, rfl, ?_⟩
      obtain ⟨ok1, run1⟩ := hinv.patch (by rw [List.length_map]; omega) (by omega) (by omega)
      refine mk_pt (Q := fun x H2 => Q (.ref x) H2) ht5 hcv5 ok1 fun H6 x s6 fx q6 => ?_
      exact q H6 x _ L (s3.trans (s5.trans s6)) (fresh_of (s3.trans s5) fx) q6 ⟨hrun.lst, run1⟩
end
end P5

end
section
set_option Elab.async false
set_option linter.all false
set_option maxRecDepth 100000
set_option maxHeartbeats 4000000
namespace P5
open PySem PySem.Spec PySem.SeqAt PyProof.Rows L2
section
variable {P : Program} {w : World} {K : PySem.W.Frag} {mg : Str → Option Value} {base : Heap} {aN aS CE CP CB : Addr}
/-! ### behind -/
abbrev sBehind : Stmt := tp 31
abbrev NBehind : List Str := ["one", "other", "pieces", "first", "last", "words"]
theorem scBehind : FnScope NBehind ["one", "other"] (defScope sBehind) := ⟨rfl, rfl, rfl, by decide +kernel, rfl, by decide +kernel, by decide +kernel⟩
theorem ok_behind {f : Addr} {fd : FuncData} (F : Fun K "behind" "behind" sBehind f fd) (B : BN mg) (EP : PC K CP)
    (Kp : Dk P w K mg base "check_patches" 1 ["patches"] (spChkP K CP)) (Po : Dk P w K mg base "pieces_of" 1 ["changes"] (spPof K)) (D : Dk P w K mg base "edited" 2 ["pieces", "first", "last", "words"] (spEdited K)) (Ch : Dk P w K mg base "changes_of" 1 ["pieces"] (spChg K))
    (G : MtK P w K mg base CP 2 "growth" ["self"] (spPGrow K CP)) (M : MkC P w K mg base "Patch" CP 5 ["self", "changes", "least"] (spPInit K CP)) : FnOk P w K mg base CX0 12 f fd ["one", "other"] (spBeh K CP) := by
  refine F.ok scBehind (fun vs H Q E h => ?_) (fun cdv A outer s H vs Q E hr h => ?_)
  · obtain ⟨_, _, _, _, _, _, rfl, _⟩ := h
    rfl
  obtain ⟨p, p2, C, D2, m, k, rfl, q1, q2, hm, hk, htC, htD, q⟩ := h
  obtain ⟨fK, fdK, GK, bK, kK, mK⟩ := Kp.ex
  obtain ⟨fP, fdP, GP, bP, kP, mP⟩ := Po.ex
  obtain ⟨fD, fdD, GD, bD, kD, mD⟩ := D.ex
  obtain ⟨fC, fdC, GC, bC, kC, mC⟩ := Ch.ex
  obtain ⟨fG, fdG, MG, GG, bG⟩ := G.ex
  obtain ⟨fI, fdI, MI, GI, bI⟩ := M.ex
  refine ⟨_, pss_cons (ps_expr (pe_call GK (hr.mono (by decide)) rfl mK kK bK .nil pass0 (pa_cons (pe_lst (pa_cons (pv 0) (pa_cons (pv 1) pa_nil))) pa_nil)))
    (pss_cons (ps_set (i := 2) scBehind.nd rfl (Or.inl rfl) (pe_call GP (hr.mono (by decide)) rfl mP kP bP .nil pass0 (pa_cons (pe_fld (pv 0) rfl) pa_nil)))
    (pss_cons (ps_for PassesOwn.never rfl (pi_tup (pe_revT (pe_fld (pv 1) rfl))) (pg_tup rfl (pgs_cons (pg_name (i := 3) scBehind.nd rfl (Or.inl rfl)) (pgs_cons (pg_name (i := 4) scBehind.nd rfl (Or.inl rfl)) (pgs_cons (pg_name (i := 5) scBehind.nd rfl (Or.inl rfl)) pgs_nil))))
      (pss_one (ps_set (i := 2) scBehind.nd rfl (Or.inl rfl) (pe_call GD (hr.mono (by decide)) rfl mD kD bD .nil pass0 (pa_cons (pv 2) (pa_cons (pv 3) (pa_cons (pv 4) (pa_cons (pv 5) pa_nil))))))))
    (pss_one (ps_ret (pe_make (E := E0) MI GI (hr.mono (by decide)) rfl M.m bI .nil pass0 (pa_cons (pe_call GC (hr.mono (by decide)) rfl mC kC bC .nil pass0 (pa_cons (pv 2) pa_nil))
      (pa_cons (pe_callB (call_max2 rfl) rfl B.max (by decide +kernel) (pa_cons (pe_fld (pv 0) rfl) (pa_cons (pe_op op_sub (pe_fld (pv 1) rfl) (pe_meth0 (pv 0) EP.cl MG GG (hr.mono (by decide)) bG .nil pass0)) pa_nil))) pa_nil))))))), ?_⟩
  obtain ⟨dx, t, vs, hp, hT, hV, hO⟩ := id q1
  obtain ⟨dx2, t2, vs2, hp2, hT2, hV2, hO2⟩ := id q2
  refine ⟨_, rfl, _, rfl, (by show 2 ≤ sizeLine; decide), fun l0 hl0 => ?_⟩
  have s0 := Same.new hl0 (.lst [.ref p, .ref p2])
  have c0 : upd H l0 (.lst [.ref p, .ref p2]) l0 = some (.lst [.ref p, .ref p2]) := upd_same
  generalize upd H l0 (.lst [.ref p, .ref p2]) = H0 at *
  refine ⟨l0, [p, p2], rfl, SqL.of c0, fun z hz => ?_, by show 2 ≤ 100; decide, fun H1 s1 => ?_⟩
  · rcases List.mem_cons.mp hz with e | e
    · rw [e]; exact (q1.same s0).ins
    · rw [List.mem_singleton.mp e]; exact (q2.same s0).ins
  have s01 := s0.trans s1
  have tl1 := (tot_le hO.apt).2
  have tl2 := (tot_le hO2.apt).2
  have fin1 := hO.fin
  have fin2 := hO2.fin
  refine ⟨_, rfl, p, CP, dx, _, .ref t, rfl, s01 _ _ hp, EP.cl, EP.nC, rfl, t, vs, C, rfl, Same.tup s01 hT, hV.imp (fun _ _ z => Same.tup s01 z), hO.apt, hO.few, fun H2 lp pv s2 hlp hpv => ?_⟩
  have s02 := s01.trans s2
  refine ⟨_, rfl, p2, CP, dx2, _, .ref t2, rfl, s02 _ _ hp2, EP.cl, EP.nC, rfl, t2, vs2, rfl, Same.tup s02 hT2, fun r hr1 => ?_⟩
  have s3 := Same.new hr1 (.tup vs2.reverse)
  have c3 : upd H2 r (.tup vs2.reverse) r = some (.tup vs2.reverse) := upd_same
  have hlp3 := s3 _ _ hlp
  have hpv3 := hpv.same s3
  generalize upd H2 r (.tup vs2.reverse) = H3 at *
  have s03 := s02.trans s3
  have hR : RelL (ChV K H) vs2.reverse D2.reverse := RelL.rev (chs_rel.mp hV2)
  have hlr : vs2.reverse.length = D2.length := by rw [List.length_reverse]; exact hV2.len
  -- how many words it takes
  obtain ⟨J, hJ⟩ : ∃ J : Nat, J = (max (m : Int) (k - growC C)).toNat := ⟨_, rfl⟩
  have hJ2 : (J : Int) = max (m : Int) (k - growC C) := by omega
  have hJm : m ≤ J := by omega
  have hgl : ∀ l : List Str, m ≤ l.length → ((apC C 0 l).length : Int) = l.length + growC C := fun l hl => apC_len hO.apt (by omega)
  have hfit : ∀ l : List Str, J ≤ l.length → Fits D2.reverse (apC C 0 l).length := fun l hl => rev_fits hO2.apt (by have := hgl l (by omega); omega)
  have hler : ∀ e ∈ D2.reverse, e.a ≤ e.b := fun e he => (hO2.ok e (List.mem_reverse.mp he)).le
  have hg0 : -(30 : Int) ≤ growC C := by
    have := hgl (List.replicate m ("" : Str)) (by rw [List.length_replicate]; exact Nat.le_refl _)
    rw [List.length_replicate] at this
    omega
  refine ⟨r, rfl, ⟨_, SqT.of c3⟩, ?_⟩
  refine for_tup (xs := vs2.reverse) (fun i σ H' => Same H3 H' ∧ ∃ (lp : Addr) (pv : List V) (ps : List Pc) (v3 v4 v5 : Option V), H' lp = some (.lst pv) ∧ PcsV K H' pv ps ∧ PInv J ps (fun l => done (D2.reverse.take i) (apC C 0 l)) (2 * C.length + 1 + 3 * i) (tot C + tot (D2.reverse.take i)) ∧ σ = [some (.ref p), some (.ref p2), some (.ref lp), v3, v4, v5])
    ⟨Same.refl _, lp, pv, _, none, none, none, hlp3, hpv3, (PInv.ofC hO).mono hJm, rfl⟩ (fun i σ H' _ ⟨s, _⟩ => SqT.of (s _ _ c3)) ?_ ?_
  · rintro i x σ H4 hx ⟨s, lp, pv, ps, v3, v4, v5, hlp, hpv, hinv, rfl⟩
    obtain ⟨e, hre, hch⟩ := hR.get hx
    obtain ⟨hil, _⟩ := kat_drop hre
    rw [List.length_reverse] at hil
    have hoe := hO2.ok e (List.mem_reverse.mp (List.mem_of_getElem? hre))
    have s04 := s03.trans s
    obtain ⟨xa, te, rfl, hxa, hte⟩ := ChV.same s04 hch
    have et : D2.reverse.take (i + 1) = D2.reverse.take i ++ [e] := take_more hre
    have hinv' := hinv.edit (e := e) hoe.le hoe.mrk (fun z hz => by
      obtain ⟨f1, f2⟩ := fits_at (hfit z (by omega)) hre
      have hd := siz_done (es := D2.reverse.take i) (l := apC C 0 z) (fun x hx => hler x (List.mem_of_mem_take hx)) f1
      have : e.b ≤ (done (D2.reverse.take i) (apC C 0 z)).length := by omega
      exact this)
    refine ⟨xa, _, rfl, hxa, rfl, _, _, rfl, _, _, rfl, _, _, rfl, rfl, ?_⟩
    have hc1 := hinv.cnt
    refine ⟨_, rfl, _, rfl, _, rfl, _, rfl, lp, te, pv, ps, e, rfl, SqL.of hlp, hpv, hte, hoe.le, by omega, fun H5 l5 pv5 s5 hl5 hp5 => ⟨s.trans s5, l5, pv5, _, some (.int e.a), some (.int e.b), some (.ref te), hl5, hp5, ?_, rfl⟩⟩
    rw [et, tot_app, show tot [e] = e.ws.length from Nat.add_zero _, show 2 * C.length + 1 + 3 * (i + 1) = 2 * C.length + 1 + 3 * i + 3 from by omega, ← Nat.add_assoc]
    have e1 : (fun l => app e (done (D2.reverse.take i) (apC C 0 l))) = fun l => done (D2.reverse.take i ++ [e]) (apC C 0 l) := by
      funext l
      rw [done_snoc]
    rw [e1] at hinv'
    exact hinv'
  · rintro σ H4 ⟨s, lp, pv, ps, v3, v4, v5, hlp, hpv, hinv, rfl⟩
    rw [List.take_of_length_le (by rw [List.length_reverse, List.length_reverse, hV2.len]; exact Nat.le_refl _)] at hinv
    have s04 := s03.trans s
    have hc1 := hinv.cnt
    have ht1 := hinv.tot
    have htr := tot_rev D2
    refine ⟨_, rfl, lp, pv, ps, J, rfl, SqL.of hlp, hpv, hinv.wf, by omega, by omega, fun H5 t5 cv5 s5 ht5 hcv5 => ?_⟩
    have s05 := s04.trans s5
    refine ⟨_, rfl, p, CP, dx, _, .int m, rfl, s05 _ _ hp, EP.cl, EP.nL, rfl, _, rfl, p2, CP, dx2, _, .int k, rfl, s05 _ _ hp2, EP.cl, EP.nL, rfl, ?_⟩
    refine ⟨_, rfl, p, dx, _, rfl, s05 _ _ hp, rfl, p, C, m, rfl, q1.same s05, fun H6 s6 => ⟨_, _, rfl, rfl, _, _, rfl, ?_⟩⟩
    have emax : (if ((k : Int) - growC C) > (m : Int) then ((k : Int) - growC C) else (m : Int)) = (J : Int) := by
      rw [hJ2]
      by_cases z : ((k : Int) - growC C) > (m : Int)
      · rw [if_pos z]; omega
      · rw [if_neg z]; omega
    rw [emax]
    obtain ⟨ok1, run1⟩ := hinv.few (by omega) (by omega)
    refine mk_pt (Q := fun x H2 => Q (.ref x) H2) (Same.tup s6 ht5) (hcv5.imp fun _ _ z => Same.tup s6 z) ok1 fun H7 x s7 fx q7 => ?_
    refine q H7 x _ J (s05.trans (s6.trans s7)) (fresh_of (s05.trans s6) fx) q7 (fun n => by omega) fun l hl => ?_
    rw [run1 l hl]
    exact rev_ok hO2.apt [] (apC C 0 l) rfl (by have := hgl l (by omega); omega)
/-! ### checked_words, of lists and tuples -/
def spChkE (K : PySem.W.Frag) : Sp := fun vs H Q _ => ∃ (a : Addr) (ws : List Str), vs = [.ref a] ∧ WsE K H a ws ∧ ∀ H' p, Same H H' → H p = none → H' p = some (.lst (ws.map V.str)) → Q (.ref p) H'
theorem ok_chkE {f f1 : Addr} {fd fd1 : FuncData} (F : Fun K "checked_words" "checked_words" sChk f fd) (T : KC K mg aN aS)
    (G1 : FnOk P w K mg base CX0 3 f1 fd1 ["thing"] spMark) (b1 : Binds K fd1 ["thing"] []) (k1 : PySem.W.keepIn K (.ref f1) = true) (m1 : mg "is_mark" = some (.ref f1)) : FnOk P w K mg base CX0 4 f fd ["words"] (spChkE K) := by
  refine F.ok scChk (fun vs H Q E h => ?_) (fun cdv A outer s H vs Q E hr h => ?_)
  · obtain ⟨x, _, rfl, _⟩ := h
    rfl
  obtain ⟨a, ws, rfl, ⟨hS, hw, hl⟩, q⟩ := h
  obtain ⟨tk, gM⟩ := T.gM
  refine ⟨_, pss_cons (ps_if (PW.pt (pw_or (pt_not (pt_val (pe_callB call_isiT rfl T.isi (by decide +kernel) (pa_cons (pv 0) (pa_cons (pe_tup (pa_cons (pe_lstT T.lst) (pa_cons (pe_tupT T.tup) pa_nil))) pa_nil)))))
      (pw_or1 (pt_cmpR op_gt (pe_callB call_len_seq rfl T.len PySem.boot_len (pa_cons (pv 0) pa_nil)) (pe_glob (v := .int 200) rfl gM ⟨_, rfl⟩) (nomark _))))) (pss_one ps_never) pss_nil)
    (pss_cons (ps_if (pt_not (pt_val (pe_callB (cr_all rfl) rfl T.all (by decide +kernel) (pa_cons (pe_lc (own := [("word", 1)]) (g := gName 1) rfl scChk.nd (pi_alt (pi_list (pv 0)) (pi_tup (pv 0)))
      (blkOk_by (N := ["words", "word"]) (sc := defScope sChk) (by decide +kernel)) (fun _ _ _ _ _ => pg_name (i := 1) scChk.nd rfl (Or.inl rfl))
      (fun _ _ _ _ _ => pts_nil) (fun _ _ _ _ _ => pe_call G1 hr rfl m1 k1 b1 .nil pass0 (pa_cons (pv 1) pa_nil))) pa_nil)))) (pss_one ps_never) pss_nil)
    (pss_one (ps_ret (pe_callTy call_list_of rfl T.lst (by decide +kernel) (pa_cons (pv 0) pa_nil))))), ?_⟩
  refine ⟨_, rfl, (by show 2 ≤ sizeLine; decide), fun p hp => ?_⟩
  have s1 := Same.new hp (.tup [.ty "list", .ty "tuple"])
  have hS1 := hS.same s1
  have hty : ∃ tn : String, TyX K (upd H p (.tup [.ty "list", .ty "tuple"])) (.ref a) (.type tn) ∧ PySem.W.kitAny K (.type tn) [.type "list", .type "tuple"] = some true := by
    rcases hS1 with hS1 | hS1
    · exact ⟨"list", sqL_ty hS1, kitAny_cons (b := true) (kit_ty (by decide +kernel)) (fun z => nomatch z) (fun _ => rfl)⟩
    · exact ⟨"tuple", sqT_ty hS1, kitAny_cons (b := false) (kit_ty (by decide +kernel)) (fun _ => kitAny_cons (b := true) (kit_ty (by decide +kernel)) (fun z => nomatch z) (fun _ => rfl)) (fun z => nomatch z)⟩
  obtain ⟨tn, hty1, hty2⟩ := hty
  refine ⟨.ref a, p, [.ty "list", .ty "tuple"], .type tn, [.type "list", .type "tuple"], true, rfl, upd_same, .cons (.ty _) (.cons (.ty _) .nil), hty1, hty2, _, rfl, iteF ?_⟩
  refine ⟨_, rfl, a, _, rfl, hS1, _, _, rfl, rfl, _, rfl, iteFF (decide_eq_false (by rw [List.length_map]; omega)) ?_⟩
  have turn : ∀ (i : Nat) (y x : V) (H' : Hp) (Q' : VK), (ws.map V.str)[i]? = some x → ((List.replicate ws.length true).map V.bl)[i]? = some y → (∀ H4, Same H' H4 → Q' y H4) → ∃ z ∈ MRK, [x] = [V.str z] ∧ ∀ H4, Same H' H4 → Q' (.bl true) H4 := fun i y x H' Q' hx hy k => by
    have ey : y = .bl true := by
      obtain ⟨b, hb, e⟩ := List.mem_map.mp (List.mem_of_getElem? hy)
      rw [← e, List.eq_of_mem_replicate hb]
    rw [List.getElem?_map] at hx
    cases e2 : ws[i]? with
    | none => rw [e2] at hx; cases hx
    | some z =>
      rw [e2] at hx
      cases hx
      subst ey
      exact ⟨z, hw z (List.mem_of_getElem? e2), rfl, fun H' s' => k H' s'⟩
  have trues : (List.replicate ws.length true).all id = true := by
    rw [List.all_eq_true]
    intro b hb
    exact List.eq_of_mem_replicate hb
  rcases hS1 with hS1 | hS1
  · refine .inl ⟨_, rfl, a, rfl, ⟨_, hS1⟩, fun D hN => lcL ((List.replicate ws.length true).map V.bl) (by rw [List.length_map, List.length_replicate, List.length_map]) (by rw [List.length_map]; omega) hS1 hN (fun i y x H' Q' hx hy s k => ?_) fun H' s hL => ?_⟩
    · obtain ⟨z, hz, ez, kz⟩ := turn i y x H' Q' hx hy k
      cases ez
      exact ⟨rfl, _, rfl, z, hz, rfl, kz⟩
    refine ⟨D, _, rfl, SqL.of hL, _, rfl, ?_⟩
    rw [trues]
    refine iteF ⟨_, rfl, a, _, rfl, .inl (s.seq hS1), fun l hl2 => ?_⟩
    exact q _ l ((s1.trans s).trans (Same.new hl2 _)) (fresh_of (s1.trans s) hl2) upd_same
  · refine .inr ⟨_, rfl, a, rfl, ⟨_, hS1⟩, fun D hN => lcT ((List.replicate ws.length true).map V.bl) (by rw [List.length_map, List.length_replicate, List.length_map]) (by rw [List.length_map]; omega) hS1 hN (fun i y x H' Q' hx hy s k => ?_) fun H' s hL => ?_⟩
    · obtain ⟨z, hz, ez, kz⟩ := turn i y x H' Q' hx hy k
      cases ez
      exact ⟨rfl, _, rfl, z, hz, rfl, kz⟩
    refine ⟨D, _, rfl, SqL.of hL, _, rfl, ?_⟩
    rw [trues]
    refine iteF ⟨_, rfl, a, _, rfl, .inr (Same.tup s hS1), fun l hl2 => ?_⟩
    exact q _ l ((s1.trans s).trans (Same.new hl2 _)) (fresh_of (s1.trans s) hl2) upd_same
end
end P5

end
section
set_option Elab.async false
set_option linter.all false
set_option maxRecDepth 100000
set_option maxHeartbeats 4000000
namespace P5
open PySem PySem.Spec PySem.SeqAt PyProof.Rows L2
theorem done_tot : ∀ {es : List Ed} {l : List Str}, (∀ e ∈ es, e.a ≤ e.b) → Fits es l.length → (done es l).length ≤ l.length + tot es
  | [], l, _, _ => Nat.le_refl _
  | e :: es, l, h, hf => by
    have h1 := h e List.mem_cons_self
    have hs := app_siz hf.1 h1
    have ih := done_tot (es := es) (l := app e l) (fun x hx => h x (List.mem_cons_of_mem _ hx)) (by rw [hs]; exact hf.2)
    show (done es (app e l)).length ≤ l.length + (e.ws.length + tot es)
    omega
theorem tot_take (es : List Ed) (i : Nat) : tot (es.take i) ≤ tot es := by
  have h := tot_app (es.take i) (es.drop i)
  rw [List.take_append_drop] at h
  omega
/-- an own error class without an __init__ -/
structure XF (K : PySem.W.Frag) (mg : Str → Option Value) (x : Str) (C : Addr) : Prop where
  g : mg x = some (.ref C)
  xP : PySem.W.excIn K C [.type "ValueError", .type "Exception", .type "BaseException", .type "object"] "ValueError.__new__" = true
  kP : PySem.W.keepIn K (.ref C) = true
  bP : PySem.W.subIn K (.ref C) (.type "BaseException") = some true
  tP : PySem.W.typeIn K (.ref C) = some (.type "type")
section
variable {P : Program} {w : World} {K : PySem.W.Frag} {mg : Str → Option Value} {base : Heap} {aN aS CE CP CB : Addr}
/-- a def by its body that may raise, the exception's context told -/
theorem okN {x qual : Str} {st : Stmt} {f : Addr} {fd : FuncData} {N ps : List Str} {k : Nat} {sp : Sp} (F : Fun K x qual st f fd) (S : FnScope N ps (defScope st)) (len : ∀ vs H Q E, sp vs H Q E → vs.length = ps.length)
    (body : ∀ (cdv : Value) (A : Around) (outer : List Env) (s : Shared) (H : Hp) (vs : List V) (Q : VK) (E : XK), Room k (A.deeper (envOfC qual (defScope st) s.heap.objs.size f cdv)) → sp vs H Q E →
      ∃ t, PSs (cxOf (L2N.CX P w) P w K mg base N qual (defScope st) f cdv A outer s H E) (defBody st) t ∧ t { nx := fun _ H' => Q .non H', rt := Q } (L2.start N vs) H) : FnOk P w K mg base (L2N.CX P w) (k + 1) f fd ps sp := by
  obtain ⟨_, _, _, _, _, _, cdv, _, _, rfl, lk, hcd⟩ := F.ex
  exact fn_of lk hcd S len fun A outer s H vs Q E hr => body cdv A outer s H vs Q E hr
abbrev sPCall : Stmt := inClass (tp 26) 5
abbrev NPCall : List Str := ["self", "words", "told", "first", "last", "more"]
theorem scPCall : FnScope NPCall ["self", "words"] (defScope sPCall) := ⟨rfl, rfl, rfl, by decide +kernel, rfl, by decide +kernel, by decide +kernel⟩
theorem ok_pcall {f : Addr} {fd : FuncData} (F : Fun K "__call__" "Patch.__call__" sPCall f fd) (B : BN mg) (EP : PC K CP) (XB : XF K mg "BadEdit" CB)
    (Cw : Dk P w K mg base "checked_words" 4 ["words"] (spChkE K)) : FnOk P w K mg base (L2N.CX P w) 5 f fd ["self", "words"] (spPCall K CP CB) := by
  refine okN F scPCall (fun vs H Q E h => ?_) (fun cdv A outer s H vs Q E hr h => ?_)
  · obtain ⟨_, _, _, _, _, rfl, _⟩ := h
    rfl
  obtain ⟨p, l, C, m, ws, rfl, ⟨dx, t, vs, hp, hT, hV, hO⟩, hw, hlen, qQ, qE⟩ := h
  obtain ⟨fC, fdC, GC, bC, kC, mC⟩ := Cw.ex
  refine ⟨_, pss_cons (ps_set (i := 2) scPCall.nd rfl (Or.inl rfl) (pe_call GC hr rfl mC kC bC .nil pass0 (pa_cons (pv 1) pa_nil)))
    (pss_cons (ps_if (pt_cmpR op_lt (pe_callB call_len_seq rfl B.len PySem.boot_len (pa_cons (pv 2) pa_nil)) (pe_fld (pv 0) rfl) (nomark _))
      (pss_one (L2N.ps_raise rfl (L2N.takes_of rfl rfl rfl rfl) (L2N.pmk_own PySem.F.excBase_ValueError XB.xP XB.g XB.kP (raises_own XB.bP XB.tP) rfl))) pss_nil)
    (PSs.nox (pss_cons (ps_for PassesOwn.never rfl (pi_tup (pe_revT (pe_fld (pv 0) rfl))) (pg_tup rfl (pgs_cons (pg_name (i := 3) scPCall.nd rfl (Or.inl rfl)) (pgs_cons (pg_name (i := 4) scPCall.nd rfl (Or.inl rfl)) (pgs_cons (pg_name (i := 5) scPCall.nd rfl (Or.inl rfl)) pgs_nil))))
      (pss_one (ps_set (i := 2) scPCall.nd rfl (Or.inl rfl) (pe_op op_cat (pe_op op_cat (pe_slice (r := rSlL K) sl_list (pv 2) po_none (po_some (pv 3))) (pe_callTy call_list_of rfl B.lst (by decide +kernel) (pa_cons (pv 5) pa_nil)))
        (pe_slice (r := rSlL K) sl_list (pv 2) (po_some (pv 4)) po_none)))))
    (pss_one (ps_ret (pv 2)))))), ?_⟩
  refine ⟨_, rfl, l, ws, rfl, hw, fun H1 u s1 fu hu => ?_⟩
  have hwl : (ws.map V.str).length = ws.length := List.length_map ..
  refine ⟨_, rfl, u, _, rfl, .inl (SqL.of hu), _, rfl, p, CP, dx, _, .int m, rfl, s1 _ _ hp, EP.cl, EP.nL, rfl, _, _, rfl, rfl, _, rfl, ?_⟩
  by_cases c : ws.length < m
  · exact iteTT (decide_eq_true (by rw [hwl]; omega)) (qE c H1 s1)
  refine iteFF (decide_eq_false (by rw [hwl]; omega)) ?_
  have hm : m ≤ ws.length := by omega
  have qQ := qQ hm
  have fin := hO.fin
  have sm := hw.sm
  have hfit : Fits C.reverse ws.length := rev_fits hO.apt (by omega)
  have hler : ∀ e ∈ C.reverse, e.a ≤ e.b := fun e he => (hO.ok e (List.mem_reverse.mp he)).le
  have htot : tot C ≤ 200 := by
    have h1 := apC_len (l := ws) hO.apt (by omega)
    have h2 := (tot_le hO.apt).1
    omega
  have hrun : done C.reverse ws = apC C 0 ws := rev_ok hO.apt [] ws rfl (by omega)
  have hR : RelL (ChV K H) vs.reverse C.reverse := RelL.rev (chs_rel.mp hV)
  have sz : ∀ {n : Nat}, n ≤ 1000 → n ≤ sizeLine := fun h => small_le h
  refine ⟨_, rfl, p, CP, dx, _, .ref t, rfl, s1 _ _ hp, EP.cl, EP.nC, rfl, t, vs, rfl, Same.tup s1 hT, fun r hr1 => ?_⟩
  have s2 := Same.new hr1 (.tup vs.reverse)
  have c2 : upd H1 r (.tup vs.reverse) r = some (.tup vs.reverse) := upd_same
  have hu2 := s2 _ _ hu
  have s12 := s1.trans s2
  have fu2 : H u = none := fu
  generalize upd H1 r (.tup vs.reverse) = H2 at *
  refine ⟨r, rfl, ⟨_, SqT.of c2⟩, ?_⟩
  refine for_tup (xs := vs.reverse) (fun i σ H' => Same H2 H' ∧ ∃ (lt : Addr) (v3 v4 v5 : Option V), H lt = none ∧ H' lt = some (.lst ((done (C.reverse.take i) ws).map V.str)) ∧ (∀ x ∈ done (C.reverse.take i) ws, x ∈ MRK) ∧ σ = [some (.ref p), some (.ref l), some (.ref lt), v3, v4, v5])
    ⟨Same.refl _, u, none, none, none, fu, hu2, hw.mrk, rfl⟩ (fun i σ H' _ ⟨s, _⟩ => SqT.of (s _ _ c2)) ?_ ?_
  · rintro i x σ H3 hx ⟨s, lt, v3, v4, v5, flt, hlt, hmk, rfl⟩
    obtain ⟨e, hre, hch⟩ := hR.get hx
    have hoe := hO.ok e (List.mem_reverse.mp (List.mem_of_getElem? hre))
    have s13 := s12.trans s
    obtain ⟨xa, te, rfl, hxa, hte⟩ := ChV.same s13 hch
    have et : C.reverse.take (i + 1) = C.reverse.take i ++ [e] := take_more hre
    obtain ⟨f1, f2⟩ := fits_at hfit hre
    have hle' : ∀ x ∈ C.reverse.take i, x.a ≤ x.b := fun x hx => hler x (List.mem_of_mem_take hx)
    have hd := siz_done hle' f1
    have hd2 := done_tot hle' f1
    have hd3 := tot_take C.reverse i
    rw [tot_rev] at hd3
    obtain ⟨W, hW⟩ : ∃ W, W = done (C.reverse.take i) ws := ⟨_, rfl⟩
    rw [← hW] at hlt hmk hd hd2
    have ha := hoe.le
    have hes := hoe.sm
    have WL : (W.map V.str).length = W.length := List.length_map ..
    refine ⟨xa, _, rfl, hxa, rfl, _, _, rfl, _, _, rfl, _, _, rfl, rfl, ?_⟩
    refine ⟨_, rfl, _, rfl, e.a, rfl, lt, _, rfl, SqL.of hlt, fun l1 hl1 => ?_⟩
    have s4 := Same.new hl1 (.lst (cutV (W.map V.str) none (some (e.a : Int))))
    have c4 : upd H3 l1 (.lst (cutV (W.map V.str) none (some (e.a : Int)))) l1 = some (.lst ((W.take e.a).map V.str)) := by
      rw [upd_same, cut_to _ _ (by rw [WL]; omega), List.map_take]
    generalize upd H3 l1 (.lst (cutV (W.map V.str) none (some (e.a : Int)))) = H4 at *
    refine ⟨_, rfl, te, _, rfl, .inr (Same.tup s4 hte), fun l2 hl2 => ?_⟩
    have s5 := Same.new hl2 (.lst (e.ws.map V.str))
    have c5 : upd H4 l2 (.lst (e.ws.map V.str)) l2 = some (.lst (e.ws.map V.str)) := upd_same
    have c4' := s5 _ _ c4
    generalize upd H4 l2 (.lst (e.ws.map V.str)) = H5 at *
    refine ⟨l1, l2, _, _, rfl, rfl, c4', c5, sz (by rw [List.length_map, List.length_map, List.length_take]; omega), fun l3 hl3 => ?_⟩
    have s6 := Same.new hl3 (.lst ((W.take e.a).map V.str ++ e.ws.map V.str))
    have c6 : upd H5 l3 (.lst ((W.take e.a).map V.str ++ e.ws.map V.str)) l3 = some (.lst ((W.take e.a).map V.str ++ e.ws.map V.str)) := upd_same
    generalize upd H5 l3 (.lst ((W.take e.a).map V.str ++ e.ws.map V.str)) = H6 at *
    have s46 := (s4.trans s5).trans s6
    refine ⟨_, rfl, _, rfl, e.b, rfl, noPart ⟨lt, _, rfl, SqL.of (s46 _ _ hlt), fun l4 hl4 => ?_⟩⟩
    have s7 := Same.new hl4 (.lst (cutV (W.map V.str) (some (e.b : Int)) none))
    have c7 : upd H6 l4 (.lst (cutV (W.map V.str) (some (e.b : Int)) none)) l4 = some (.lst ((W.drop e.b).map V.str)) := by
      rw [upd_same, cut_from _ _ (by rw [WL]; omega), List.map_drop]
    have c6' := s7 _ _ c6
    generalize upd H6 l4 (.lst (cutV (W.map V.str) (some (e.b : Int)) none)) = H7 at *
    refine ⟨l3, l4, _, _, rfl, rfl, c6', c7, sz (by rw [List.length_append, List.length_map, List.length_map, List.length_map, List.length_take, List.length_drop]; omega), fun l5 hl5 => ?_⟩
    have s8 := Same.new hl5 (.lst (((W.take e.a).map V.str ++ e.ws.map V.str) ++ (W.drop e.b).map V.str))
    have s47 := s46.trans s7
    refine ⟨s.trans (s47.trans s8), l5, _, _, _, fresh_of (s13.trans s47) hl5, ?_, ?_, rfl⟩
    · rw [et, done_snoc, ← hW, upd_same]
      unfold app
      rw [List.map_append, List.map_append]
    · rw [et, done_snoc, ← hW]
      exact app_mrk hoe.mrk hmk
  · rintro σ H3 ⟨s, lt, v3, v4, v5, flt, hlt, hmk, rfl⟩
    rw [List.take_of_length_le (by rw [List.length_reverse, List.length_reverse, hV.len]; exact Nat.le_refl _), hrun] at hlt hmk
    exact ⟨_, rfl, qQ H3 lt (s12.trans s) flt ⟨hlt, hmk, hlen⟩⟩
end
end P5

end
section
set_option Elab.async false
set_option linter.all false
set_option maxRecDepth 100000
set_option maxHeartbeats 4000000
namespace P5
open PySem PySem.Spec PyProof.Rows L2
theorem fnH_mono {P : Program} {w : World} {K : PySem.W.Frag} {mg : Str → Option Value} {base : Heap} {CX : CXT} {j k : Nat} {f : Addr} {fd : FuncData} {ps : List Str} {sp : Sp} (F : L2H.FnH P w K mg base CX j f fd ps sp) (h : j ≤ k) : L2H.FnH P w K mg base CX k f fd ps sp :=
  ⟨F.len, fun A outer s H args us vs Q E p hr => F.run A outer s H args us vs Q E p (hr.mono h)⟩
theorem all_mk {l : PySem.W.OpenLaw} {w : World} {K : PySem.W.Frag} {h : Heap} {mg : Str → Option Value} {fa CE CP CB aN aS : Addr} {f1 f2 f3 f4 f5 f6 f7 f8 f9 f10 f11 f12 f13 f14 f15 f16 f17 f18 f19 f20 f21 f22 f23 f24 f25 f26 f27 f28 f29 f30 f31 f32 f33 f34 f35 f36 f37 : Addr} {od1 an1 od2 an2 od3 an3 od4 an4 od5 an5 od6 an6 od7 an7 od8 an8 od9 an9 od10 an10 od11 an11 od12 an12 od13 an13 od14 an14 od15 an15 od16 an16 od17 an17 od18 an18 od19 an19 od20 an20 od21 an21 od22 an22 od23 an23 od24 an24 od25 an25 od26 an26 od27 an27 od28 an28 od29 an29 od30 an30 od31 an31 od32 an32 od33 an33 od34 an34 od35 an35 od36 an36 od37 an37 dA2 dA3 : Option Addr} {sl1 sl2 sl3 sl4 sl5 sl6 sl7 sl8 sl9 sl10 sl11 sl12 sl13 sl14 sl15 sl16 sl17 sl18 sl19 sl20 sl21 sl22 sl23 sl24 sl25 sl26 sl27 sl28 sl29 sl30 sl31 sl32 sl33 sl34 sl35 sl36 sl37 sA2 sA3 : Array (Option Value)} {nA2 nA3 : Nat} {tA1 tA2 tA3 tS0 tS1 tS2 tS3 tS4 tS5 tS6 tS7 tS8 tgL tgM tgE : Tok}
    {oc1 kV1 dc1 pm1 ct1 cd1 oc2 kV2 dc2 pm2 ct2 cd2 oc3 kV3 dc3 pm3 ct3 cd3 oc4 kV4 dc4 pm4 ct4 cd4 oc5 kV5 dc5 pm5 ct5 cd5 oc6 kV6 dc6 pm6 ct6 cd6 oc7 kV7 dc7 pm7 ct7 cd7 oc8 kV8 dc8 pm8 ct8 cd8 oc9 kV9 dc9 pm9 ct9 cd9 oc10 kV10 dc10 pm10 ct10 cd10 oc11 kV11 dc11 pm11 ct11 cd11 oc12 kV12 dc12 pm12 ct12 cd12 oc13 kV13 dc13 pm13 ct13 cd13 oc14 kV14 dc14 pm14 ct14 cd14 oc15 kV15 dc15 pm15 ct15 cd15 oc16 kV16 dc16 pm16 ct16 cd16 oc17 kV17 dc17 pm17 ct17 cd17 oc18 kV18 dc18 pm18 ct18 cd18 oc19 kV19 dc19 pm19 ct19 cd19 oc20 kV20 dc20 pm20 ct20 cd20 oc21 kV21 dc21 pm21 ct21 cd21 oc22 kV22 dc22 pm22 ct22 cd22 oc23 kV23 dc23 pm23 ct23 cd23 oc24 kV24 dc24 pm24 ct24 cd24 oc25 kV25 dc25 pm25 ct25 cd25 oc26 kV26 dc26 pm26 ct26 cd26 oc27 kV27 dc27 pm27 ct27 cd27 oc28 kV28 dc28 pm28 ct28 cd28 oc29 kV29 dc29 pm29 ct29 cd29 oc30 kV30 dc30 pm30 ct30 cd30 oc31 kV31 dc31 pm31 ct31 cd31 oc32 kV32 dc32 pm32 ct32 cd32 oc33 kV33 dc33 pm33 ct33 cd33 oc34 kV34 dc34 pm34 ct34 cd34 oc35 kV35 dc35 pm35 ct35 cd35 oc36 kV36 dc36 pm36 ct36 cd36 oc37 kV37 dc37 pm37 ct37 cd37 : Value}
    (X : K.In h) (G : h.Ns mainGlobals mg) (hfa : mg "law" = some (.ref fa))
    (a1 : PySem.W.nsIn K mainGlobals "is_small" = some (some (.ref f1)))
    (l1 : K.lookup f1 = some ⟨oc1, od1, .func (PySem.W.fnOf "is_small" "is_small" (defArgs sSmall) (defBody sSmall) (defScope sSmall) .none kV1 dc1 pm1 an1 cd1 ct1), sl1⟩)
    (c1 : PySem.W.codeIn K cd1 "is_small" = true)
    (k1 : PySem.W.keepIn K (.ref f1) = true)
    (a2 : PySem.W.nsIn K mainGlobals "is_word" = some (some (.ref f2)))
    (l2 : K.lookup f2 = some ⟨oc2, od2, .func (PySem.W.fnOf "is_word" "is_word" (defArgs sWord) (defBody sWord) (defScope sWord) .none kV2 dc2 pm2 an2 cd2 ct2), sl2⟩)
    (c2 : PySem.W.codeIn K cd2 "is_word" = true)
    (k2 : PySem.W.keepIn K (.ref f2) = true)
    (a3 : PySem.W.nsIn K mainGlobals "is_whole" = some (some (.ref f3)))
    (l3 : K.lookup f3 = some ⟨oc3, od3, .func (PySem.W.fnOf "is_whole" "is_whole" (defArgs sWhole) (defBody sWhole) (defScope sWhole) .none kV3 dc3 pm3 an3 cd3 ct3), sl3⟩)
    (c3 : PySem.W.codeIn K cd3 "is_whole" = true)
    (k3 : PySem.W.keepIn K (.ref f3) = true)
    (a4 : PySem.W.nsIn K mainGlobals "is_mark" = some (some (.ref f4)))
    (l4 : K.lookup f4 = some ⟨oc4, od4, .func (PySem.W.fnOf "is_mark" "is_mark" (defArgs sMark) (defBody sMark) (defScope sMark) .none kV4 dc4 pm4 an4 cd4 ct4), sl4⟩)
    (c4 : PySem.W.codeIn K cd4 "is_mark" = true)
    (k4 : PySem.W.keepIn K (.ref f4) = true)
    (a5 : PySem.W.nsIn K mainGlobals "checked_words" = some (some (.ref f5)))
    (l5 : K.lookup f5 = some ⟨oc5, od5, .func (PySem.W.fnOf "checked_words" "checked_words" (defArgs sChk) (defBody sChk) (defScope sChk) .none kV5 dc5 pm5 an5 cd5 ct5), sl5⟩)
    (c5 : PySem.W.codeIn K cd5 "checked_words" = true)
    (k5 : PySem.W.keepIn K (.ref f5) = true)
    (a6 : PySem.W.nsIn K mainGlobals "uncut" = some (some (.ref f6)))
    (l6 : K.lookup f6 = some ⟨oc6, od6, .func (PySem.W.fnOf "uncut" "uncut" (defArgs sUncut) (defBody sUncut) (defScope sUncut) .none kV6 dc6 pm6 an6 cd6 ct6), sl6⟩)
    (c6 : PySem.W.codeIn K cd6 "uncut" = true)
    (k6 : PySem.W.keepIn K (.ref f6) = true)
    (a7 : PySem.W.nsIn K mainGlobals "pieces_of" = some (some (.ref f7)))
    (l7 : K.lookup f7 = some ⟨oc7, od7, .func (PySem.W.fnOf "pieces_of" "pieces_of" (defArgs sPof) (defBody sPof) (defScope sPof) .none kV7 dc7 pm7 an7 cd7 ct7), sl7⟩)
    (c7 : PySem.W.codeIn K cd7 "pieces_of" = true)
    (k7 : PySem.W.keepIn K (.ref f7) = true)
    (a8 : PySem.W.nsIn K mainGlobals "edited" = some (some (.ref f8)))
    (l8 : K.lookup f8 = some ⟨oc8, od8, .func (PySem.W.fnOf "edited" "edited" (defArgs sEdited) (defBody sEdited) (defScope sEdited) .none kV8 dc8 pm8 an8 cd8 ct8), sl8⟩)
    (c8 : PySem.W.codeIn K cd8 "edited" = true)
    (k8 : PySem.W.keepIn K (.ref f8) = true)
    (a9 : PySem.W.nsIn K mainGlobals "cut" = some (some (.ref f9)))
    (l9 : K.lookup f9 = some ⟨oc9, od9, .func (PySem.W.fnOf "cut" "cut" (defArgs sCut) (defBody sCut) (defScope sCut) .none kV9 dc9 pm9 an9 cd9 ct9), sl9⟩)
    (c9 : PySem.W.codeIn K cd9 "cut" = true)
    (k9 : PySem.W.keepIn K (.ref f9) = true)
    (a10 : PySem.W.nsIn K mainGlobals "changes_of" = some (some (.ref f10)))
    (l10 : K.lookup f10 = some ⟨oc10, od10, .func (PySem.W.fnOf "changes_of" "changes_of" (defArgs sChg) (defBody sChg) (defScope sChg) .none kV10 dc10 pm10 an10 cd10 ct10), sl10⟩)
    (c10 : PySem.W.codeIn K cd10 "changes_of" = true)
    (k10 : PySem.W.keepIn K (.ref f10) = true)
    (a11 : PySem.W.nsIn K mainGlobals "is_change" = some (some (.ref f11)))
    (l11 : K.lookup f11 = some ⟨oc11, od11, .func (PySem.W.fnOf "is_change" "is_change" (defArgs sIsCh) (defBody sIsCh) (defScope sIsCh) .none kV11 dc11 pm11 an11 cd11 ct11), sl11⟩)
    (c11 : PySem.W.codeIn K cd11 "is_change" = true)
    (k11 : PySem.W.keepIn K (.ref f11) = true)
    (a12 : PySem.W.nsIn K mainGlobals "growth_of" = some (some (.ref f12)))
    (l12 : K.lookup f12 = some ⟨oc12, od12, .func (PySem.W.fnOf "growth_of" "growth_of" (defArgs sGof) (defBody sGof) (defScope sGof) .none kV12 dc12 pm12 an12 cd12 ct12), sl12⟩)
    (c12 : PySem.W.codeIn K cd12 "growth_of" = true)
    (k12 : PySem.W.keepIn K (.ref f12) = true)
    (a13 : PySem.W.nsIn K mainGlobals "patch" = some (some (.ref f13)))
    (l13 : K.lookup f13 = some ⟨oc13, od13, .func (PySem.W.fnOf "patch" "patch" (defArgs sPatch) (defBody sPatch) (defScope sPatch) .none kV13 dc13 pm13 an13 cd13 ct13), sl13⟩)
    (c13 : PySem.W.codeIn K cd13 "patch" = true)
    (k13 : PySem.W.keepIn K (.ref f13) = true)
    (a14 : PySem.W.nsIn K mainGlobals "check_patches" = some (some (.ref f14)))
    (l14 : K.lookup f14 = some ⟨oc14, od14, .func (PySem.W.fnOf "check_patches" "check_patches" (defArgs sChkP) (defBody sChkP) (defScope sChkP) .none kV14 dc14 pm14 an14 cd14 ct14), sl14⟩)
    (c14 : PySem.W.codeIn K cd14 "check_patches" = true)
    (k14 : PySem.W.keepIn K (.ref f14) = true)
    (a15 : PySem.W.nsIn K mainGlobals "behind" = some (some (.ref f15)))
    (l15 : K.lookup f15 = some ⟨oc15, od15, .func (PySem.W.fnOf "behind" "behind" (defArgs sBehind) (defBody sBehind) (defScope sBehind) .none kV15 dc15 pm15 an15 cd15 ct15), sl15⟩)
    (c15 : PySem.W.codeIn K cd15 "behind" = true)
    (k15 : PySem.W.keepIn K (.ref f15) = true)
    (a16 : PySem.W.nsIn K mainGlobals "_law_cell_at" = some (some (.ref f16)))
    (l16 : K.lookup f16 = some ⟨oc16, od16, .func (PySem.W.fnOf "_law_cell_at" "_law_cell_at" (defArgs sCell) (defBody sCell) (defScope sCell) .none kV16 dc16 pm16 an16 cd16 ct16), sl16⟩)
    (c16 : PySem.W.codeIn K cd16 "_law_cell_at" = true)
    (k16 : PySem.W.keepIn K (.ref f16) = true)
    (a17 : PySem.W.nsIn K mainGlobals "_law_draw" = some (some (.ref f17)))
    (l17 : K.lookup f17 = some ⟨oc17, od17, .func (PySem.W.fnOf "_law_draw" "_law_draw" (defArgs sDraw) (defBody sDraw) (defScope sDraw) .none kV17 dc17 pm17 an17 cd17 ct17), sl17⟩)
    (c17 : PySem.W.codeIn K cd17 "_law_draw" = true)
    (k17 : PySem.W.keepIn K (.ref f17) = true)
    (a18 : PySem.W.nsIn K mainGlobals "_law_number" = some (some (.ref f18)))
    (l18 : K.lookup f18 = some ⟨oc18, od18, .func (PySem.W.fnOf "_law_number" "_law_number" (defArgs sNum) (defBody sNum) (defScope sNum) .none kV18 dc18 pm18 an18 cd18 ct18), sl18⟩)
    (c18 : PySem.W.codeIn K cd18 "_law_number" = true)
    (k18 : PySem.W.keepIn K (.ref f18) = true)
    (a19 : PySem.W.nsIn K mainGlobals "_law_next" = some (some (.ref f19)))
    (l19 : K.lookup f19 = some ⟨oc19, od19, .func (PySem.W.fnOf "_law_next" "_law_next" (defArgs sNext) (defBody sNext) (defScope sNext) .none kV19 dc19 pm19 an19 cd19 ct19), sl19⟩)
    (c19 : PySem.W.codeIn K cd19 "_law_next" = true)
    (k19 : PySem.W.keepIn K (.ref f19) = true)
    (a20 : PySem.W.nsIn K mainGlobals "_law_pick" = some (some (.ref f20)))
    (l20 : K.lookup f20 = some ⟨oc20, od20, .func (PySem.W.fnOf "_law_pick" "_law_pick" (defArgs sPick) (defBody sPick) (defScope sPick) .none kV20 dc20 pm20 an20 cd20 ct20), sl20⟩)
    (c20 : PySem.W.codeIn K cd20 "_law_pick" = true)
    (k20 : PySem.W.keepIn K (.ref f20) = true)
    (a21 : PySem.W.nsIn K mainGlobals "_law_words" = some (some (.ref f21)))
    (l21 : K.lookup f21 = some ⟨oc21, od21, .func (PySem.W.fnOf "_law_words" "_law_words" (defArgs sWds) (defBody sWds) (defScope sWds) .none kV21 dc21 pm21 an21 cd21 ct21), sl21⟩)
    (c21 : PySem.W.codeIn K cd21 "_law_words" = true)
    (k21 : PySem.W.keepIn K (.ref f21) = true)
    (a22 : PySem.W.nsIn K mainGlobals "_law_edit" = some (some (.ref f22)))
    (l22 : K.lookup f22 = some ⟨oc22, od22, .func (PySem.W.fnOf "_law_edit" "_law_edit" (defArgs sLE) (defBody sLE) (defScope sLE) .none kV22 dc22 pm22 an22 cd22 ct22), sl22⟩)
    (c22 : PySem.W.codeIn K cd22 "_law_edit" = true)
    (k22 : PySem.W.keepIn K (.ref f22) = true)
    (a23 : PySem.W.nsIn K mainGlobals "_law_edits" = some (some (.ref f23)))
    (l23 : K.lookup f23 = some ⟨oc23, od23, .func (PySem.W.fnOf "_law_edits" "_law_edits" (defArgs sLEs) (defBody sLEs) (defScope sLEs) .none kV23 dc23 pm23 an23 cd23 ct23), sl23⟩)
    (c23 : PySem.W.codeIn K cd23 "_law_edits" = true)
    (k23 : PySem.W.keepIn K (.ref f23) = true)
    (a24 : PySem.W.nsIn K mainGlobals "_law_done" = some (some (.ref f24)))
    (l24 : K.lookup f24 = some ⟨oc24, od24, .func (PySem.W.fnOf "_law_done" "_law_done" (defArgs sDn) (defBody sDn) (defScope sDn) .none kV24 dc24 pm24 an24 cd24 ct24), sl24⟩)
    (c24 : PySem.W.codeIn K cd24 "_law_done" = true)
    (k24 : PySem.W.keepIn K (.ref f24) = true)
    (a25 : PySem.W.nsIn K mainGlobals "_law_marks" = some (some (.ref f25)))
    (l25 : K.lookup f25 = some ⟨oc25, od25, .func (PySem.W.fnOf "_law_marks" "_law_marks" (defArgs sMks) (defBody sMks) (defScope sMks) .none kV25 dc25 pm25 an25 cd25 ct25), sl25⟩)
    (c25 : PySem.W.codeIn K cd25 "_law_marks" = true)
    (k25 : PySem.W.keepIn K (.ref f25) = true)
    (a26 : PySem.W.nsIn K mainGlobals "_law_least" = some (some (.ref f26)))
    (l26 : K.lookup f26 = some ⟨oc26, od26, .func (PySem.W.fnOf "_law_least" "_law_least" (defArgs sLst) (defBody sLst) (defScope sLst) .none kV26 dc26 pm26 an26 cd26 ct26), sl26⟩)
    (c26 : PySem.W.codeIn K cd26 "_law_least" = true)
    (k26 : PySem.W.keepIn K (.ref f26) = true)
    (a27 : PySem.W.nsIn K mainGlobals "law" = some (some (.ref f27)))
    (l27 : K.lookup f27 = some ⟨oc27, od27, .func (PySem.W.fnOf "law" "law" (defArgs sLaw) (defBody sLaw) (defScope sLaw) .none kV27 dc27 pm27 an27 cd27 ct27), sl27⟩)
    (c27 : PySem.W.codeIn K cd27 "law" = true)
    (k27 : PySem.W.keepIn K (.ref f27) = true)
    (a28 : PySem.W.findIn K (.ref CE) "__init__" = some (some (.ref f28)))
    (i28 : PySem.W.isFn K (.ref f28) = true)
    (l28 : K.lookup f28 = some ⟨oc28, od28, .func (PySem.W.fnOf "__init__" "Edit.__init__" (defArgs sInit) (defBody sInit) (defScope sInit) .none kV28 dc28 pm28 an28 cd28 ct28), sl28⟩)
    (c28 : PySem.W.codeIn K cd28 "Edit.__init__" = true)
    (k28 : PySem.W.keepIn K (.ref f28) = true)
    (a29 : PySem.W.findIn K (.ref CE) "growth" = some (some (.ref f29)))
    (i29 : PySem.W.isFn K (.ref f29) = true)
    (l29 : K.lookup f29 = some ⟨oc29, od29, .func (PySem.W.fnOf "growth" "Edit.growth" (defArgs sGrow) (defBody sGrow) (defScope sGrow) .none kV29 dc29 pm29 an29 cd29 ct29), sl29⟩)
    (c29 : PySem.W.codeIn K cd29 "Edit.growth" = true)
    (k29 : PySem.W.keepIn K (.ref f29) = true)
    (a30 : PySem.W.findIn K (.ref CP) "__init__" = some (some (.ref f30)))
    (i30 : PySem.W.isFn K (.ref f30) = true)
    (l30 : K.lookup f30 = some ⟨oc30, od30, .func (PySem.W.fnOf "__init__" "Patch.__init__" (defArgs sPInit) (defBody sPInit) (defScope sPInit) .none kV30 dc30 pm30 an30 cd30 ct30), sl30⟩)
    (c30 : PySem.W.codeIn K cd30 "Patch.__init__" = true)
    (k30 : PySem.W.keepIn K (.ref f30) = true)
    (a31 : PySem.W.findIn K (.ref CP) "__eq__" = some (some (.ref f31)))
    (i31 : PySem.W.isFn K (.ref f31) = true)
    (l31 : K.lookup f31 = some ⟨oc31, od31, .func (PySem.W.fnOf "__eq__" "Patch.__eq__" (defArgs sPEq) (defBody sPEq) (defScope sPEq) .none kV31 dc31 pm31 an31 cd31 ct31), sl31⟩)
    (c31 : PySem.W.codeIn K cd31 "Patch.__eq__" = true)
    (k31 : PySem.W.keepIn K (.ref f31) = true)
    (a32 : PySem.W.findIn K (.ref CP) "__len__" = some (some (.ref f32)))
    (i32 : PySem.W.isFn K (.ref f32) = true)
    (l32 : K.lookup f32 = some ⟨oc32, od32, .func (PySem.W.fnOf "__len__" "Patch.__len__" (defArgs sPLen) (defBody sPLen) (defScope sPLen) .none kV32 dc32 pm32 an32 cd32 ct32), sl32⟩)
    (c32 : PySem.W.codeIn K cd32 "Patch.__len__" = true)
    (k32 : PySem.W.keepIn K (.ref f32) = true)
    (a33 : PySem.W.findIn K (.ref CP) "__iter__" = some (some (.ref f33)))
    (i33 : PySem.W.isFn K (.ref f33) = true)
    (l33 : K.lookup f33 = some ⟨oc33, od33, .func (PySem.W.fnOf "__iter__" "Patch.__iter__" (defArgs sPIter) (defBody sPIter) (defScope sPIter) .none kV33 dc33 pm33 an33 cd33 ct33), sl33⟩)
    (c33 : PySem.W.codeIn K cd33 "Patch.__iter__" = true)
    (k33 : PySem.W.keepIn K (.ref f33) = true)
    (a34 : PySem.W.findIn K (.ref CP) "__bool__" = some (some (.ref f34)))
    (i34 : PySem.W.isFn K (.ref f34) = true)
    (l34 : K.lookup f34 = some ⟨oc34, od34, .func (PySem.W.fnOf "__bool__" "Patch.__bool__" (defArgs sPBool) (defBody sPBool) (defScope sPBool) .none kV34 dc34 pm34 an34 cd34 ct34), sl34⟩)
    (c34 : PySem.W.codeIn K cd34 "Patch.__bool__" = true)
    (k34 : PySem.W.keepIn K (.ref f34) = true)
    (a35 : PySem.W.findIn K (.ref CP) "__call__" = some (some (.ref f35)))
    (i35 : PySem.W.isFn K (.ref f35) = true)
    (l35 : K.lookup f35 = some ⟨oc35, od35, .func (PySem.W.fnOf "__call__" "Patch.__call__" (defArgs sPCall) (defBody sPCall) (defScope sPCall) .none kV35 dc35 pm35 an35 cd35 ct35), sl35⟩)
    (c35 : PySem.W.codeIn K cd35 "Patch.__call__" = true)
    (k35 : PySem.W.keepIn K (.ref f35) = true)
    (a36 : PySem.W.findIn K (.ref CP) "growth" = some (some (.ref f36)))
    (i36 : PySem.W.isFn K (.ref f36) = true)
    (l36 : K.lookup f36 = some ⟨oc36, od36, .func (PySem.W.fnOf "growth" "Patch.growth" (defArgs sPGrow) (defBody sPGrow) (defScope sPGrow) .none kV36 dc36 pm36 an36 cd36 ct36), sl36⟩)
    (c36 : PySem.W.codeIn K cd36 "Patch.growth" = true)
    (k36 : PySem.W.keepIn K (.ref f36) = true)
    (a37 : PySem.W.findIn K (.ref CP) "edits" = some (some (.ref f37)))
    (i37 : PySem.W.isFn K (.ref f37) = true)
    (l37 : K.lookup f37 = some ⟨oc37, od37, .func (PySem.W.fnOf "edits" "Patch.edits" (defArgs sPEds) (defBody sPEds) (defScope sPEds) .none kV37 dc37 pm37 an37 cd37 ct37), sl37⟩)
    (c37 : PySem.W.codeIn K cd37 "Patch.edits" = true)
    (k37 : PySem.W.keepIn K (.ref f37) = true)
    (aCE : PySem.W.nsIn K mainGlobals "Edit" = some (some (.ref CE)))
    (pgE : PySem.W.plainGet K CE Str.empty = true)
    (hdE : PySem.W.hasDictIn K CE = true)
    (poE : PySem.W.plainOver K CE = true)
    (saE : PySem.W.findIn K (.ref CE) "__setattr__" = some (some (.builtin "object.__setattr__")))
    (mkE : PySem.W.makesIn K CE = true)
    (kcE : PySem.W.keepIn K (.ref CE) = true)
    (nF : PySem.W.findIn K (.ref CE) "first" = some none)
    (nL : PySem.W.findIn K (.ref CE) "last" = some none)
    (nW : PySem.W.findIn K (.ref CE) "words" = some none)
    (rhaE : PySem.W.findIn K (.ref CE) "__class__" = some (some (.builtin "object.__class__")))
    (rhmE : PySem.W.mroIn K CE (.type "object") = some true)
    (rkitE : PySem.W.kitOne K (.ref CE) (.ref CE) = some true)
    (aCP : PySem.W.nsIn K mainGlobals "Patch" = some (some (.ref CP)))
    (pgP : PySem.W.plainGet K CP Str.empty = true)
    (hdP : PySem.W.hasDictIn K CP = true)
    (poP : PySem.W.plainOver K CP = true)
    (saP : PySem.W.findIn K (.ref CP) "__setattr__" = some (some (.builtin "object.__setattr__")))
    (mkP : PySem.W.makesIn K CP = true)
    (kcP : PySem.W.keepIn K (.ref CP) = true)
    (nPC : PySem.W.findIn K (.ref CP) "changes" = some none)
    (nPL : PySem.W.findIn K (.ref CP) "least" = some none)
    (rhaP : PySem.W.findIn K (.ref CP) "__class__" = some (some (.builtin "object.__class__")))
    (rhmP : PySem.W.mroIn K CP (.type "object") = some true)
    (rkitP : PySem.W.kitOne K (.ref CP) (.ref CP) = some true)
    (rhn : PySem.W.specialIn K (.builtin "object.__class__") "__get__" = some (some (.builtin "getset_descriptor.__get__")))
    (rht : PySem.W.takesIn K (.builtin "object.__class__") = some true)
    (qhn : PySem.W.findIn K (.ref CP) "__ne__" = some (some (.builtin "object.__ne__")))
    (qhob : PySem.W.subIn K (.ref CP) (.type "object") = some true)
    (fnI : PySem.W.fnIn K f35 = true)
    (aCB : PySem.W.nsIn K mainGlobals "BadEdit" = some (some (.ref CB)))
    (xCB : PySem.W.excIn K CB [.type "ValueError", .type "Exception", .type "BaseException", .type "object"] "ValueError.__new__" = true)
    (kCB : PySem.W.keepIn K (.ref CB) = true)
    (bCB : PySem.W.subIn K (.ref CB) (.type "BaseException") = some true)
    (tCB : PySem.W.typeIn K (.ref CB) = some (.type "type"))
    (eCB : PySem.W.exmOne K (.ref CB) (.ref CB) = some true)
    (gN : PySem.W.nsIn K mainGlobals "NO_WORDS" = some (some (.ref aN)))
    (oN : K.lookup aN = some ⟨.type "tuple", dA2, .seq #[.str "any" tA1, .str "give" tA2, .str "let" tA3] nA2, sA2⟩)
    (gS : PySem.W.nsIn K mainGlobals "SIGNS" = some (some (.ref aS)))
    (oS : K.lookup aS = some ⟨.type "tuple", dA3, .seq #[.str "=" tS0, .str ";" tS1, .str "(" tS2, .str ")" tS3, .str "{" tS4, .str "}" tS5, .str "," tS6, .str ":" tS7, .str "." tS8] nA3, sA3⟩)
    (gL : PySem.W.nsIn K mainGlobals "LONGEST" = some (some (.int 10 tgL)))
    (gM : PySem.W.nsIn K mainGlobals "MOST_WORDS" = some (some (.int 200 tgM)))
    (gE : PySem.W.nsIn K mainGlobals "MOST_EDITS" = some (some (.int 60 tgE)))
    (z_len : PySem.W.nsIn K mainGlobals "len" = some none)
    (z_all : PySem.W.nsIn K mainGlobals "all" = some none)
    (z_isinstance : PySem.W.nsIn K mainGlobals "isinstance" = some none)
    (z_str : PySem.W.nsIn K mainGlobals "str" = some none)
    (z_tuple : PySem.W.nsIn K mainGlobals "tuple" = some none)
    (z_list : PySem.W.nsIn K mainGlobals "list" = some none)
    (z_int : PySem.W.nsIn K mainGlobals "int" = some none)
    (z_bool : PySem.W.nsIn K mainGlobals "bool" = some none)
    (z_min : PySem.W.nsIn K mainGlobals "min" = some none)
    (z_range : PySem.W.nsIn K mainGlobals "range" = some none)
    (z_enumerate : PySem.W.nsIn K mainGlobals "enumerate" = some none)
    (z_max : PySem.W.nsIn K mainGlobals "max" = some none)
    (z_sum : PySem.W.nsIn K mainGlobals "sum" = some none)
    (z_zip : PySem.W.nsIn K mainGlobals "zip" = some none)
    (z_iter : PySem.W.nsIn K mainGlobals "iter" = some none)
    : ∃ fd : FuncData, (∀ (s : Shared) (v : Value), BindsTo s fd ⟨[v], []⟩ [("script", v)]) ∧ ∀ base : Heap, K.In base → base.Ns mainGlobals mg → FnOk l.prog w K mg base CX0 21 fa fd ["script"] (spLaw K) := by
  have e := hfa.symm.trans (PySem.W.mg_of X G a27)
  cases e
  have F1 := fun_mk (st := sSmall) l1 c1 k1
  have F2 := fun_mk (st := sWord) l2 c2 k2
  have F3 := fun_mk (st := sWhole) l3 c3 k3
  have F4 := fun_mk (st := sMark) l4 c4 k4
  have F5 := fun_mk (st := sChk) l5 c5 k5
  have F6 := fun_mk (st := sUncut) l6 c6 k6
  have F7 := fun_mk (st := sPof) l7 c7 k7
  have F8 := fun_mk (st := sEdited) l8 c8 k8
  have F9 := fun_mk (st := sCut) l9 c9 k9
  have F10 := fun_mk (st := sChg) l10 c10 k10
  have F11 := fun_mk (st := sIsCh) l11 c11 k11
  have F12 := fun_mk (st := sGof) l12 c12 k12
  have F13 := fun_mk (st := sPatch) l13 c13 k13
  have F14 := fun_mk (st := sChkP) l14 c14 k14
  have F15 := fun_mk (st := sBehind) l15 c15 k15
  have F16 := fun_mk (st := sCell) l16 c16 k16
  have F17 := fun_mk (st := sDraw) l17 c17 k17
  have F18 := fun_mk (st := sNum) l18 c18 k18
  have F19 := fun_mk (st := sNext) l19 c19 k19
  have F20 := fun_mk (st := sPick) l20 c20 k20
  have F21 := fun_mk (st := sWds) l21 c21 k21
  have F22 := fun_mk (st := sLE) l22 c22 k22
  have F23 := fun_mk (st := sLEs) l23 c23 k23
  have F24 := fun_mk (st := sDn) l24 c24 k24
  have F25 := fun_mk (st := sMks) l25 c25 k25
  have F26 := fun_mk (st := sLst) l26 c26 k26
  have F27 := fun_mk (st := sLaw) l27 c27 k27
  have F28 := fun_mk (st := sInit) l28 c28 k28
  have F29 := fun_mk (st := sGrow) l29 c29 k29
  have F30 := fun_mk (st := sPInit) l30 c30 k30
  have F31 := fun_mk (st := sPEq) l31 c31 k31
  have F32 := fun_mk (st := sPLen) l32 c32 k32
  have F33 := fun_mk (st := sPIter) l33 c33 k33
  have F34 := fun_mk (st := sPBool) l34 c34 k34
  have F35 := fun_mk (st := sPCall) l35 c35 k35
  have F36 := fun_mk (st := sPGrow) l36 c36 k36
  have F37 := fun_mk (st := sPEds) l37 c37 k37
  have b1 := F1.binds (ps := ["letter"]) fun _ _ _ _ _ _ us hl => match us, hl with | [_], _ => rfl
  have b2 := F2.binds (ps := ["thing"]) fun _ _ _ _ _ _ us hl => match us, hl with | [_], _ => rfl
  have b3 := F3.binds (ps := ["thing"]) fun _ _ _ _ _ _ us hl => match us, hl with | [_], _ => rfl
  have b4 := F4.binds (ps := ["thing"]) fun _ _ _ _ _ _ us hl => match us, hl with | [_], _ => rfl
  have b5 := F5.binds (ps := ["words"]) fun _ _ _ _ _ _ us hl => match us, hl with | [_], _ => rfl
  have b6 := F6.binds (ps := []) fun _ _ _ _ _ _ us hl => match us, hl with | [], _ => rfl
  have b7 := F7.binds (ps := ["changes"]) fun _ _ _ _ _ _ us hl => match us, hl with | [_], _ => rfl
  have b8 := F8.binds (ps := ["pieces", "first", "last", "words"]) fun _ _ _ _ _ _ us hl => match us, hl with | [_, _, _, _], _ => rfl
  have b9 := F9.binds (ps := ["pieces", "place"]) fun _ _ _ _ _ _ us hl => match us, hl with | [_, _], _ => rfl
  have b10 := F10.binds (ps := ["pieces"]) fun _ _ _ _ _ _ us hl => match us, hl with | [_], _ => rfl
  have b11 := F11.binds (ps := ["thing"]) fun _ _ _ _ _ _ us hl => match us, hl with | [_], _ => rfl
  have b12 := F12.binds (ps := ["change"]) fun _ _ _ _ _ _ us hl => match us, hl with | [_], _ => rfl
  have b13 := F13.binds (ps := ["edits"]) fun _ _ _ _ _ _ us hl => match us, hl with | [_], _ => rfl
  have b14 := F14.binds (ps := ["patches"]) fun _ _ _ _ _ _ us hl => match us, hl with | [_], _ => rfl
  have b15 := F15.binds (ps := ["one", "other"]) fun _ _ _ _ _ _ us hl => match us, hl with | [_, _], _ => rfl
  have b16 := F16.binds (ps := ["script", "k"]) fun _ _ _ _ _ _ us hl => match us, hl with | [_, _], _ => rfl
  have b17 := F17.binds (ps := ["cell", "k", "bound"]) fun _ _ _ _ _ _ us hl => match us, hl with | [_, _, _], _ => rfl
  have b18 := F18.binds (ps := ["cell", "k", "bound"]) fun _ _ _ _ _ _ us hl => match us, hl with | [_, _, _], _ => rfl
  have b19 := F19.binds (ps := ["draw", "bound"]) fun _ _ _ _ _ _ us hl => match us, hl with | [_, _], _ => rfl
  have b20 := F20.binds (ps := ["draw", "things"]) fun _ _ _ _ _ _ us hl => match us, hl with | [_, _], _ => rfl
  have b21 := F21.binds (ps := ["draw", "many"]) fun _ _ _ _ _ _ us hl => match us, hl with | [_, _], _ => rfl
  have b22 := F22.binds (ps := ["draw", "many"]) fun _ _ _ _ _ _ us hl => match us, hl with | [_, _], _ => rfl
  have b23 := F23.binds (ps := ["draw", "many", "turns"]) fun _ _ _ _ _ _ us hl => match us, hl with | [_, _, _], _ => rfl
  have b24 := F24.binds (ps := ["edits", "words"]) fun _ _ _ _ _ _ us hl => match us, hl with | [_, _], _ => rfl
  have b25 := F25.binds (ps := ["many"]) fun _ _ _ _ _ _ us hl => match us, hl with | [_], _ => rfl
  have b26 := F26.binds (ps := ["edits"]) fun _ _ _ _ _ _ us hl => match us, hl with | [_], _ => rfl
  have b28 := F28.binds (ps := ["self", "first", "last", "words"]) fun _ _ _ _ _ _ us hl => match us, hl with | [_, _, _, _], _ => rfl
  have b29 := F29.binds (ps := ["self"]) fun _ _ _ _ _ _ us hl => match us, hl with | [_], _ => rfl
  have b30 := F30.binds (ps := ["self", "changes", "least"]) fun _ _ _ _ _ _ us hl => match us, hl with | [_, _, _], _ => rfl
  have b31 := F31.binds (ps := ["self", "other"]) fun _ _ _ _ _ _ us hl => match us, hl with | [_, _], _ => rfl
  have b32 := F32.binds (ps := ["self"]) fun _ _ _ _ _ _ us hl => match us, hl with | [_], _ => rfl
  have b33 := F33.binds (ps := ["self"]) fun _ _ _ _ _ _ us hl => match us, hl with | [_], _ => rfl
  have b34 := F34.binds (ps := ["self"]) fun _ _ _ _ _ _ us hl => match us, hl with | [_], _ => rfl
  have b35 := F35.binds (ps := ["self", "words"]) fun _ _ _ _ _ _ us hl => match us, hl with | [_, _], _ => rfl
  have b36 := F36.binds (ps := ["self"]) fun _ _ _ _ _ _ us hl => match us, hl with | [_], _ => rfl
  have b37 := F37.binds (ps := ["self"]) fun _ _ _ _ _ _ us hl => match us, hl with | [_], _ => rfl
  have m1 := PySem.W.mg_of X G a1
  have m2 := PySem.W.mg_of X G a2
  have m3 := PySem.W.mg_of X G a3
  have m4 := PySem.W.mg_of X G a4
  have m5 := PySem.W.mg_of X G a5
  have m6 := PySem.W.mg_of X G a6
  have m7 := PySem.W.mg_of X G a7
  have m8 := PySem.W.mg_of X G a8
  have m9 := PySem.W.mg_of X G a9
  have m10 := PySem.W.mg_of X G a10
  have m11 := PySem.W.mg_of X G a11
  have m12 := PySem.W.mg_of X G a12
  have m13 := PySem.W.mg_of X G a13
  have m14 := PySem.W.mg_of X G a14
  have m15 := PySem.W.mg_of X G a15
  have m16 := PySem.W.mg_of X G a16
  have m17 := PySem.W.mg_of X G a17
  have m18 := PySem.W.mg_of X G a18
  have m19 := PySem.W.mg_of X G a19
  have m20 := PySem.W.mg_of X G a20
  have m21 := PySem.W.mg_of X G a21
  have m22 := PySem.W.mg_of X G a22
  have m23 := PySem.W.mg_of X G a23
  have m24 := PySem.W.mg_of X G a24
  have m25 := PySem.W.mg_of X G a25
  have m26 := PySem.W.mg_of X G a26
  have m27 := PySem.W.mg_of X G a27
  have y_len := PySem.W.mg_none_of X G z_len
  have y_all := PySem.W.mg_none_of X G z_all
  have y_isinstance := PySem.W.mg_none_of X G z_isinstance
  have y_str := PySem.W.mg_none_of X G z_str
  have y_tuple := PySem.W.mg_none_of X G z_tuple
  have y_list := PySem.W.mg_none_of X G z_list
  have y_int := PySem.W.mg_none_of X G z_int
  have y_bool := PySem.W.mg_none_of X G z_bool
  have y_min := PySem.W.mg_none_of X G z_min
  have y_range := PySem.W.mg_none_of X G z_range
  have y_enumerate := PySem.W.mg_none_of X G z_enumerate
  have y_max := PySem.W.mg_none_of X G z_max
  have y_sum := PySem.W.mg_none_of X G z_sum
  have y_zip := PySem.W.mg_none_of X G z_zip
  have y_iter := PySem.W.mg_none_of X G z_iter
  have mCE := PySem.W.mg_of X G aCE
  have mCP := PySem.W.mg_of X G aCP
  have mCB := PySem.W.mg_of X G aCB
  have EE : EC K CE := ⟨⟨pgE, hdE, poE, saE⟩, nF, nL, nW⟩
  have EP : PC K CP := ⟨⟨pgP, hdP, poP, saP⟩, nPC, nPL⟩
  have KCC : KC K mg aN aS := ⟨PySem.W.mg_of X G gN, fun H => .inr ⟨_, _, _, oN, rfl, rfl, (by show 3 ≤ sizeLine; decide), .cons ⟨_, rfl⟩ (.cons ⟨_, rfl⟩ (.cons ⟨_, rfl⟩ .nil))⟩, PySem.W.mg_of X G gS, fun H => .inr ⟨_, _, _, oS, rfl, rfl, (by show 9 ≤ sizeLine; decide), (.cons ⟨_, rfl⟩ (.cons ⟨_, rfl⟩ (.cons ⟨_, rfl⟩ (.cons ⟨_, rfl⟩ (.cons ⟨_, rfl⟩ (.cons ⟨_, rfl⟩ (.cons ⟨_, rfl⟩ (.cons ⟨_, rfl⟩ (.cons ⟨_, rfl⟩ .nil)))))))))⟩, ⟨_, PySem.W.mg_of X G gL⟩, ⟨_, PySem.W.mg_of X G gM⟩, y_len, y_all, y_isinstance, y_str, y_list, y_tuple, y_int, y_bool⟩
  have BB : BN mg := ⟨y_len, y_enumerate, y_tuple, y_max, y_list, y_isinstance, y_all, y_sum⟩
  have RE : RIn K mg "Edit" CE := ⟨mCE, rhaE, rhn, rht, rhmE, rkitE⟩
  have RP : RIn K mg "Patch" CP := ⟨mCP, rhaP, rhn, rht, rhmP, rkitP⟩
  have XB : XF K mg "BadEdit" CB := ⟨mCB, xCB, kCB, bCB, tCB⟩
  refine ⟨PySem.W.fnOf "law" "law" (defArgs sLaw) (defBody sLaw) (defScope sLaw) .none kV27 dc27 pm27 an27 cd27 ct27, fun s v => .of_eq rfl, fun base _ _ => ?_⟩
  have o1 := ok_small (P := l.prog) (w := w) (mg := mg) (base := base) F1
  have o2 := ok_word (P := l.prog) (w := w) (mg := mg) (base := base) F2 KCC o1 b1 k1 m1
  have o3 := ok_whole (P := l.prog) (w := w) (mg := mg) (base := base) F3 KCC
  have o4 := ok_mark (P := l.prog) (w := w) (mg := mg) (base := base) F4 KCC o2 b2 k2 m2
  have o5 := ok_chkE (P := l.prog) (w := w) (mg := mg) (base := base) F5 KCC o4 b4 k4 m4
  have h1 := ok_smallH (P := l.prog) (w := w) (mg := mg) (base := base) F1
  have h2 := ok_wordH (P := l.prog) (w := w) (mg := mg) (base := base) F2 KCC h1 b1 k1 m1
  have h3 := ok_wholeH (P := l.prog) (w := w) (mg := mg) (base := base) F3 KCC
  have h4 := ok_markH (P := l.prog) (w := w) (mg := mg) (base := base) F4 KCC h2 b2 k2 m2
  have oi := ok_init (P := l.prog) (w := w) (mg := mg) (base := base) F28 KCC EE o3 b3 k3 m3 o4 b4 k4 m4
  have J : MkE l.prog w K mg base CE f28 _ := ⟨⟨mkE, a28, i28, kcE⟩, oi, b28, mCE⟩
  have og := ok_grow (P := l.prog) (w := w) (mg := mg) (base := base) F29 KCC EE
  have GE : Mth l.prog w K mg base CE "growth" ["self"] (spGrow K CE) := ⟨_, _, ⟨a29, i29, k29⟩, og, b29⟩
  have ounc := ok_uncut (P := l.prog) (w := w) (mg := mg) (base := base) F6
  have opof := ok_pof (P := l.prog) (w := w) (mg := mg) (base := base) F7 BB
  have ocut := ok_cut (P := l.prog) (w := w) (mg := mg) (base := base) F9 BB
  have oed := ok_edited (P := l.prog) (w := w) (mg := mg) (base := base) F8 BB ocut b9 k9 m9
  have ochg := ok_chg (P := l.prog) (w := w) (mg := mg) (base := base) F10 BB
  have ogof := ok_gof (P := l.prog) (w := w) (mg := mg) (base := base) F12 BB
  have oich := ok_isch (P := l.prog) (w := w) (mg := mg) (base := base) F11 BB o3 b3 k3 m3 o4 b4 k4 m4
  have hich := ok_ischH (P := l.prog) (w := w) (mg := mg) (base := base) F11 BB h3 b3 k3 m3 h4 b4 k4 m4
  have opi := ok_pinit (P := l.prog) (w := w) (mg := mg) (base := base) F30 BB y_zip EP o3 b3 k3 m3 oich b11 k11 m11
  have hpi := ok_pinitH (P := l.prog) (w := w) (mg := mg) (base := base) F30 BB y_zip EP h3 b3 k3 m3 hich b11 k11 m11
  have opl := ok_plen (P := l.prog) (w := w) (mg := mg) (base := base) F32 BB EP
  have opb := ok_pbool (P := l.prog) (w := w) (mg := mg) (base := base) F34 y_bool EP
  have opit := ok_piter (P := l.prog) (w := w) (mg := mg) (base := base) F33 y_iter EP
  have opq := ok_peq (P := l.prog) (w := w) (mg := mg) (base := base) F31 BB EP RP
  have hpq := ok_peqH (P := l.prog) (w := w) (mg := mg) (base := base) F31 BB EP RP
  have opg := ok_pgrow (P := l.prog) (w := w) (mg := mg) (base := base) F36 BB EP ogof b12 k12 m12
  have ope := ok_peds (P := l.prog) (w := w) (mg := mg) (base := base) F37 EP J
  have opc := ok_pcall (P := l.prog) (w := w) (mg := mg) (base := base) F35 BB EP XB ⟨_, _, o5, b5, k5, m5⟩
  have ockp := ok_chkp (P := l.prog) (w := w) (mg := mg) (base := base) F14 BB EP RP
  have MP : MkC l.prog w K mg base "Patch" CP 5 ["self", "changes", "least"] (spPInit K CP) := ⟨⟨_, _, ⟨mkP, a30, i30, kcP⟩, opi, b30⟩, mCP⟩
  have opat := ok_patch (P := l.prog) (w := w) (mg := mg) (base := base) F13 BB ⟨_, PySem.W.mg_of X G gE⟩ EE RE ⟨⟨_, _, ounc, b6, k6, m6⟩⟩ ⟨⟨_, _, oed, b8, k8, m8⟩⟩ ⟨⟨_, _, ochg, b10, k10, m10⟩⟩ ⟨_, _, ⟨a29, i29, k29⟩, og, b29⟩ MP
  have obeh := ok_behind (P := l.prog) (w := w) (mg := mg) (base := base) F15 BB EP ⟨⟨_, _, ockp, b14, k14, m14⟩⟩ ⟨⟨_, _, opof, b7, k7, m7⟩⟩ ⟨⟨_, _, oed, b8, k8, m8⟩⟩ ⟨⟨_, _, ochg, b10, k10, m10⟩⟩ ⟨_, _, ⟨a36, i36, k36⟩, opg, b36⟩ MP
  have ocell := ok_cell (P := l.prog) (w := w) (mg := mg) (base := base) F16 y_len
  have odraw := ok_draw (P := l.prog) (w := w) (mg := mg) (base := base) F17 y_int
  have onum := ok_num (P := l.prog) (w := w) (mg := mg) (base := base) F18 y_int y_range odraw b17 k17 m17
  have onext := ok_next (P := l.prog) (w := w) (mg := mg) (base := base) F19 y_int ocell b16 k16 m16 onum b18 k18 m18
  have opick := ok_pick (P := l.prog) (w := w) (mg := mg) (base := base) F20 y_len onext b19 k19 m19
  have owds := ok_wds (P := l.prog) (w := w) (mg := mg) (base := base) F21 y_range opick b20 k20 m20
  have ole := ok_le (P := l.prog) (w := w) (mg := mg) (base := base) F22 y_min J onext b19 k19 m19 owds b21 k21 m21
  have oles := ok_les (P := l.prog) (w := w) (mg := mg) (base := base) F23 y_range EE GE ole b22 k22 m22
  have odn := ok_dn (P := l.prog) (w := w) (mg := mg) (base := base) F24 KCC EE
  have omk := ok_mks (P := l.prog) (w := w) (mg := mg) (base := base) F25 y_range
  have olst := ok_lst (P := l.prog) (w := w) (mg := mg) (base := base) F26 y_range EE GE
  have CC : CK l.prog w K mg base CE CP CB := ⟨⟨⟨_, _, (onext).mono (by decide), b19, k19, m19⟩⟩, ⟨⟨_, _, (owds).mono (by decide), b21, k21, m21⟩⟩, ⟨⟨_, _, (oles).mono (by decide), b23, k23, m23⟩⟩, ⟨⟨_, _, (odn).mono (by decide), b24, k24, m24⟩⟩, ⟨⟨_, _, (omk).mono (by decide), b25, k25, m25⟩⟩, ⟨⟨_, _, (olst).mono (by decide), b26, k26, m26⟩⟩, ⟨⟨_, _, (opat).mono (by decide), b13, k13, m13⟩⟩, ⟨⟨_, _, (obeh).mono (by decide), b15, k15, m15⟩⟩, ⟨_, _, ⟨a29, i29, k29⟩, og.mono (by decide), b29⟩, ⟨_, _, ⟨a36, i36, k36⟩, opg.mono (by decide), b36⟩, ⟨_, _, ⟨a37, i37, k37⟩, ope.mono (by decide), b37⟩, ⟨_, _, a32, i32, opl.mono (by decide), b32⟩, ⟨_, _, a34, i34, opb.mono (by decide), b34⟩, ⟨_, _, a31, i31, opq.mono (by decide), b31⟩, qhn, qhob, ⟨_, ⟨a35, i35, fnI⟩, (opc.raw b35 .nil).mono (by decide)⟩, ⟨_, _, J⟩, EE, EP, y_range, y_len, y_bool, y_sum, y_tuple, y_list, y_enumerate⟩
  have JP : MkP l.prog w K mg base CP := ⟨⟨_, _, ⟨mkP, a30, i30, kcP⟩, fnH_mono hpi (by decide), b30⟩, ⟨_, _, a31, i31, fnH_mono hpq (by decide), b31⟩, mCP⟩
  exact ok_law F27 CC JP mCB eCB fun cdv A outer s H0 E hr => call_listP rfl a33 i33 opit b33 a32 i32 opl b32 (hr.mono (by decide))
theorem walk {l : PySem.W.OpenLaw} {q : Program} {loose : List Str} {XP : (Str → Option Value) → Heap → Prop} {YP : World → Heap → Prop} {d : DefRec} {K : Params → PySem.W.Frag} (hn : l.most = some 63) (hdf : d.params.defaults = [])
    (hY : ∀ (w : World) (h : Heap), YP w h → (K w.params).In h)
    (F : ∀ (w : World) (mg : Str → Option Value) (fa : Addr) (h : Heap), (K w.params).In h → h.Ns mainGlobals mg → mg d.name = some (.ref fa) →
      ∃ fd : FuncData, (∀ (s : Shared) (u : Value), BindsTo s fd ⟨[u], []⟩ [("script", u)]) ∧ ∀ base : Heap, (K w.params).In base → base.Ns mainGlobals mg → FnOk l.prog w (K w.params) mg base CX0 21 fa fd ["script"] (spLaw (K w.params))) :
    PySem.W.WalkO q loose XP YP l.row.toRowW d [] (fun f vs => PySem.call f vs) :=
  L2.walk_of (n := 63) (k := 21) (x := "script") (CX := fun _ => CX0) (sp := fun w => spLaw (K w.params)) hn (by decide) hdf ⟨rfl, by decide, by decide⟩ hY F (fun _ _ a ns hl _ hS => ⟨a, ns, rfl, hS, hl, fun _ => rfl⟩) fun _ _ _ _ _ z => z
end P5

end
section
set_option Elab.async false
open PySem PySem.W PyProof.Rows
set_option maxRecDepth 100000 in
set_option maxHeartbeats 0 in
theorem PySem.Challenge.cw_typingroom_k50_whole_patches_holds : PySem.Challenge.rw_typingroom_k50_whole_patches.Holds := by
  w_on; o_law; k_head; (case hw => w_witness2)
  k_fill
  refine P5.walk (l := PySem.Challenge.rw_typingroom_k50_whole_patches) rfl rfl (fun w h Y => PySem.W.kIn_of Y) ?F
  case F =>
    intro w mg fa h KX G hmg
    refine' P5.all_mk KX G hmg ?a1 ?l1 ?c1 ?k1 ?a2 ?l2 ?c2 ?k2 ?a3 ?l3 ?c3 ?k3 ?a4 ?l4 ?c4 ?k4 ?a5 ?l5 ?c5 ?k5 ?a6 ?l6 ?c6 ?k6 ?a7 ?l7 ?c7 ?k7 ?a8 ?l8 ?c8 ?k8 ?a9 ?l9 ?c9 ?k9 ?a10 ?l10 ?c10 ?k10 ?a11 ?l11 ?c11 ?k11 ?a12 ?l12 ?c12 ?k12 ?a13 ?l13 ?c13 ?k13 ?a14 ?l14 ?c14 ?k14 ?a15 ?l15 ?c15 ?k15 ?a16 ?l16 ?c16 ?k16 ?a17 ?l17 ?c17 ?k17 ?a18 ?l18 ?c18 ?k18 ?a19 ?l19 ?c19 ?k19 ?a20 ?l20 ?c20 ?k20 ?a21 ?l21 ?c21 ?k21 ?a22 ?l22 ?c22 ?k22 ?a23 ?l23 ?c23 ?k23 ?a24 ?l24 ?c24 ?k24 ?a25 ?l25 ?c25 ?k25 ?a26 ?l26 ?c26 ?k26 ?a27 ?l27 ?c27 ?k27 ?a28 ?i28 ?l28 ?c28 ?k28 ?a29 ?i29 ?l29 ?c29 ?k29 ?a30 ?i30 ?l30 ?c30 ?k30 ?a31 ?i31 ?l31 ?c31 ?k31 ?a32 ?i32 ?l32 ?c32 ?k32 ?a33 ?i33 ?l33 ?c33 ?k33 ?a34 ?i34 ?l34 ?c34 ?k34 ?a35 ?i35 ?l35 ?c35 ?k35 ?a36 ?i36 ?l36 ?c36 ?k36 ?a37 ?i37 ?l37 ?c37 ?k37 ?aCE ?pgE ?hdE ?poE ?saE ?mkE ?kcE ?nF ?nL ?nW ?rhaE ?rhmE ?rkitE ?aCP ?pgP ?hdP ?poP ?saP ?mkP ?kcP ?nPC ?nPL ?rhaP ?rhmP ?rkitP ?rhn ?rht ?qhn ?qhob ?fnI ?aCB ?xCB ?kCB ?bCB ?tCB ?eCB ?gN ?oN ?gS ?oS ?gL ?gM ?gE ?z_len ?z_all ?z_isinstance ?z_str ?z_tuple ?z_list ?z_int ?z_bool ?z_min ?z_range ?z_enumerate ?z_max ?z_sum ?z_zip ?z_iter
    (case aCE => k_is)
    (case aCP => k_is)
    (case aCB => k_is)
    (case a1 => k_is)
    (case l1 => k_is)
    (case c1 => k_is)
    (case k1 => k_is)
    (case a2 => k_is)
    (case l2 => k_is)
    (case c2 => k_is)
    (case k2 => k_is)
    (case a3 => k_is)
    (case l3 => k_is)
    (case c3 => k_is)
    (case k3 => k_is)
    (case a4 => k_is)
    (case l4 => k_is)
    (case c4 => k_is)
    (case k4 => k_is)
    (case a5 => k_is)
    (case l5 => k_is)
    (case c5 => k_is)
    (case k5 => k_is)
    (case a6 => k_is)
    (case l6 => k_is)
    (case c6 => k_is)
    (case k6 => k_is)
    (case a7 => k_is)
    (case l7 => k_is)
    (case c7 => k_is)
    (case k7 => k_is)
    (case a8 => k_is)
    (case l8 => k_is)
    (case c8 => k_is)
    (case k8 => k_is)
    (case a9 => k_is)
    (case l9 => k_is)
    (case c9 => k_is)
    (case k9 => k_is)
    (case a10 => k_is)
    (case l10 => k_is)
    (case c10 => k_is)
    (case k10 => k_is)
    (case a11 => k_is)
    (case l11 => k_is)
    (case c11 => k_is)
    (case k11 => k_is)
    (case a12 => k_is)
    (case l12 => k_is)
    (case c12 => k_is)
    (case k12 => k_is)
    (case a13 => k_is)
    (case l13 => k_is)
    (case c13 => k_is)
    (case k13 => k_is)
    (case a14 => k_is)
    (case l14 => k_is)
    (case c14 => k_is)
    (case k14 => k_is)
    (case a15 => k_is)
    (case l15 => k_is)
    (case c15 => k_is)
    (case k15 => k_is)
    (case a16 => k_is)
    (case l16 => k_is)
    (case c16 => k_is)
    (case k16 => k_is)
    (case a17 => k_is)
    (case l17 => k_is)
    (case c17 => k_is)
    (case k17 => k_is)
    (case a18 => k_is)
    (case l18 => k_is)
    (case c18 => k_is)
    (case k18 => k_is)
    (case a19 => k_is)
    (case l19 => k_is)
    (case c19 => k_is)
    (case k19 => k_is)
    (case a20 => k_is)
    (case l20 => k_is)
    (case c20 => k_is)
    (case k20 => k_is)
    (case a21 => k_is)
    (case l21 => k_is)
    (case c21 => k_is)
    (case k21 => k_is)
    (case a22 => k_is)
    (case l22 => k_is)
    (case c22 => k_is)
    (case k22 => k_is)
    (case a23 => k_is)
    (case l23 => k_is)
    (case c23 => k_is)
    (case k23 => k_is)
    (case a24 => k_is)
    (case l24 => k_is)
    (case c24 => k_is)
    (case k24 => k_is)
    (case a25 => k_is)
    (case l25 => k_is)
    (case c25 => k_is)
    (case k25 => k_is)
    (case a26 => k_is)
    (case l26 => k_is)
    (case c26 => k_is)
    (case k26 => k_is)
    (case a27 => k_is)
    (case l27 => k_is)
    (case c27 => k_is)
    (case k27 => k_is)
    (case a28 => k_is)
    (case i28 => k_is)
    (case l28 => k_is)
    (case c28 => k_is)
    (case k28 => k_is)
    (case a29 => k_is)
    (case i29 => k_is)
    (case l29 => k_is)
    (case c29 => k_is)
    (case k29 => k_is)
    (case a30 => k_is)
    (case i30 => k_is)
    (case l30 => k_is)
    (case c30 => k_is)
    (case k30 => k_is)
    (case a31 => k_is)
    (case i31 => k_is)
    (case l31 => k_is)
    (case c31 => k_is)
    (case k31 => k_is)
    (case a32 => k_is)
    (case i32 => k_is)
    (case l32 => k_is)
    (case c32 => k_is)
    (case k32 => k_is)
    (case a33 => k_is)
    (case i33 => k_is)
    (case l33 => k_is)
    (case c33 => k_is)
    (case k33 => k_is)
    (case a34 => k_is)
    (case i34 => k_is)
    (case l34 => k_is)
    (case c34 => k_is)
    (case k34 => k_is)
    (case a35 => k_is)
    (case i35 => k_is)
    (case l35 => k_is)
    (case c35 => k_is)
    (case k35 => k_is)
    (case a36 => k_is)
    (case i36 => k_is)
    (case l36 => k_is)
    (case c36 => k_is)
    (case k36 => k_is)
    (case a37 => k_is)
    (case i37 => k_is)
    (case l37 => k_is)
    (case c37 => k_is)
    (case k37 => k_is)
    (case pgE => k_is)
    (case hdE => k_is)
    (case poE => k_is)
    (case saE => k_is)
    (case mkE => k_is)
    (case kcE => k_is)
    (case nF => k_is)
    (case nL => k_is)
    (case nW => k_is)
    (case rhaE => k_is)
    (case rhmE => k_is)
    (case rkitE => first | kernel_rfl | rfl | decide +kernel)
    (case pgP => k_is)
    (case hdP => k_is)
    (case poP => k_is)
    (case saP => k_is)
    (case mkP => k_is)
    (case kcP => k_is)
    (case nPC => k_is)
    (case nPL => k_is)
    (case rhaP => k_is)
    (case rhmP => k_is)
    (case rkitP => first | kernel_rfl | rfl | decide +kernel)
    (case rhn => k_is)
    (case rht => k_is)
    (case qhn => k_is)
    (case qhob => k_is)
    (case fnI => k_is)
    (case xCB => first | kernel_rfl | rfl | decide +kernel)
    (case kCB => k_is)
    (case bCB => k_is)
    (case tCB => k_is)
    (case eCB => first | kernel_rfl | rfl | decide +kernel)
    (case gN => k_is)
    (case oN => k_is)
    (case gS => k_is)
    (case oS => k_is)
    (case gL => k_is)
    (case gM => k_is)
    (case gE => k_is)
    (case z_len => k_is)
    (case z_all => k_is)
    (case z_isinstance => k_is)
    (case z_str => k_is)
    (case z_tuple => k_is)
    (case z_list => k_is)
    (case z_int => k_is)
    (case z_bool => k_is)
    (case z_min => k_is)
    (case z_range => k_is)
    (case z_enumerate => k_is)
    (case z_max => k_is)
    (case z_sum => k_is)
    (case z_zip => k_is)
    (case z_iter => k_is)

end
