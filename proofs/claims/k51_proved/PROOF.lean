import PyProof.Rows.All
import Wide.All
import OpenK.AllK
import Wide.FinOn
import HandS.Words
import HandS.List
import HandS.Comp
import HandS.Text
import HandS.Iter
import PySem.Challenge.RW_typingroom_k51_whole_hands
import HandS.Wide
import HandS.IsInst
import HandS.TupAny
import HandS.OwnEq
import HandS.Star
import HandS.Conv
import HandS.MapObj
import KE.KTupTruth
import KE.KOpsOwn
import OpenK.KOps
import PyProof.StrBlock2
import HandS.Style
import HandS.WordsExc
import HandS.TryOnly
import HandS.SuiteRaise
import HandS.Walk
import HandS.HotCalls
import HandS.ExcInitHot
import KE.KRevSl
import HandS.OwnIter
import HandS.IterVal
import HandS.SortKw
import KE.DataMinMax
import HandS.Zip
import HandS.TryMany
import HandS.ExcCtx
import KE.GoesEnum
import HandS.Deep
import PyProof.DictFindH
import PyProof.DictRoadsH
import KE.KeyNested
import HandS.Dict
import HandS.More
import HandS.TupLen
import HandS.DictComp
import KE.KEqDict
import KE.KDictCopyH
import KE.KDictOf
import KE.SortData
import KE.KDictSum
import KE.SortLaws
import HandS.Records
import HandS.TupSets
import HandS.SetFor
section
set_option Elab.async false
set_option linter.all false
set_option maxRecDepth 100000
set_option maxHeartbeats 4000000
namespace P5
open PySem L2
def tp (i : Nat) : Stmt := PySem.Challenge.pw_typingroom_k51_whole_hands.main.body.getD i (.Pass ⟨0, 0, 0, 0⟩)
theorem Same.tup {K : PySem.W.Frag} {H H' : Hp} {a : Addr} {xs : List V} (e : Same H H') (h : SqT K H a xs) : SqT K H' a xs := by
  rcases h with (h | ⟨o, h⟩) | h
  · exact .inl (.inl (e _ _ h))
  · exact .inl (.inr ⟨o, e _ _ h⟩)
  · exact .inr h
theorem Same.new {H : Hp} {p : Addr} (h : H p = none) (o : HO) : Same H (upd H p o) := fun b u q => by rw [upd_ne (ne_of_none q h)]; exact q
theorem SqT.of {K : PySem.W.Frag} {H : Hp} {a : Addr} {xs : List V} (h : H a = some (.tup xs)) : SqT K H a xs := .inl (.inl h)
theorem pgl {X : Cx} {x : Str} {a : Addr} {pos : Pos} (hm : X.mg x = some (.ref a)) (hg : Gl X x := by rfl) (hd : (x == ("__debug__" : Str)) = false := by decide) : PE X (.Name x pos) (tC (.ref a)) := pe_glob hg hm rfl hd
def smallS (x : Str) : Bool := !decide (x.cps.toList < ("a" : Str).cps.toList) && !decide (("z" : Str).cps.toList < x.cps.toList)
def signs (x : Str) : List Str := x.cps.toList.map fun c => (⟨#[c]⟩ : Str)
def noWord (x : Str) : Bool := [("any" : Str), "give", "let"].any fun y => y == x
def wordB (x : Str) : Bool := decide (1 ≤ x.length) && decide (x.length ≤ 10) && !noWord x && ((signs x).map smallS).all id
section
variable {P : Program} {w : World} {K : PySem.W.Frag} {mg : Str → Option Value} {base : Heap}
abbrev sSmall : Stmt := tp 8
theorem scSmall : FnScope ["letter"] ["letter"] (defScope sSmall) := ⟨rfl, rfl, rfl, by decide +kernel, rfl, by decide +kernel, by decide +kernel⟩
def spSmall : Sp := fun vs H Q _ => ∃ x : Str, vs = [.str x] ∧ Q (.bl (smallS x)) H
theorem ok_small {f : Addr} {fd : FuncData} (F : Fun K "is_small" "is_small" sSmall f fd) : FnOk P w K mg base CX0 1 f fd ["letter"] spSmall := by
  refine F.ok scSmall (fun vs H Q E h => ?_) (fun cdv A outer s H vs Q E hr h => ?_)
  · obtain ⟨x, rfl, _⟩ := h
    rfl
  obtain ⟨x, rfl, q⟩ := h
  refine ⟨_, pss_one (ps_ret (pe_chain op_le_str op_le_str pe_str (pv 0) pe_str)), ?_⟩
  refine ⟨_, rfl, _, _, rfl, rfl, _, rfl, ite2 (fun c => ?_) (fun c => ?_)⟩
  · refine ⟨_, _, rfl, rfl, ?_⟩
    have e : smallS x = !decide (("z" : Str).cps.toList < x.cps.toList) := by
      unfold smallS
      rw [c, Bool.true_and]
    rw [← e]
    exact q
  · have e : smallS x = false := by
      unfold smallS
      rw [Bool.eq_false_iff.mpr c, Bool.false_and]
    rw [← e]
    exact q
end
/-! ### comprehensions whose items are known values: ys, one a turn -/
theorem same_acc {H H4 : Hp} {D : Addr} {o : HO} (hn : H D = none) (s : Same H H4) : Same H (upd H4 D o) := fun b u q => by
  rw [upd_ne (ne_of_none q hn)]
  exact s b u q
theorem take_more {α : Type} : ∀ {l : List α} {i : Nat} {x : α}, l[i]? = some x → l.take (i + 1) = l.take i ++ [x]
  | [], i, x, h => by simp at h
  | a :: l, 0, x, h => by
    have e : a = x := Option.some.inj h
    subst e
    rfl
  | a :: l, i + 1, x, h => by
    have ih := take_more (l := l) (i := i) (x := x) h
    show a :: l.take (i + 1) = a :: l.take i ++ [x]
    rw [ih]
    rfl
theorem small_le {n : Nat} (h : n ≤ 1000) : n ≤ sizeLine := Nat.le_of_lt (small1000 h)
/-- n turns; R tells what a turn is given; what was there at the start stays -/
theorem lc_go {J : It} {g : TG} {te : TE} {vs : List Nat} {σ : St} {H1 : Hp} {D : Addr} {Qd : Hp → Prop} (n : Nat) (R : Nat → V → Hp → Prop) (ys : List V) (hl : ys.length = n) (hz : n ≤ 1000) (hD : H1 D = none)
    (go : ∀ i H', i < n → Same H1 H' → J.go i H') (yld : ∀ i x H' H'', i < n → Same H1 H' → J.yld i H' x H'' → Same H' H'' ∧ R i x H'') (stop : ∀ H', Same H1 H' → J.stop n H')
    (turn : ∀ (i : Nat) (y x : V) (H' : Hp) (Q : VK), ys[i]? = some y → Same H1 H' → R i x H' → (∀ H4, Same H' H4 → Q y H4) → g x (wipe σ vs) H' fun σ2 H2 => wipe σ2 vs = wipe σ vs ∧ te σ2 H2 Q)
    (hd : ∀ H', Same H1 H' → H' D = some (.lst ys) → Qd H') :
    ∃ W : Nat → Nat → Hp → Prop, (∃ m, W 0 m (upd H1 D (.lst []))) ∧ ∀ i m H, W i m H →
      (J.stop i H ∧ Qd H) ∨ (J.go i H ∧ ∃ Nx : Hp → Prop, (∀ H', Nx H' → ∃ m', m' < m ∧ W (i + 1) m' H') ∧ ∀ x H', J.yld i H x H' → g x (wipe σ vs) H' fun σ2 H2 => wipe σ2 vs = wipe σ vs ∧ tYes σ2 H2 fun b H3 =>
        if b = true then te σ2 H3 fun y H4 => ∃ acc, H4 D = some (.lst acc) ∧ acc.length < sizeLine ∧ Nx (upd H4 D (.lst (acc ++ [y]))) else Nx H3) := by
  refine ⟨fun i m H => m = n - i ∧ i ≤ n ∧ Same H1 H ∧ H D = some (.lst (ys.take i)), ⟨n, by omega, Nat.zero_le _, same_acc hD (Same.refl _), upd_same⟩, ?_⟩
  rintro i m H ⟨rfl, hi, s, hL⟩
  by_cases hlt : i < n
  · refine .inr ⟨go i H hlt s, fun H' => Same H1 H' ∧ H' D = some (.lst (ys.take (i + 1))), fun H' p' => ⟨n - (i + 1), by omega, rfl, hlt, p'⟩, fun x H' y => ?_⟩
    obtain ⟨s2, r⟩ := yld i x H H' hlt s y
    have hy : ys[i]? = some ys[i] := List.getElem?_eq_getElem (by omega)
    refine turn i ys[i] x H' _ hy (s.trans s2) r fun H4 s4 => ?_
    refine ⟨ys.take i, s4 _ _ (s2 _ _ hL), small1000 (by rw [List.length_take]; omega), same_acc hD ((s.trans s2).trans s4), ?_⟩
    rw [upd_same, take_more hy]
  · have e : i = n := by omega
    subst e
    refine .inl ⟨stop H s, hd H s ?_⟩
    rw [hL, List.take_of_length_le (by omega)]
theorem lcT {K : PySem.W.Frag} {a : Addr} {xs : List V} {g : TG} {te : TE} {vs : List Nat} {σ : St} {H1 : Hp} {D : Addr} {Qd : Hp → Prop} (ys : List V) (hl : ys.length = xs.length) (hz : xs.length ≤ 1000) (hS : SqT K H1 a xs) (hD : H1 D = none)
    (turn : ∀ (i : Nat) (y x : V) (H' : Hp) (Q : VK), xs[i]? = some x → ys[i]? = some y → Same H1 H' → (∀ H4, Same H' H4 → Q y H4) → g x (wipe σ vs) H' fun σ2 H2 => wipe σ2 vs = wipe σ vs ∧ te σ2 H2 Q)
    (hd : ∀ H', Same H1 H' → H' D = some (.lst ys) → Qd H') :
    ∃ W : Nat → Nat → Hp → Prop, (∃ m, W 0 m (upd H1 D (.lst []))) ∧ ∀ i m H, W i m H →
      ((Itt K a).stop i H ∧ Qd H) ∨ ((Itt K a).go i H ∧ ∃ Nx : Hp → Prop, (∀ H', Nx H' → ∃ m', m' < m ∧ W (i + 1) m' H') ∧ ∀ x H', (Itt K a).yld i H x H' → g x (wipe σ vs) H' fun σ2 H2 => wipe σ2 vs = wipe σ vs ∧ tYes σ2 H2 fun b H3 =>
        if b = true then te σ2 H3 fun y H4 => ∃ acc, H4 D = some (.lst acc) ∧ acc.length < sizeLine ∧ Nx (upd H4 D (.lst (acc ++ [y]))) else Nx H3) :=
  lc_go xs.length (fun i x _ => xs[i]? = some x) ys hl hz hD (fun i H' hi s => ⟨xs, xs[i], Same.tup s hS, List.getElem?_eq_getElem hi⟩)
    (fun i x H' H'' hi s q => by obtain ⟨e, q⟩ := q; rw [e]; exact ⟨Same.refl _, q xs (Same.tup s hS)⟩) (fun H' s => ⟨xs, Same.tup s hS, Nat.le_refl _⟩) (fun i y x H' Q hy s hx k => turn i y x H' Q hx hy s k) hd
theorem lcL {K : PySem.W.Frag} {a : Addr} {xs : List V} {g : TG} {te : TE} {vs : List Nat} {σ : St} {H1 : Hp} {D : Addr} {Qd : Hp → Prop} (ys : List V) (hl : ys.length = xs.length) (hz : xs.length ≤ 1000) (hS : SqL K H1 a xs) (hD : H1 D = none)
    (turn : ∀ (i : Nat) (y x : V) (H' : Hp) (Q : VK), xs[i]? = some x → ys[i]? = some y → Same H1 H' → (∀ H4, Same H' H4 → Q y H4) → g x (wipe σ vs) H' fun σ2 H2 => wipe σ2 vs = wipe σ vs ∧ te σ2 H2 Q)
    (hd : ∀ H', Same H1 H' → H' D = some (.lst ys) → Qd H') :
    ∃ W : Nat → Nat → Hp → Prop, (∃ m, W 0 m (upd H1 D (.lst []))) ∧ ∀ i m H, W i m H →
      ((Itl K a).stop i H ∧ Qd H) ∨ ((Itl K a).go i H ∧ ∃ Nx : Hp → Prop, (∀ H', Nx H' → ∃ m', m' < m ∧ W (i + 1) m' H') ∧ ∀ x H', (Itl K a).yld i H x H' → g x (wipe σ vs) H' fun σ2 H2 => wipe σ2 vs = wipe σ vs ∧ tYes σ2 H2 fun b H3 =>
        if b = true then te σ2 H3 fun y H4 => ∃ acc, H4 D = some (.lst acc) ∧ acc.length < sizeLine ∧ Nx (upd H4 D (.lst (acc ++ [y]))) else Nx H3) :=
  lc_go xs.length (fun i x _ => xs[i]? = some x) ys hl hz hD (fun i H' hi s => ⟨xs, xs[i], s.seq hS, List.getElem?_eq_getElem hi⟩)
    (fun i x H' H'' hi s q => by obtain ⟨e, q⟩ := q; rw [e]; exact ⟨Same.refl _, q xs (s.seq hS)⟩) (fun H' s => ⟨xs, s.seq hS, Nat.le_refl _⟩) (fun i y x H' Q hy s hx k => turn i y x H' Q hx hy s k) hd
theorem lcS {z : Str} {g : TG} {te : TE} {vs : List Nat} {σ : St} {H1 : Hp} {D : Addr} {Qd : Hp → Prop} (ys : List V) (hl : ys.length = z.length) (hz : z.length ≤ 1000) (hD : H1 D = none)
    (turn : ∀ (i : Nat) (y : V) (c : Nat) (H' : Hp) (Q : VK), z.cps.toList[i]? = some c → ys[i]? = some y → Same H1 H' → (∀ H4, Same H' H4 → Q y H4) → g (.str ⟨#[c]⟩) (wipe σ vs) H' fun σ2 H2 => wipe σ2 vs = wipe σ vs ∧ te σ2 H2 Q)
    (hd : ∀ H', Same H1 H' → H' D = some (.lst ys) → Qd H') :
    ∃ W : Nat → Nat → Hp → Prop, (∃ m, W 0 m (upd H1 D (.lst []))) ∧ ∀ i m H, W i m H →
      ((Its z).stop i H ∧ Qd H) ∨ ((Its z).go i H ∧ ∃ Nx : Hp → Prop, (∀ H', Nx H' → ∃ m', m' < m ∧ W (i + 1) m' H') ∧ ∀ x H', (Its z).yld i H x H' → g x (wipe σ vs) H' fun σ2 H2 => wipe σ2 vs = wipe σ vs ∧ tYes σ2 H2 fun b H3 =>
        if b = true then te σ2 H3 fun y H4 => ∃ acc, H4 D = some (.lst acc) ∧ acc.length < sizeLine ∧ Nx (upd H4 D (.lst (acc ++ [y]))) else Nx H3) :=
  lc_go z.cps.size (fun i x _ => ∃ c, z.cps.toList[i]? = some c ∧ x = .str ⟨#[c]⟩) ys hl hz hD (fun i H' hi s => hi)
    (fun i x H' H'' hi s q => by obtain ⟨e, c, h1, h2⟩ := q; rw [e]; exact ⟨Same.refl _, c, by rw [Array.getElem?_toList]; exact h1, h2⟩) (fun H' s => Nat.le_refl _)
    (fun i y x H' Q hy s hx k => by obtain ⟨c, h1, h2⟩ := hx; subst h2; exact turn i y c H' Q h1 hy s k) hd
end P5

end
section
set_option Elab.async false
set_option linter.all false
set_option maxRecDepth 100000
set_option maxHeartbeats 4000000
namespace P5
open PySem L2
/-! ### the draws: any number below the bound -/
/-- the drawing list at d: what is drawn from, 0, how many were drawn -/
def Drw (H : Hp) (d : Addr) : Prop := ∃ (sa : Addr) (ns : List Int) (n : Int), H d = some (.lst [.ref sa, .int 0, .int n]) ∧ H sa = some (.lst (ns.map V.int)) ∧ ns.length ≤ 63 ∧ 0 ≤ n
/-- all that was there stays, but the drawing list -/
def Aft (H H' : Hp) (d : Addr) : Prop := ∀ x o, x ≠ d → H x = some o → H' x = some o
theorem Aft.refl (H : Hp) (d : Addr) : Aft H H d := fun _ _ _ h => h
theorem Aft.trans {H H1 H2 : Hp} {d : Addr} (a : Aft H H1 d) (b : Aft H1 H2 d) : Aft H H2 d := fun x o n h => b x o n (a x o n h)
theorem Aft.of {H H' : Hp} {d : Addr} (s : Same H H') : Aft H H' d := fun x o _ h => s x o h
theorem Drw.same {H H' : Hp} {d : Addr} (h : Drw H d) (s : Same H H') : Drw H' d := by
  obtain ⟨sa, ns, n, h1, h2, h3⟩ := h
  exact ⟨sa, ns, n, s _ _ h1, s _ _ h2, h3⟩
theorem Drw.ne {H : Hp} {d x : Addr} {o : HO} (h : Drw H d) (hx : H x = some o) (hn : ∀ sa n, o ≠ .lst [.ref sa, .int 0, .int n]) : x ≠ d := fun e => by
  obtain ⟨sa, ns, n, h1, _⟩ := h
  rw [e, h1] at hx
  exact hn sa n (Option.some.inj hx).symm
theorem Aft.tup {K : PySem.W.Frag} {H H' : Hp} {d a : Addr} {xs : List V} (hd : Drw H d) (e : Aft H H' d) (h : SqT K H a xs) : SqT K H' a xs := by
  rcases h with (h | ⟨o, h⟩) | h
  · exact .inl (.inl (e _ _ (hd.ne h fun _ _ z => by cases z) h))
  · exact .inl (.inr ⟨o, e _ _ (hd.ne h fun _ _ z => by cases z) h⟩)
  · exact .inr h
theorem Aft.seq {K : PySem.W.Frag} {H H' : Hp} {d a : Addr} {xs : List V} (hn : a ≠ d) (e : Aft H H' d) (h : SqL K H a xs) : SqL K H' a xs := by
  rcases h with (h | ⟨o, h⟩) | h
  · exact .inl (.inl (e _ _ hn h))
  · exact .inl (.inr ⟨o, e _ _ hn h⟩)
  · exact .inr h
theorem at_list {xs : List V} {k : Int} (h0 : 0 ≤ k) (h : k < (xs.length : Int)) : ∃ v, xs[k.toNat]? = some v ∧ atI xs k = some v := by
  have hk : k.toNat < xs.length := by omega
  have ek : k = ((k.toNat : Nat) : Int) := by omega
  have q : atI xs ((k.toNat : Nat) : Int) = some xs[k.toNat] := atI_nat (List.getElem?_eq_getElem hk)
  rw [← ek] at q
  exact ⟨_, List.getElem?_eq_getElem hk, q⟩
theorem at_ints {ns : List Int} {k : Int} (h0 : 0 ≤ k) (h : k < (ns.length : Int)) : ∃ v : Int, atI (ns.map V.int) k = some (.int v) := by
  obtain ⟨v, h1, h2⟩ := at_list (xs := ns.map V.int) h0 (by rw [List.length_map]; exact h)
  rw [List.getElem?_map] at h1
  cases e : ns[k.toNat]? with
  | none => rw [e] at h1; cases h1
  | some i =>
    rw [e] at h1
    cases h1
    exact ⟨i, h2⟩
section
variable {P : Program} {w : World} {K : PySem.W.Frag} {mg : Str → Option Value} {base : Heap}
abbrev sCell : Stmt := tp 40
theorem scCell : FnScope ["script", "k"] ["script", "k"] (defScope sCell) := ⟨rfl, rfl, rfl, by decide +kernel, rfl, by decide +kernel, by decide +kernel⟩
def spCell (K : PySem.W.Frag) : Sp := fun vs H Q _ => ∃ (a : Addr) (ns : List Int) (k : Int), vs = [.ref a, .int k] ∧ SqL K H a (ns.map V.int) ∧ 0 ≤ k ∧ ∀ r, Q (.int r) H
theorem ok_cell {f : Addr} {fd : FuncData} (F : Fun K "_law_cell_at" "_law_cell_at" sCell f fd) (ml : mg "len" = none) : FnOk P w K mg base CX0 1 f fd ["script", "k"] (spCell K) := by
  refine F.ok scCell (fun vs H Q E h => ?_) (fun cdv A outer s H vs Q E hr h => ?_)
  · obtain ⟨x, _, _, rfl, _⟩ := h
    rfl
  obtain ⟨a, ns, k, rfl, hS, h0, q⟩ := h
  refine ⟨_, pss_cons (ps_if (pt_cmpR op_lt (pv 1) (pe_callB call_len_seq rfl ml PySem.boot_len (pa_cons (pv 0) pa_nil)) (nomark _)) (pss_one (ps_ret (pe_ix ix_list (pv 0) (pv 1) (fun _ _ => rfl)))) pss_nil)
    (pss_one (ps_ret pe_int)), ?_⟩
  refine ⟨_, rfl, _, rfl, a, _, rfl, .inl hS, _, _, rfl, rfl, _, rfl, ite2 (fun c => ?_) (fun c => ?_)⟩
  · have c' : k < (((ns.map V.int).length : Nat) : Int) := of_decide_eq_true c
    rw [List.length_map] at c'
    obtain ⟨v, hv⟩ := at_ints (ns := ns) h0 c'
    exact ⟨_, rfl, _, rfl, a, _, k, .int v, rfl, rfl, hS, hv, q _⟩
  · exact q 0
abbrev sDraw : Stmt := tp 41
theorem scDraw : FnScope ["cell", "k", "bound", "primes"] ["cell", "k", "bound"] (defScope sDraw) := ⟨rfl, rfl, rfl, by decide +kernel, rfl, by decide +kernel, by decide +kernel⟩
def spDraw : Sp := fun vs H Q _ => ∃ (c k b : Int), vs = [.int c, .int k, .int b] ∧ c.natAbs < 2 ^ 60 ∧ k.natAbs < 2 ^ 60 ∧ 0 < b ∧ ∀ r H', 0 ≤ r → r < b → Same H H' → Q (.int r) H'
def PRM : List Int := [1000003, 1000033, 1000037, 1000039, 1000081, 1000099, 1000117, 1000121, 1000133, 1000151, 1000159, 1000171, 1000183, 1000187, 1000193, 1000199]
theorem prm_at {i : Int} (h0 : 0 ≤ i) (h : i < 16) : ∃ p : Int, 0 < p ∧ atI (PRM.map V.int) i = some (.int p) := by
  have z : ∀ n : Fin 16, ∃ p : Int, 0 < p ∧ PRM[n.val]? = some p := fun n => ⟨PRM.getD n.val 0, by revert n; decide +kernel, by revert n; decide +kernel⟩
  obtain ⟨p, h1, h2⟩ := z ⟨i.toNat, by omega⟩
  refine ⟨p, h1, ?_⟩
  have ek : i = ((i.toNat : Nat) : Int) := by omega
  have q : atI (PRM.map V.int) ((i.toNat : Nat) : Int) = some (.int p) := atI_nat (by rw [List.getElem?_map, h2] <;> rfl)
  rw [← ek] at q
  exact q
theorem ok_draw {f : Addr} {fd : FuncData} (F : Fun K "_law_draw" "_law_draw" sDraw f fd) (mi : mg "int" = none) : FnOk P w K mg base CX0 1 f fd ["cell", "k", "bound"] spDraw := by
  refine F.ok scDraw (fun vs H Q E h => ?_) (fun cdv A outer s H vs Q E hr h => ?_)
  · obtain ⟨x, _, _, rfl, _⟩ := h
    rfl
  obtain ⟨c, k, b, rfl, hc, hk, hb, q⟩ := h
  refine ⟨_, pss_cons (ps_set (i := 3) scDraw.nd rfl (Or.inl rfl) (pe_tup (pa_cons pe_int (pa_cons pe_int (pa_cons pe_int (pa_cons pe_int (pa_cons pe_int (pa_cons pe_int (pa_cons pe_int (pa_cons pe_int (pa_cons pe_int (pa_cons pe_int (pa_cons pe_int (pa_cons pe_int (pa_cons pe_int (pa_cons pe_int (pa_cons pe_int (pa_cons pe_int pa_nil))))))))))))))))))
    (pss_one (ps_ret (pe_op op_modN (pe_op op_modN (pe_callTy call_int1 rfl mi (by decide +kernel) (pa_cons (pe_op op_add (pe_mul (pv 0) pe_int) (pe_mul (pv 1) pe_int)) pa_nil))
      (pe_ix ix_tup (pv 3) (pe_op op_mod (pe_callTy call_int1 rfl mi (by decide +kernel) (pa_cons (pv 1) pa_nil)) pe_int) (fun _ _ => rfl))) (pv 2)))), ?_⟩
  refine ⟨(by show 16 ≤ sizeLine; decide), fun p hp => ?_⟩
  have hp' : upd H p (.tup (PRM.map V.int)) p = some (.tup (PRM.map V.int)) := upd_same
  obtain ⟨m, hm0, hm⟩ := prm_at (i := k % 16) (Int.emod_nonneg _ (by decide)) (Int.emod_lt_of_pos _ (by decide))
  refine ⟨_, rfl, _, _, rfl, rfl, ⟨by omega, by omega⟩, _, rfl, _, _, rfl, rfl, ⟨by omega, by omega⟩, _, _, rfl, rfl, .inl ⟨_, rfl, ?_⟩⟩
  refine ⟨_, rfl, _, rfl, .inl ⟨_, rfl, _, _, rfl, rfl, (by show (0 : Int) < 16; decide), p, _, _, _, rfl, rfl, P5.SqT.of hp', hm, _, _, rfl, rfl, by omega, _, rfl, _, _, rfl, rfl, by omega, ?_⟩⟩
  exact q _ _ (Int.fmod_nonneg_of_pos _ hb) (Int.fmod_lt_of_pos _ hb) (Same.new hp _)
end
section
variable {P : Program} {w : World} {K : PySem.W.Frag} {mg : Str → Option Value} {base : Heap}
abbrev sNum : Stmt := tp 42
theorem scNum : FnScope ["cell", "k", "bound", "power", "lap", "remains", "small"] ["cell", "k", "bound"] (defScope sNum) := ⟨rfl, rfl, rfl, by decide +kernel, rfl, by decide +kernel, by decide +kernel⟩
def spNum : Sp := fun vs H Q _ => ∃ (c k b : Int), vs = [.int c, .int k, .int b] ∧ 0 ≤ k ∧ k ≤ 100 ∧ 0 < b ∧ ∀ r H', 0 ≤ r → r < b → Same H H' → Q (.int r) H'
theorem pow_small (i : Nat) (h : i < 24) : ((1009 : Int) ^ i).natAbs < 2 ^ 240 ∧ (0 : Int) < 1009 ^ i := by
  have z : ∀ n : Fin 24, ((1009 : Int) ^ n.val).natAbs < 2 ^ 240 ∧ (0 : Int) < 1009 ^ n.val := by decide +kernel
  exact z ⟨i, h⟩
theorem ok_num {f fD : Addr} {fd fdD : FuncData} (F : Fun K "_law_number" "_law_number" sNum f fd) (mi : mg "int" = none) (mr : mg "range" = none)
    (G : FnOk P w K mg base CX0 1 fD fdD ["cell", "k", "bound"] spDraw) (bG : Binds K fdD ["cell", "k", "bound"] []) (kG : PySem.W.keepIn K (.ref fD) = true) (mG : mg "_law_draw" = some (.ref fD)) : FnOk P w K mg base CX0 2 f fd ["cell", "k", "bound"] spNum := by
  refine F.ok scNum (fun vs H Q E h => ?_) (fun cdv A outer s H vs Q E hr h => ?_)
  · obtain ⟨x, _, _, rfl, _⟩ := h
    rfl
  obtain ⟨c, k, b, rfl, h0, h1, hb, q⟩ := h
  refine ⟨_, pss_cons (ps_set (i := 3) scNum.nd rfl (Or.inl rfl) pe_int)
    (pss_cons (ps_for PassesOwn.never rfl (pi_range1 rfl mr (pa_cons (pe_op op_mod (pe_callTy call_int1 rfl mi (by decide +kernel) (pa_cons (pv 1) pa_nil)) pe_int) pa_nil)) (pg_name (i := 4) scNum.nd rfl (Or.inl rfl))
      (pss_one (ps_set (i := 3) scNum.nd rfl (Or.inl rfl) (pe_op op_mulW (pv 3) pe_int))))
    (pss_cons (ps_set (i := 5) scNum.nd rfl (Or.inl rfl) (pe_op op_fdivW (pe_op op_sub (pv 0) (pe_op op_pow pe_int pe_int)) (pv 3)))
    (pss_cons (ps_if (pt_cmpR op_gt (pv 5) pe_int (nomark _)) (pss_one (ps_ret (pe_op op_modN (pe_op op_mod (pe_callTy call_int1 rfl mi (by decide +kernel) (pa_cons (pv 5) pa_nil)) pe_int) (pv 2)))) pss_nil)
    (pss_cons (ps_set (i := 6) scNum.nd rfl (Or.inl rfl) (pe_op op_mod (pe_callTy call_int1 rfl mi (by decide +kernel) (pa_cons (pv 0) pa_nil)) pe_int))
    (pss_one (ps_ret (pe_op op_modN (pe_call G hr rfl mG kG bG .nil pass0 (pa_cons (pe_mul (pe_op op_add (pv 6) (pe_mul pe_int (pv 1))) (pe_op op_add (pe_op op_add (pv 6) (pe_mul pe_int (pv 1))) pe_int))
      (pa_cons (pe_op op_add (pe_op op_mod (pe_callTy call_int1 rfl mi (by decide +kernel) (pa_cons (pv 1) pa_nil)) pe_int) pe_int) (pa_cons pe_int pa_nil)))) (pv 2)))))))), ?_⟩
  have hk0 : 0 ≤ k % 24 := Int.emod_nonneg _ (by decide)
  have hk1 : k % 24 < 24 := Int.emod_lt_of_pos _ (by decide)
  refine ⟨_, rfl, .inl ⟨_, rfl, _, _, rfl, rfl, (by show (0 : Int) < 24; decide), _, rfl, by omega, by omega, ?_⟩⟩
  refine for_range (n := (k % 24).toNat) (fun i σ H' => H' = H ∧ ∃ v, σ = [some (.int c), some (.int k), some (.int b), some (.int (1009 ^ i)), v, none, none]) ⟨rfl, none, rfl⟩ ?_ ?_
  · rintro i σ H' hi ⟨rfl, v, rfl⟩
    have hp := pow_small i (by omega)
    refine ⟨_, rfl, _, _, rfl, rfl, wide_mul hp.1 (show (1009 : Int).natAbs < 2 ^ 10 by decide) (by decide) (by decide) (by decide), rfl, some (.int (0 + (i : Int))), ?_⟩
    rw [Int.pow_succ]
    rfl
  · rintro σ H' ⟨rfl, v, rfl⟩
    have hp := pow_small (k % 24).toNat (by omega)
    refine ⟨_, rfl, _, _, rfl, rfl, ⟨by decide, by decide, by decide +kernel⟩, _, _, rfl, rfl, _, rfl, _, _, rfl, rfl, wide_div hp.2 hp.1 (by decide) (by decide), ?_⟩
    refine ⟨_, rfl, _, _, rfl, rfl, _, rfl, ite2 (fun z => ?_) (fun z => ?_)⟩
    · refine ⟨_, rfl, .inl ⟨_, rfl, _, _, rfl, rfl, (by show (0 : Int) < 1009; decide), _, rfl, _, _, rfl, rfl, by omega, ?_⟩⟩
      exact q _ _ (Int.fmod_nonneg_of_pos _ hb) (Int.fmod_lt_of_pos _ hb) (Same.refl _)
    · refine ⟨_, rfl, .inl ⟨_, rfl, _, _, rfl, rfl, (by show (0 : Int) < 1000003; decide), ?_⟩⟩
      have s0 : 0 ≤ c % 1000003 := Int.emod_nonneg _ (by decide)
      have s1 : c % 1000003 < 1000003 := Int.emod_lt_of_pos _ (by decide)
      have k9 : 0 ≤ k % 9 := Int.emod_nonneg _ (by decide)
      have k9' : k % 9 < 9 := Int.emod_lt_of_pos _ (by decide)
      refine ⟨_, rfl, _, rfl, _, _, rfl, rfl, (by constructor <;> decide), _, _, rfl, rfl, _, rfl, _, rfl, _, _, rfl, rfl, (by constructor <;> decide), _, _, rfl, rfl, _, _, rfl, rfl, _, _, rfl, rfl, ?_, ?_⟩
      · constructor <;> omega
      refine ⟨_, rfl, .inl ⟨_, rfl, _, _, rfl, rfl, (by show (0 : Int) < 9; decide), _, _, rfl, rfl, _, _, _, rfl, ?_, ?_, by decide, fun r H2 r0 r1 s2 => ?_⟩⟩
      · have a1 : (c % 1000003 + 977 * k).natAbs < 2 ^ 21 := by omega
        have a2 : (c % 1000003 + 31 * k + 5).natAbs < 2 ^ 21 := by omega
        exact Nat.lt_trans (wide_lt a1 a2) (by decide)
      · omega
      · refine ⟨_, rfl, _, _, rfl, rfl, by omega, ?_⟩
        exact q _ _ (Int.fmod_nonneg_of_pos _ hb) (Int.fmod_lt_of_pos _ hb) s2
end
section
variable {P : Program} {w : World} {K : PySem.W.Frag} {mg : Str → Option Value} {base : Heap}
abbrev sNext : Stmt := tp 43
theorem scNext : FnScope ["draw", "bound", "at", "cell"] ["draw", "bound"] (defScope sNext) := ⟨rfl, rfl, rfl, by decide +kernel, rfl, by decide +kernel, by decide +kernel⟩
/-- the drawing list at d, with what is drawn from at sa -/
def DrwS (H : Hp) (d sa : Addr) : Prop := ∃ (ns : List Int) (n : Int), H d = some (.lst [.ref sa, .int 0, .int n]) ∧ H sa = some (.lst (ns.map V.int)) ∧ ns.length ≤ 63 ∧ 0 ≤ n
theorem DrwS.drw {H : Hp} {d sa : Addr} (h : DrwS H d sa) : Drw H d := ⟨sa, h⟩
def spNext : Sp := fun vs H Q _ => ∃ (d sa : Addr) (b : Int), vs = [.ref d, .int b] ∧ DrwS H d sa ∧ 0 < b ∧ ∀ r H', 0 ≤ r → r < b → Aft H H' d → DrwS H' d sa → Q (.int r) H'
theorem ok_next {f f1 f2 : Addr} {fd fd1 fd2 : FuncData} (F : Fun K "_law_next" "_law_next" sNext f fd) (mi : mg "int" = none)
    (G1 : FnOk P w K mg base CX0 1 f1 fd1 ["script", "k"] (spCell K)) (b1 : Binds K fd1 ["script", "k"] []) (k1 : PySem.W.keepIn K (.ref f1) = true) (m1 : mg "_law_cell_at" = some (.ref f1))
    (G2 : FnOk P w K mg base CX0 2 f2 fd2 ["cell", "k", "bound"] spNum) (b2 : Binds K fd2 ["cell", "k", "bound"] []) (k2 : PySem.W.keepIn K (.ref f2) = true) (m2 : mg "_law_number" = some (.ref f2)) : FnOk P w K mg base CX0 3 f fd ["draw", "bound"] spNext := by
  refine F.ok scNext (fun vs H Q E h => ?_) (fun cdv A outer s H vs Q E hr h => ?_)
  · obtain ⟨x, _, _, rfl, _⟩ := h
    rfl
  obtain ⟨d, sa, b, rfl, ⟨ns, n, hd, hsa, hlen, hn⟩, hb, q⟩ := h
  refine ⟨_, pss_cons (ps_asg (pe_op op_add (pe_ix ix_list (pv 0) pe_int (fun _ _ => rfl)) pe_int) (pg_sub (pv 0) pe_int set_list))
    (pss_cons (ps_set (i := 2) scNext.nd rfl (Or.inl rfl) (pe_op op_fdiv (pe_ix ix_list (pv 0) pe_int (fun _ _ => rfl)) pe_int))
    (pss_cons (ps_set (i := 3) scNext.nd rfl (Or.inl rfl) (pe_op op_add (pe_call G1 (hr.mono (by decide)) rfl m1 k1 b1 .nil pass0 (pa_cons (pe_ix ix_list (pv 0) pe_int (fun _ _ => rfl)) (pa_cons (pe_op op_add (pe_ix ix_list (pv 0) pe_int (fun _ _ => rfl)) (pv 2)) pa_nil))) (pe_mul pe_int (pv 2))))
    (pss_one (ps_ret (pe_call G2 hr rfl m2 k2 b2 .nil pass0 (pa_cons (pv 3) (pa_cons (pe_op op_add (pe_op op_mod (pe_callTy call_int1 rfl mi (by decide +kernel) (pa_cons (pe_ix ix_list (pv 0) pe_int (fun _ _ => rfl)) pa_nil)) pe_int) pe_int) (pa_cons (pv 1) pa_nil)))))))), ?_⟩
  have nsd : sa ≠ d := fun e => by
    rw [e, hd] at hsa
    have z := congrArg (fun o => match o with
      | HO.lst (.ref _ :: _) => true
      | _ => false) (Option.some.inj hsa)
    cases ns with
    | nil => cases z
    | cons => cases z
  refine ⟨_, rfl, d, _, 2, .int n, rfl, rfl, SqL.of hd, rfl, _, _, rfl, rfl, ?_⟩
  refine ⟨_, rfl, d, _, _, 2, rfl, rfl, hd, rfl, ?_⟩
  have h2 : upd H d (.lst [.ref sa, .int 0, .int (n + 1)]) d = some (.lst [.ref sa, .int 0, .int (n + 1)]) := upd_same
  refine ⟨_, rfl, d, _, 2, .int (n + 1), rfl, rfl, SqL.of h2, rfl, _, _, rfl, rfl, ⟨by decide, by decide⟩, ?_⟩
  have ha : (0 : Int) ≤ (n + 1) / 12 := Int.ediv_nonneg (by omega) (by decide)
  have s2 : upd H d (.lst [.ref sa, .int 0, .int (n + 1)]) sa = some (.lst (ns.map V.int)) := by rw [upd_ne nsd]; exact hsa
  refine ⟨_, rfl, d, _, 0, .ref sa, rfl, rfl, SqL.of h2, rfl, _, rfl, d, _, 1, .int 0, rfl, rfl, SqL.of h2, rfl, _, rfl, _, _, rfl, rfl, sa, ns, _, rfl, SqL.of s2, by omega, fun r => ?_⟩
  refine ⟨_, rfl, _, _, rfl, rfl, (by constructor <;> decide), _, _, rfl, rfl, ?_⟩
  refine ⟨_, rfl, _, rfl, d, _, 2, .int (n + 1), rfl, rfl, SqL.of h2, rfl, .inl ⟨_, rfl, _, _, rfl, rfl, (by show (0 : Int) < 12; decide), _, _, rfl, rfl, _, rfl, _, _, _, rfl, ?_, ?_, hb, fun r2 H2 r0 r1 s3 => ?_⟩⟩
  · have := Int.emod_nonneg (n + 1) (show (12 : Int) ≠ 0 by decide)
    omega
  · have := Int.emod_lt_of_pos (n + 1) (show (0 : Int) < 12 by decide)
    omega
  · refine q r2 H2 r0 r1 (fun x o hx ho => s3 _ _ (by rw [upd_ne hx]; exact ho)) ⟨ns, n + 1, s3 _ _ h2, s3 _ _ s2, hlen, by omega⟩
abbrev sPick : Stmt := tp 44
theorem scPick : FnScope ["draw", "things"] ["draw", "things"] (defScope sPick) := ⟨rfl, rfl, rfl, by decide +kernel, rfl, by decide +kernel, by decide +kernel⟩
def spPick (K : PySem.W.Frag) : Sp := fun vs H Q _ => ∃ (d sa l : Addr) (xs : List V), vs = [.ref d, .ref l] ∧ DrwS H d sa ∧ SqL K H l xs ∧ l ≠ d ∧ xs ≠ [] ∧ ∀ (i : Nat) (x : V) (H' : Hp), xs[i]? = some x → Aft H H' d → DrwS H' d sa → Q x H'
theorem ok_pick {f f1 : Addr} {fd fd1 : FuncData} (F : Fun K "_law_pick" "_law_pick" sPick f fd) (ml : mg "len" = none)
    (G1 : FnOk P w K mg base CX0 3 f1 fd1 ["draw", "bound"] spNext) (b1 : Binds K fd1 ["draw", "bound"] []) (k1 : PySem.W.keepIn K (.ref f1) = true) (m1 : mg "_law_next" = some (.ref f1)) : FnOk P w K mg base CX0 4 f fd ["draw", "things"] (spPick K) := by
  refine F.ok scPick (fun vs H Q E h => ?_) (fun cdv A outer s H vs Q E hr h => ?_)
  · obtain ⟨x, _, _, _, rfl, _⟩ := h
    rfl
  obtain ⟨d, sa, l, xs, rfl, hd, hl, hne, hx, q⟩ := h
  refine ⟨_, pss_one (ps_ret (pe_ix ix_list (pv 1) (pe_call G1 hr rfl m1 k1 b1 .nil pass0 (pa_cons (pv 0) (pa_cons (pe_callB call_len_seq rfl ml PySem.boot_len (pa_cons (pv 1) pa_nil)) pa_nil))) (fun _ _ => rfl))), ?_⟩
  have h0 : 0 < xs.length := List.length_pos_iff.mpr hx
  refine ⟨_, rfl, _, rfl, _, rfl, l, _, rfl, .inl hl, d, sa, _, rfl, hd, by omega, fun r H' r0 r1 a1 d1 => ?_⟩
  obtain ⟨v, e1, e2⟩ := at_list r0 r1
  exact ⟨l, xs, r, v, rfl, rfl, Aft.seq hne a1 hl, e2, q _ v H' e1 a1 d1⟩
end
end P5

end
section
set_option Elab.async false
set_option linter.all false
set_option maxRecDepth 100000
set_option maxHeartbeats 4000000
namespace P5
open PySem PySem.Spec PyProof.Rows L2
/-- a list or a tuple -/
def SqE (K : PySem.W.Frag) (H : Hp) (a : Addr) (xs : List V) : Prop := SqL K H a xs ∨ SqT K H a xs
theorem SqE.same {K : PySem.W.Frag} {H H' : Hp} {a : Addr} {xs : List V} (s : Same H H') (h : SqE K H a xs) : SqE K H' a xs := h.imp (fun q => s.seq q) fun q => Same.tup s q
theorem sqT_ty {K : PySem.W.Frag} {H : Hp} {a : Addr} {xs : List V} (h : SqT K H a xs) : TyX K H (.ref a) (.type "tuple") := by
  rcases h with (h | ⟨o, h⟩) | ⟨o, its, n, h, hc, _⟩
  · exact .base (.tup h)
  · exact .fTuple h
  · exact .kTuple h hc
theorem sqL_ty {K : PySem.W.Frag} {H : Hp} {a : Addr} {xs : List V} (h : SqL K H a xs) : TyX K H (.ref a) (.type "list") := by
  rcases h with (h | ⟨o, h⟩) | ⟨o, its, n, h, hc, _⟩
  · exact .base (.lst h)
  · exact .base (.frz h)
  · exact .kList h hc
abbrev SGN : List Str := ["=", ";", "(", ")", "{", "}", ",", ":", "."]
abbrev TWO : List Str := ["give", "let"]
def markB (x : Str) : Bool := wordB x || decide (x ∈ SGN) || decide (x ∈ TWO)
/-- the words and signs: short, and of signs that can be laid -/
inductive MkT where
  | it
def MRK : MkT := .it
instance : Membership Str MkT := ⟨fun _ x => markB x = true ∧ x.length ≤ 20 ∧ PyData.strOk x = true⟩
theorem mrk_of {x : Str} (h : (markB x && decide (x.length ≤ 20) && PyData.strOk x) = true) : x ∈ MRK := by
  simp only [Bool.and_eq_true, decide_eq_true_eq] at h
  exact ⟨h.1.1, h.1.2, h.2⟩
theorem mrk_len : ∀ x ∈ MRK, x.length ≤ 20 := fun _ h => h.2.1
theorem mrk_sgn : ∀ x ∈ MRK, wordB x = false → x ∈ SGN ∨ x ∈ TWO := fun x h e => by
  have z : markB x = true := h.1
  unfold markB at z
  rw [e, Bool.false_or, Bool.or_eq_true, decide_eq_true_eq, decide_eq_true_eq] at z
  exact z
theorem mrk_ok : ∀ x ∈ MRK, PyData.strOk x = true := fun _ h => h.2.2
/-- the constants of the text -/
structure KC (K : PySem.W.Frag) (mg : Str → Option Value) (aN aS : Addr) : Prop where
  gN : mg "NO_WORDS" = some (.ref aN)
  tN : ∀ H, SqT K H aN [.str "any", .str "give", .str "let"]
  gS : mg "SIGNS" = some (.ref aS)
  tS : ∀ H, SqT K H aS (SGN.map V.str)
  gL : ∃ t, mg "LONGEST" = some (.int 10 t)
  gM : ∃ t, mg "MOST_WORDS" = some (.int 200 t)
  len : mg "len" = none
  all : mg "all" = none
  isi : mg "isinstance" = none
  str : mg "str" = none
  lst : mg "list" = none
  tup : mg "tuple" = none
  int : mg "int" = none
  bool : mg "bool" = none
theorem iteFF {p q : Prop} {b : Bool} (e : b = false) (h : q) : if b = true then p else q := by rw [e]; exact h
theorem iteTT {p q : Prop} {b : Bool} (e : b = true) (h : p) : if b = true then p else q := by rw [e]; exact h
def tNev : TE := fun _ _ _ => False
theorem pe_never {X : Cx} {e : Expr} : PE X e tNev := ⟨fun _ _ _ _ _ _ h => False.elim h⟩
theorem pt_never {X : Cx} {e : Expr} : PT X e (fun _ _ _ => False) := ⟨fun _ _ _ _ _ _ h => False.elim h⟩
theorem hu65 {A : Around} {k : Nat} (hr : Room k A) : A.units + 65 < cLine := by have := hr.un; omega
section
variable {P : Program} {w : World} {K : PySem.W.Frag} {mg : Str → Option Value} {base : Heap} {aN aS : Addr}
theorem pe_strT {X : Cx} {p : Pos} (hm : X.mg "str" = none) (hg : Gl X "str" := by rfl) : PE X (.Name "str" p) (tC (.ty "str")) := pe_bltn hg hm (by decide +kernel) rfl
theorem pe_tupT {X : Cx} {p : Pos} (hm : X.mg "tuple" = none) (hg : Gl X "tuple" := by rfl) : PE X (.Name "tuple" p) (tC (.ty "tuple")) := pe_bltn hg hm (by decide +kernel) rfl
theorem pe_lstT {X : Cx} {p : Pos} (hm : X.mg "list" = none) (hg : Gl X "list" := by rfl) : PE X (.Name "list" p) (tC (.ty "list")) := pe_bltn hg hm (by decide +kernel) rfl
theorem pe_intT {X : Cx} {p : Pos} (hm : X.mg "int" = none) (hg : Gl X "int" := by rfl) : PE X (.Name "int" p) (tC (.ty "int")) := pe_bltn hg hm (by decide +kernel) rfl
theorem pe_boolT {X : Cx} {p : Pos} (hm : X.mg "bool" = none) (hg : Gl X "bool" := by rfl) : PE X (.Name "bool" p) (tC (.ty "bool")) := pe_bltn hg hm (by decide +kernel) rfl
abbrev sWord : Stmt := tp 9
theorem scWord : FnScope ["thing", "letter"] ["thing"] (defScope sWord) := ⟨rfl, rfl, rfl, by decide +kernel, rfl, by decide +kernel, by decide +kernel⟩
def spWord : Sp := fun vs H Q _ => ∃ x : Str, vs = [.str x] ∧ x.length ≤ 20 ∧ ∀ H', Same H H' → Q (.bl (wordB x)) H'
theorem ok_word {f f1 : Addr} {fd fd1 : FuncData} (F : Fun K "is_word" "is_word" sWord f fd) (T : KC K mg aN aS)
    (G1 : FnOk P w K mg base CX0 1 f1 fd1 ["letter"] spSmall) (b1 : Binds K fd1 ["letter"] []) (k1 : PySem.W.keepIn K (.ref f1) = true) (m1 : mg "is_small" = some (.ref f1)) : FnOk P w K mg base CX0 2 f fd ["thing"] spWord := by
  refine F.ok scWord (fun vs H Q E h => ?_) (fun cdv A outer s H vs Q E hr h => ?_)
  · obtain ⟨x, rfl, _⟩ := h
    rfl
  obtain ⟨x, rfl, hl, q⟩ := h
  obtain ⟨tk, gL⟩ := T.gL
  refine ⟨_, pss_cons (ps_if (PW.pt (pw_or (pt_not (pt_val (pe_callB call_isi rfl T.isi (by decide +kernel) (pa_cons (pv 0) (pa_cons (pe_strT T.str) pa_nil)))))
      (pw_or1 (pt_not (pt_chain op_le op_le pe_int (pe_callB call_len_str rfl T.len PySem.boot_len (pa_cons (pv 0) pa_nil)) (pe_glob (v := .int 10) rfl gL ⟨_, rfl⟩)))))) (pss_one (ps_ret pe_bl)) pss_nil)
    (pss_one (ps_ret (pe_and (pe_cmpR op_notIn_seq (pv 0) (pgl T.gN) (by rfl)) (pe_one (pe_callB (cr_all rfl) rfl T.all (by decide +kernel) (pa_cons (pe_lc (own := [("letter", 1)]) (g := gName 1) rfl scWord.nd (pi_str (pv 0))
      (blkOk_by (N := ["thing", "letter"]) (sc := defScope sWord) (by decide +kernel)) (fun _ _ _ _ _ => pg_name (i := 1) scWord.nd rfl (Or.inl rfl))
      (fun _ _ _ _ _ => pts_nil) (fun _ _ _ _ _ => pe_call G1 hr rfl m1 k1 b1 .nil pass0 (pa_cons (pv 1) pa_nil))) pa_nil)))))), ?_⟩
  refine ⟨_, rfl, .str x, .ty "str", .type "str", .type "str", true, rfl, .ty _, .base (.str x), kit_ty (by decide +kernel), _, rfl, ?_⟩
  refine iteF ?_
  refine ⟨_, rfl, _, rfl, small_le (by omega), _, _, rfl, rfl, _, rfl, ite2 (fun c => ?_) (fun c => ?_)⟩
  · refine ⟨_, _, rfl, rfl, _, rfl, ?_⟩
    have c1 : 1 ≤ (x.length : Int) := of_decide_eq_true c
    cases c2 : decide ((x.length : Int) ≤ 10) with
    | false =>
      have c2' : ¬ x.length ≤ 10 := by
        have := of_decide_eq_false c2
        omega
      refine iteT ?_
      have e : wordB x = false := by
        unfold wordB
        rw [decide_eq_false c2', Bool.and_false, Bool.false_and, Bool.false_and]
      rw [← e]
      exact q H (Same.refl H)
    | true =>
      have c2' : x.length ≤ 10 := by
        have := of_decide_eq_true c2
        omega
      have c1' : 1 ≤ x.length := by omega
      refine iteF ?_
      have e : wordB x = (!noWord x && ((signs x).map smallS).all id) := by
        unfold wordB
        rw [decide_eq_true c1', decide_eq_true c2', Bool.true_and, Bool.true_and]
      refine ⟨_, rfl, _, _, rfl, .inr (T.tN _), rfl, rfl, !noWord x, rfl, ite2 (fun z => ?_) (fun z => ?_)⟩
      · refine ⟨_, rfl, x, rfl, fun D hN => lcS (((signs x).map smallS).map V.bl) (by simp [signs, Str.length]) (by omega) hN (fun i y cc H' Q' hc hy s k => ?_) fun H' s hL => ?_⟩
        · rw [List.getElem?_map, List.getElem?_map] at hy
          unfold signs at hy
          rw [List.getElem?_map, hc] at hy
          cases hy
          exact ⟨rfl, _, rfl, _, rfl, k H' (Same.refl H')⟩
        · refine ⟨D, _, rfl, SqL.of hL, ?_⟩
          have zz := q H' s
          rw [e, z, Bool.true_and] at zz
          exact zz
      · have zz := q H (Same.refl H)
        rw [e, Bool.eq_false_iff.mpr z, Bool.false_and] at zz
        exact zz
  · refine ⟨_, rfl, iteT ?_⟩
    have c1 : ¬ (1 : Int) ≤ (x.length : Int) := of_decide_eq_false (Bool.eq_false_iff.mpr c)
    have c1' : ¬ 1 ≤ x.length := by omega
    have e : wordB x = false := by
      unfold wordB
      rw [decide_eq_false c1', Bool.false_and, Bool.false_and, Bool.false_and]
    rw [← e]
    exact q H (Same.refl H)
/-! ### is_whole, is_mark, checked_words -/
abbrev sWhole : Stmt := tp 10
theorem scWhole : FnScope ["thing"] ["thing"] (defScope sWhole) := ⟨rfl, rfl, rfl, by decide +kernel, rfl, by decide +kernel, by decide +kernel⟩
def spWhole : Sp := fun vs H Q _ => ∃ i : Int, vs = [.int i] ∧ Q (.bl true) H
theorem ok_whole {f : Addr} {fd : FuncData} (F : Fun K "is_whole" "is_whole" sWhole f fd) (T : KC K mg aN aS) : FnOk P w K mg base CX0 1 f fd ["thing"] spWhole := by
  refine F.ok scWhole (fun vs H Q E h => ?_) (fun cdv A outer s H vs Q E hr h => ?_)
  · obtain ⟨x, rfl, _⟩ := h
    rfl
  obtain ⟨i, rfl, q⟩ := h
  refine ⟨_, pss_one (ps_ret (pe_and (pe_callB call_isi rfl T.isi (by decide +kernel) (pa_cons (pv 0) (pa_cons (pe_intT T.int) pa_nil)))
    (pe_one (pe_not (pe_callB call_isi rfl T.isi (by decide +kernel) (pa_cons (pv 0) (pa_cons (pe_boolT T.bool) pa_nil))))))), ?_⟩
  refine ⟨_, rfl, .int i, .ty "int", .type "int", .type "int", true, rfl, .ty _, .base (.int i), kit_ty (by decide +kernel), _, rfl, iteT ?_⟩
  exact ⟨_, rfl, .int i, .ty "bool", .type "int", .type "bool", false, rfl, .ty _, .base (.int i), kit_ty (by decide +kernel), _, rfl, q⟩
abbrev sMark : Stmt := tp 14
theorem scMark : FnScope ["thing"] ["thing"] (defScope sMark) := ⟨rfl, rfl, rfl, by decide +kernel, rfl, by decide +kernel, by decide +kernel⟩
def spMark : Sp := fun vs H Q _ => ∃ x ∈ MRK, vs = [.str x] ∧ ∀ H', Same H H' → Q (.bl true) H'
theorem inV_strs (v : Str) (ys : List Str) : inV (.str v) (ys.map V.str) = decide (v ∈ ys) := by
  unfold inV
  rw [List.any_map]
  by_cases h : v ∈ ys
  · rw [decide_eq_true h, List.any_eq_true]
    exact ⟨v, h, by show (v == v) = true; rw [beq_self_eq_true]⟩
  · rw [decide_eq_false h, List.any_eq_false]
    intro x hx z
    have z' : (x == v) = true := z
    exact h (beq_iff_eq.mp z' ▸ hx)
theorem ok_mark {f f1 : Addr} {fd fd1 : FuncData} (F : Fun K "is_mark" "is_mark" sMark f fd) (T : KC K mg aN aS)
    (G1 : FnOk P w K mg base CX0 2 f1 fd1 ["thing"] spWord) (b1 : Binds K fd1 ["thing"] []) (k1 : PySem.W.keepIn K (.ref f1) = true) (m1 : mg "is_word" = some (.ref f1)) : FnOk P w K mg base CX0 3 f fd ["thing"] spMark := by
  refine F.ok scMark (fun vs H Q E h => ?_) (fun cdv A outer s H vs Q E hr h => ?_)
  · obtain ⟨x, _, rfl, _⟩ := h
    rfl
  obtain ⟨x, hx, rfl, q⟩ := h
  refine ⟨_, pss_one (ps_ret (pe_or (pe_call G1 hr rfl m1 k1 b1 .nil pass0 (pa_cons (pv 0) pa_nil)) (pe_or (pe_cmpR op_in_seq (pv 0) (pgl T.gS) (by rfl))
    (pe_one (pe_cmpR op_in_seq (pv 0) (pe_tup (pa_cons pe_str (pa_cons pe_str pa_nil))) (by rfl)))))), ?_⟩
  refine ⟨_, rfl, x, rfl, mrk_len x hx, fun H' s' => ⟨_, rfl, ?_⟩⟩
  cases e : wordB x with
  | true => exact iteT (q H' s')
  | false =>
    refine iteF ⟨_, rfl, aS, _, rfl, .inr (T.tS _), rfl, rfl, ?_⟩
    rw [if_neg Bool.false_ne_true]
    refine ⟨_, rfl, ?_⟩
    show ite (inV (.str x) (SGN.map V.str) = true) _ _
    rw [inV_strs]
    rcases mrk_sgn x hx e with h | h
    · rw [decide_eq_true h]
      exact iteT (q H' s')
    · by_cases h2 : x ∈ SGN
      · rw [decide_eq_true h2]
        exact iteT (q H' s')
      · rw [decide_eq_false h2]
        refine iteF ⟨_, rfl, (by show 2 ≤ sizeLine; decide), fun p hp => ?_⟩
        have s1 := Same.new hp (.tup (TWO.map V.str))
        refine ⟨p, TWO.map V.str, rfl, .inr (SqT.of upd_same), rfl, rfl, ?_⟩
        rw [if_neg Bool.false_ne_true, inV_strs, decide_eq_true h]
        exact q _ (s'.trans s1)
abbrev sChk : Stmt := tp 15
theorem scChk : FnScope ["words", "word"] ["words"] (defScope sChk) := ⟨rfl, rfl, rfl, by decide +kernel, rfl, by decide +kernel, by decide +kernel⟩
def spChk (K : PySem.W.Frag) : Sp := fun vs H Q _ => ∃ (a : Addr) (ws : List Str), vs = [.ref a] ∧ SqL K H a (ws.map V.str) ∧ (∀ x ∈ ws, x ∈ MRK) ∧ ws.length ≤ 200 ∧ ∀ H' p, Same H H' → H p = none → H' p = some (.lst (ws.map V.str)) → Q (.ref p) H'
theorem ok_chk {f f1 : Addr} {fd fd1 : FuncData} (F : Fun K "checked_words" "checked_words" sChk f fd) (T : KC K mg aN aS)
    (G1 : FnOk P w K mg base CX0 3 f1 fd1 ["thing"] spMark) (b1 : Binds K fd1 ["thing"] []) (k1 : PySem.W.keepIn K (.ref f1) = true) (m1 : mg "is_mark" = some (.ref f1)) : FnOk P w K mg base CX0 4 f fd ["words"] (spChk K) := by
  refine F.ok scChk (fun vs H Q E h => ?_) (fun cdv A outer s H vs Q E hr h => ?_)
  · obtain ⟨x, _, rfl, _⟩ := h
    rfl
  obtain ⟨a, ws, rfl, hS, hw, hl, q⟩ := h
  obtain ⟨tk, gM⟩ := T.gM
  refine ⟨_, pss_cons (ps_if (PW.pt (pw_or (pt_not (pt_val (pe_callB call_isiT rfl T.isi (by decide +kernel) (pa_cons (pv 0) (pa_cons (pe_tup (pa_cons (pe_lstT T.lst) (pa_cons (pe_tupT T.tup) pa_nil))) pa_nil)))))
      (pw_or1 (pt_cmpR op_gt (pe_callB call_len_seq rfl T.len PySem.boot_len (pa_cons (pv 0) pa_nil)) (pe_glob (v := .int 200) rfl gM ⟨_, rfl⟩) (nomark _))))) (pss_one ps_never) pss_nil)
    (pss_cons (ps_if (pt_not (pt_val (pe_callB (cr_all rfl) rfl T.all (by decide +kernel) (pa_cons (pe_lc (own := [("word", 1)]) (g := gName 1) rfl scChk.nd (pi_list (pv 0))
      (blkOk_by (N := ["words", "word"]) (sc := defScope sChk) (by decide +kernel)) (fun _ _ _ _ _ => pg_name (i := 1) scChk.nd rfl (Or.inl rfl))
      (fun _ _ _ _ _ => pts_nil) (fun _ _ _ _ _ => pe_call G1 hr rfl m1 k1 b1 .nil pass0 (pa_cons (pv 1) pa_nil))) pa_nil)))) (pss_one ps_never) pss_nil)
    (pss_one (ps_ret (pe_callTy call_list_of rfl T.lst (by decide +kernel) (pa_cons (pv 0) pa_nil))))), ?_⟩
  refine ⟨_, rfl, (by show 2 ≤ sizeLine; decide), fun p hp => ?_⟩
  have s1 := Same.new hp (.tup [.ty "list", .ty "tuple"])
  have hS1 := s1.seq hS
  refine ⟨.ref a, p, [.ty "list", .ty "tuple"], .type "list", [.type "list", .type "tuple"], true, rfl, upd_same, .cons (.ty _) (.cons (.ty _) .nil), sqL_ty hS1,
      kitAny_cons (b := true) (kit_ty (by decide +kernel)) (fun z => nomatch z) (fun _ => rfl), _, rfl, iteF ?_⟩
  refine ⟨_, rfl, a, _, rfl, .inl hS1, _, _, rfl, rfl, _, rfl, iteFF (decide_eq_false (by rw [List.length_map]; omega)) ?_⟩
  refine ⟨_, rfl, a, rfl, ⟨_, hS1⟩, fun D hN => lcL ((List.replicate ws.length true).map V.bl) (by rw [List.length_map, List.length_replicate, List.length_map]) (by rw [List.length_map]; omega) hS1 hN (fun i y x H' Q' hx hy s k => ?_) fun H' s hL => ?_⟩
  · have ey : y = .bl true := by
      obtain ⟨b, hb, e⟩ := List.mem_map.mp (List.mem_of_getElem? hy)
      rw [← e, List.eq_of_mem_replicate hb]
    rw [List.getElem?_map] at hx
    cases e : ws[i]? with
    | none => rw [e] at hx; cases hx
    | some z =>
      rw [e] at hx
      cases hx
      subst ey
      exact ⟨rfl, _, rfl, z, hw z (List.mem_of_getElem? e), rfl, fun H' s' => k H' s'⟩
  · refine ⟨D, _, rfl, SqL.of hL, _, rfl, ?_⟩
    have e : (List.replicate ws.length true).all id = true := by
      rw [List.all_eq_true]
      intro b hb
      exact List.eq_of_mem_replicate hb
    rw [e]
    refine iteF ⟨_, rfl, a, _, rfl, .inl (s.seq hS1), fun l hl2 => ?_⟩
    have hHl : H l = none := by
      cases e2 : H l with
      | none => rfl
      | some o => rw [(s1.trans s) _ _ e2] at hl2; cases hl2
    exact q _ l ((s1.trans s).trans (Same.new hl2 _)) hHl upd_same
end
end P5

end
section
set_option Elab.async false
set_option linter.all false
set_option maxRecDepth 100000
set_option maxHeartbeats 4000000
namespace P5
open PySem PySem.Spec PyProof.Rows L2
theorem pi_alt {X : Cx} {tg iter : Expr} {w1 w2 : TI} (h1 : PI X tg iter w1) (h2 : PI X tg iter w2) : PI X tg iter (fun σ H R => w1 σ H R ∨ w2 σ H R) :=
  ⟨fun pins s σ H R I h => h.elim (fun q => h1.run pins s σ H R I q) fun q => h2.run pins s σ H R I q⟩
theorem pe_alt {X : Cx} {e : Expr} {t1 t2 : TE} (h1 : PE X e t1) (h2 : PE X e t2) : PE X e (fun σ H Q => t1 σ H Q ∨ t2 σ H Q) :=
  ⟨fun pins s σ H Q I h => h.elim (fun q => h1.run pins s σ H Q I q) fun q => h2.run pins s σ H Q I q⟩
/-! ### edits as plain mathematics -/
structure Ed where
  a : Nat
  b : Nat
  ws : List Str
/-- what an edit may be: its places in order, its words marks, few enough -/
structure Ed.Ok (e : Ed) : Prop where
  le : e.a ≤ e.b
  mrk : ∀ x ∈ e.ws, x ∈ MRK
  sm : e.ws.length ≤ 200
  pl : e.b ≤ 400
/-! ### edits in the heap -/
def EdFs (e : Ed) (t : Addr) : List (Str × V) := [("first", .int e.a), ("last", .int e.b), ("words", .ref t)]
def EdH (K : PySem.W.Frag) (CE : Addr) (H : Hp) (p : Addr) (e : Ed) : Prop := ∃ dx t, H p = some (.ins CE dx (EdFs e t)) ∧ SqT K H t (e.ws.map V.str) ∧ e.Ok
theorem EdH.same {K : PySem.W.Frag} {CE p : Addr} {H H' : Hp} {e : Ed} (s : Same H H') (h : EdH K CE H p e) : EdH K CE H' p e := by
  obtain ⟨dx, t, h1, h2, h3⟩ := h
  exact ⟨dx, t, s _ _ h1, Same.tup s h2, h3⟩
/-- the class of edits -/
structure EC (K : PySem.W.Frag) (C : Addr) : Prop where
  cl : Cls K C
  nF : NoAttr K C "first"
  nL : NoAttr K C "last"
  nW : NoAttr K C "words"
/-- all but p stays -/
abbrev But (p : Addr) (H H' : Hp) : Prop := Aft H H' p
theorem But.upd {p : Addr} {H H' : Hp} {o : HO} (h : But p H H') : But p H (upd H' p o) := fun x u n q => by
  rw [upd_ne n]
  exact h x u n q
theorem But.of {p : Addr} {H H' : Hp} (s : Same H H') : But p H H' := fun x u _ q => s x u q
theorem But.tr {p : Addr} {H H' H2 : Hp} (h : But p H H') (s : Same H' H2) : But p H H2 := fun x u n q => s _ _ (h x u n q)
theorem but_tup {p : Addr} {H H' : Hp} {K : PySem.W.Frag} {a dx C0 : Addr} {fs : List (Str × V)} {xs : List V} (hp : H p = some (.ins C0 dx fs)) (h : But p H H') (hS : SqT K H a xs) : SqT K H' a xs := by
  rcases hS with (q | ⟨o, q⟩) | q
  · exact .inl (.inl (h _ _ (ne_of q hp fun z => by cases z) q))
  · exact .inl (.inr ⟨o, h _ _ (ne_of q hp fun z => by cases z) q⟩)
  · exact .inr q
theorem but_seq {p : Addr} {H H' : Hp} {K : PySem.W.Frag} {a dx C0 : Addr} {fs : List (Str × V)} {xs : List V} (hp : H p = some (.ins C0 dx fs)) (h : But p H H') (hS : SqL K H a xs) : SqL K H' a xs := by
  rcases hS with (q | ⟨o, q⟩) | q
  · exact .inl (.inl (h _ _ (ne_of q hp fun z => by cases z) q))
  · exact .inl (.inr ⟨o, h _ _ (ne_of q hp fun z => by cases z) q⟩)
  · exact .inr q
section
variable {P : Program} {w : World} {K : PySem.W.Frag} {mg : Str → Option Value} {base : Heap} {aN aS CE : Addr}
abbrev sInit : Stmt := inClass (tp 17) 0
abbrev NI : List Str := ["self", "first", "last", "words"]
abbrev NIw : List Str := ["self", "first", "last", "words", "word"]
theorem scInit : FnScope NIw NI (defScope sInit) := ⟨rfl, rfl, rfl, by decide +kernel, rfl, by decide +kernel, by decide +kernel⟩
def spInit (K : PySem.W.Frag) (CE : Addr) : Sp := fun vs H Q _ => ∃ (p dx l : Addr) (e : Ed), vs = [.ref p, .int e.a, .int e.b, .ref l] ∧ H p = some (.ins CE dx []) ∧ SqE K H l (e.ws.map V.str) ∧ e.Ok ∧
  ∀ H', But p H H' → EdH K CE H' p e → Q .non H'
/-- the comprehension's turns, over a list or a tuple of marks -/
theorem ok_init {f f1 f2 : Addr} {fd fd1 fd2 : FuncData} (F : Fun K "__init__" "Edit.__init__" sInit f fd) (T : KC K mg aN aS) (EE : EC K CE)
    (G1 : FnOk P w K mg base CX0 1 f1 fd1 ["thing"] spWhole) (b1 : Binds K fd1 ["thing"] []) (k1 : PySem.W.keepIn K (.ref f1) = true) (m1 : mg "is_whole" = some (.ref f1))
    (G2 : FnOk P w K mg base CX0 3 f2 fd2 ["thing"] spMark) (b2 : Binds K fd2 ["thing"] []) (k2 : PySem.W.keepIn K (.ref f2) = true) (m2 : mg "is_mark" = some (.ref f2)) : FnOk P w K mg base CX0 4 f fd NI (spInit K CE) := by
  refine F.ok scInit (fun vs H Q E h => ?_) (fun cdv A outer s H vs Q E hr h => ?_)
  · obtain ⟨_, _, _, _, rfl, _⟩ := h
    rfl
  obtain ⟨p, dx, l, e, rfl, hp, hS, he, q⟩ := h
  have hr1 : Room 1 _ := hr.mono (by decide)
  refine ⟨_, pss_cons (ps_if (PW.pt (pw_or (pt_not (pt_val (pe_call G1 hr1 rfl m1 k1 b1 .nil pass0 (pa_cons (pv 1) pa_nil)))) (pw_or (pt_not (pt_val (pe_call G1 hr1 rfl m1 k1 b1 .nil pass0 (pa_cons (pv 2) pa_nil))))
      (pw_or1 (pt_not (pt_chain op_le op_le pe_int (pv 1) (pv 2))))))) (pss_one ps_never) pss_nil)
    (pss_cons (ps_if (PW.pt (pw_or (pt_not (pt_val (pe_callB call_isiT rfl T.isi (by decide +kernel) (pa_cons (pv 3) (pa_cons (pe_tup (pa_cons (pe_lstT T.lst) (pa_cons (pe_tupT T.tup) pa_nil))) pa_nil)))))
      (pw_or1 (pt_not (pt_val (pe_callB (cr_all rfl) rfl T.all (by decide +kernel) (pa_cons (pe_lc (own := [("word", 4)]) (g := gName 4) rfl scInit.nd (pi_alt (pi_list (pv 3)) (pi_tup (pv 3)))
      (blkOk_by (N := NIw) (sc := defScope sInit) (by decide +kernel)) (fun _ _ _ _ _ => pg_name (i := 4) scInit.nd rfl (Or.inl rfl))
      (fun _ _ _ _ _ => pts_nil) (fun _ _ _ _ _ => pe_call G2 hr rfl m2 k2 b2 .nil pass0 (pa_cons (pv 4) pa_nil))) pa_nil))))))) (pss_one ps_never) pss_nil)
    (pss_cons (ps_fld (pv 0) (pv 1) rfl) (pss_cons (ps_fld (pv 0) (pv 2) rfl)
    (pss_one (ps_fld (pv 0) (pe_callTy call_tuple_of rfl T.tup (by decide +kernel) (pa_cons (pv 3) pa_nil)) rfl))))), ?_⟩
  refine ⟨_, rfl, _, rfl, _, rfl, iteF ⟨_, rfl, _, rfl, _, rfl, iteF ⟨_, rfl, _, _, rfl, rfl, _, rfl, iteTT (decide_eq_true (by omega)) ⟨_, rfl, _, _, rfl, rfl, _, rfl, ?_⟩⟩⟩⟩
  refine iteFF (by rw [decide_eq_true (by have := he.le; omega)]; rfl) ⟨_, rfl, (by show 2 ≤ sizeLine; decide), fun t ht => ?_⟩
  have s1 := Same.new ht (.tup [.ty "list", .ty "tuple"])
  have hS1 := hS.same s1
  have hp1 := s1 _ _ hp
  have hty : ∃ tn : String, TyX K (upd H t (.tup [.ty "list", .ty "tuple"])) (.ref l) (.type tn) ∧ PySem.W.kitAny K (.type tn) [.type "list", .type "tuple"] = some true := by
    rcases hS1 with hS1 | hS1
    · exact ⟨"list", sqL_ty hS1, kitAny_cons (b := true) (kit_ty (by decide +kernel)) (fun z => nomatch z) (fun _ => rfl)⟩
    · exact ⟨"tuple", sqT_ty hS1, kitAny_cons (b := false) (kit_ty (by decide +kernel)) (fun _ => kitAny_cons (b := true) (kit_ty (by decide +kernel)) (fun z => nomatch z) (fun _ => rfl)) (fun z => nomatch z)⟩
  obtain ⟨tn, hty1, hty2⟩ := hty
  refine ⟨.ref l, t, [.ty "list", .ty "tuple"], .type tn, [.type "list", .type "tuple"], true, rfl, upd_same, .cons (.ty _) (.cons (.ty _) .nil), hty1, hty2, _, rfl, iteF ?_⟩
  have turn : ∀ (i : Nat) (y x : V) (H' : Hp) (Q' : VK), (e.ws.map V.str)[i]? = some x → ((List.replicate e.ws.length true).map V.bl)[i]? = some y → (∀ H4, Same H' H4 → Q' y H4) → ∃ z ∈ MRK, [x] = [V.str z] ∧ ∀ H4, Same H' H4 → Q' (.bl true) H4 := fun i y x H' Q' hx hy k => by
    have ey : y = .bl true := by
      obtain ⟨b, hb, e⟩ := List.mem_map.mp (List.mem_of_getElem? hy)
      rw [← e, List.eq_of_mem_replicate hb]
    rw [List.getElem?_map] at hx
    cases e2 : e.ws[i]? with
    | none => rw [e2] at hx; cases hx
    | some z =>
      rw [e2] at hx
      cases hx
      subst ey
      exact ⟨z, he.mrk z (List.mem_of_getElem? e2), rfl, fun H' s' => k H' s'⟩
  have trues : (List.replicate e.ws.length true).all id = true := by
    rw [List.all_eq_true]
    intro b hb
    exact List.eq_of_mem_replicate hb
  rcases hS1 with hS1 | hS1
  · refine .inl ⟨_, rfl, l, rfl, ⟨_, hS1⟩, fun D hN => lcL ((List.replicate e.ws.length true).map V.bl) (by rw [List.length_map, List.length_replicate, List.length_map]) (by rw [List.length_map]; have := he.sm; omega) hS1 hN (fun i y x H' Q' hx hy s k => ?_) fun H' s hL => ?_⟩
    · obtain ⟨z, hz, ez, kz⟩ := turn i y x H' Q' hx hy k
      cases ez
      exact ⟨rfl, _, rfl, z, hz, rfl, kz⟩
    refine ⟨D, _, rfl, SqL.of hL, _, rfl, ?_⟩
    rw [trues]
    refine iteF ?_
    have hpA := s _ _ hp1
    have hlA := s.seq hS1
    have b1 : But p H (upd H' p (.ins CE dx [("first", .int e.a)])) := (But.of (s1.trans s)).upd
    refine ⟨_, rfl, _, rfl, p, CE, dx, [], rfl, hpA, EE.cl, EE.nF, (by show 0 < 1000; decide), ?_⟩
    refine ⟨_, rfl, _, rfl, p, CE, dx, _, rfl, upd_same, EE.cl, EE.nL, (by show 1 < 1000; decide), ?_⟩
    have b2 : But p H' (upd (upd H' p (.ins CE dx [("first", .int e.a)])) p (.ins CE dx [("first", .int e.a), ("last", .int e.b)])) := (But.of (Same.refl H')).upd.upd
    have hl5 := but_seq hpA b2 hlA
    refine ⟨_, rfl, l, _, rfl, .inl ⟨hl5, fun tt htt => ?_⟩⟩
    have s7 := Same.new htt (.tup (e.ws.map V.str))
    have hp7 := s7 _ _ (upd_same (H := upd H' p (.ins CE dx [("first", .int e.a)])) (a := p) (o := .ins CE dx [("first", .int e.a), ("last", .int e.b)]))
    refine ⟨_, rfl, p, CE, dx, _, rfl, hp7, EE.cl, EE.nW, (by show 2 < 1000; decide), ?_⟩
    refine q _ (((But.of (s1.trans s)).upd.upd.tr s7).upd) ⟨dx, tt, upd_same, SqT.of ?_, he⟩
    have hpt : p ≠ tt := ne_of_none (upd_same (H := upd H' p (.ins CE dx [("first", .int e.a)])) (a := p) (o := .ins CE dx [("first", .int e.a), ("last", .int e.b)])) htt
    rw [upd_ne (Ne.symm hpt), upd_same]
  · refine .inr ⟨_, rfl, l, rfl, ⟨_, hS1⟩, fun D hN => lcT ((List.replicate e.ws.length true).map V.bl) (by rw [List.length_map, List.length_replicate, List.length_map]) (by rw [List.length_map]; have := he.sm; omega) hS1 hN (fun i y x H' Q' hx hy s k => ?_) fun H' s hL => ?_⟩
    · obtain ⟨z, hz, ez, kz⟩ := turn i y x H' Q' hx hy k
      cases ez
      exact ⟨rfl, _, rfl, z, hz, rfl, kz⟩
    refine ⟨D, _, rfl, SqL.of hL, _, rfl, ?_⟩
    rw [trues]
    refine iteF ?_
    have hpA := s _ _ hp1
    have hlA := Same.tup s hS1
    have b1 : But p H (upd H' p (.ins CE dx [("first", .int e.a)])) := (But.of (s1.trans s)).upd
    refine ⟨_, rfl, _, rfl, p, CE, dx, [], rfl, hpA, EE.cl, EE.nF, (by show 0 < 1000; decide), ?_⟩
    refine ⟨_, rfl, _, rfl, p, CE, dx, _, rfl, upd_same, EE.cl, EE.nL, (by show 1 < 1000; decide), ?_⟩
    have b2 : But p H' (upd (upd H' p (.ins CE dx [("first", .int e.a)])) p (.ins CE dx [("first", .int e.a), ("last", .int e.b)])) := (But.of (Same.refl H')).upd.upd
    have hl5 := but_tup hpA b2 hlA
    refine ⟨_, rfl, l, _, rfl, .inr ⟨hl5, ?_⟩⟩
    refine ⟨_, rfl, p, CE, dx, _, rfl, upd_same, EE.cl, EE.nW, (by show 2 < 1000; decide), ?_⟩
    refine q _ ((But.of (s1.trans s)).upd.upd.upd) ⟨dx, l, upd_same, but_tup upd_same ((But.of (Same.refl _)).upd) hl5, he⟩
end
end P5

end
section
set_option Elab.async false
set_option linter.all false
set_option maxRecDepth 100000
set_option maxHeartbeats 4000000
namespace P5
open PySem PySem.Spec PyProof.Rows L2
/-! ### bool(x) by what x's truth is -/
theorem bool_new_in {prog : Program} {w : World} (x : Value) : MeetsIn prog w (Builtin.«bool.__new__» ⟨[.type "bool", x], []⟩)
    (fun A R s => wpAny (model prog w) A.in1 (truthy x) (fun b s1 => R (.ok (.ret (.bool b))) s1) (fun e s1 => R (.error e) s1) s) :=
  .of_wp fun A R s h => by
    obtain ⟨hp, g, d, tk, os⟩ := s
    have f1 := F.conv_sub_bool
    unfold Builtin.«bool.__new__»
    repeat (any_goals (first | assumption | (with_reducible refine wpAny_mono h (fun b s1 hb => ?_) fun _ _ z => z) | wp_step))
    all_goals exact ⟨_, rfl, hb⟩
theorem call_bool_in {prog : Program} {w : World} {A : Around} {E : Value → Shared → Prop} {s : Shared} {x : Value} {Q : Value → Shared → Prop} (h : wpAny (model prog w) A.in1.in1 (truthy x) (fun b s1 => Q (.bool b) s1) E s) :
    wpAny (model prog w) A (call (.type "bool") [x]) Q E s := by
  refine callType_newIn F.called_bool F.newNe_bool (F.typeCall_bool_1 x) (F.newCall_bool_1 x) (fun obj => F.args_object_init_2 obj x) F.entry_bool_new (bool_new_in x) ?_
  show wpAny (model prog w) A.in1.in1 (truthy x) _ _ _
  exact wpAny_mono h (fun b s1 hb => ⟨rfl, hb⟩) fun _ _ z => z
/-! ### != of two objects: the default of __ne__ asks the own __eq__ -/
theorem one_bind (self : Value) : bindSpecial (.builtin "object.__ne__") self = pure (.builtin "object.__ne__", [self]) :=
  (Slot.of (T := "object") (name := "__ne__") (owner := "object") (n := "__ne__") (by rw [typeLookup_type, builtinLookup_eq_fast]; kernel_rfl) (by decide +kernel) (by decide +kernel) (by decide +kernel)
    (.inl (by decide +kernel)) (by rw [isSubtype_type]; kernel_rfl)).bind self
theorem one_plain : plainId "object.__ne__" = true := by decide +kernel
section
variable {prog : Program} {w : World} {A : Around} {E : Value → Shared → Prop} {s : Shared} {K : PySem.W.Frag} {C x f : Addr} {ox : Obj} {od : Option Obj} {y : Value}
theorem ifBound_ne {Q : Option Value → Shared → Prop} (X : K.In s.heap) (I : PySem.W.InstAt s.heap x ox C od) (hs : PySem.W.findIn K (.ref C) "__ne__" = some (some (.builtin "object.__ne__")))
    (h : wpAny (model prog w) A (call (.builtin "object.__ne__") [.ref x, y]) (fun v => Q (some v)) E s) : wpAny (model prog w) A (callSpecialIfBound? (.ref x) "__ne__" [y]) Q E s := by
  simp only [callSpecialIfBound?, bindSpecialIfBound?, one_bind]
  refine wpAny_holding (wpAny_bind (wpAny_bind (wpAny_bind (I.type.here ((PySem.W.looks_findIn X hs).here ?_)))))
  refine wpAny_bind (wpAny_askSetting (wpAny_ite ?_))
  have fin : wpAny (model prog w) A (call (.builtin "object.__ne__") ([.ref x] ++ [y]) >>= fun v => pure (some v)) Q E s := wpAny_bind (wpAny_mono h (fun v s' h' => wpAny_pure h') fun _ _ h' => h')
  simp only [one_bind]
  split
  · exact wpAny_bind (wpAny_pure (by exact wpAny_pure (by exact fin)))
  · exact wpAny_tryCatch (wpAny_bind (wpAny_pure (by exact wpAny_pure (by exact fin))))
theorem check_ne {Q : Unit → Shared → Prop} (X : K.In s.heap) (I : PySem.W.InstAt s.heap x ox C od) (hob : PySem.W.subIn K (.ref C) (.type "object") = some true) (hq : Q () s) :
    wpAny (model prog w) A (checkBuiltinCall "object.__ne__" ⟨[.ref x, y], []⟩) Q E s := by
  have ha := F.cmpArgs_ne (.ref x) y
  simp only [checkBuiltinCall, F.cmpKind_ne, F.cmpSplit_ne]
  refine wpAny_bind (wpAny_bind (I.type.here ((PySem.W.looks_subIn X hob).here ?_)))
  rw [if_neg (by simp)]
  cases hsig : Manifest.signature? "object.__ne__" with
  | none => exact wpAny_pure hq
  | some sig =>
    simp only [argsOk, hsig] at ha
    have h2 : Bind.checkArgs "object.__ne__" sig ⟨[.ref x, y], []⟩ = pure () := ha
    show wpAny (model prog w) A (Bind.checkArgs "object.__ne__" sig ⟨[.ref x, y], []⟩) Q E _
    rw [h2]
    exact wpAny_pure hq
theorem body_ne (X : K.In s.heap) (I : PySem.W.InstAt s.heap x ox C od) (hs : PySem.W.findIn K (.ref C) "__eq__" = some (some (.ref f))) (hf : PySem.W.isFn K (.ref f) = true) (hu : A.units < cLine) {Q : Fin → Shared → Prop}
    (hcall : wpAny (model prog w) A (call (.ref f) [.ref x, y]) (fun v s' => ∃ b, v = .bool b ∧ Q (.done (.ret (.bool (!b)))) s') E s) :
    wpAny (model prog w) A (Builtin.«object.__ne__» ⟨[.ref x, y], []⟩) Q E s := by
  unfold Builtin.«object.__ne__»
  refine wpAny_bind (m := slotArgs "__ne__" 1 ⟨[.ref x, y], []⟩) (wpAny_pure ?_)
  dsimp only
  refine wpAny_bind (wpAny_cRoomFor hu ?_)
  refine wpAny_bind (m := callSpecialIfBound? (.ref x) "__eq__" [y]) (PySem.W.ifBound_K X I hs hf (wpAny_mono hcall (fun v s' hv => ?_) fun _ _ e => e))
  obtain ⟨b, rfl, hq⟩ := hv
  dsimp only
  refine wpAny_bind (wpAny_truthy_bool ?_)
  exact wpAny_pure hq
end
section
variable {X : Cx} {CE f : Addr} {fd : FuncData} {k : Nat} {ps : List Str} {sp : Sp}
/-- bool(a tuple) -/
theorem call_boolT : CallR X (.type "bool") (fun xs H Q => ∃ (a : Addr) (zs : List V), xs = [.ref a] ∧ SqT X.K H a zs ∧ zs.length ≤ 1000 ∧ Q (.bl (!zs.isEmpty)) H) := by
  intro pins s σ H xs us Q I r h
  obtain ⟨a, zs, rfl, hq, hl, q⟩ := h
  obtain rfl := Vals.ref1 r
  obtain ⟨its, rv, pl, hz⟩ := I.tuple hq
  have hlen := rv.length
  have hl63 := line63
  refine call_bool_in (truthy_tuple pl (by simp only [List.size_toArray]; omega) ?_)
  refine ⟨.bl (!zs.isEmpty), H, I.tok _, ?_, q⟩
  rw [isEmpty_of rv]
  rfl
/-- a call of a def of the module, here or one or two further in -/
theorem call_own {A : Around} {pins : List (Addr × Obj)} {σ : L2.St} {H : Hp} {s : Shared} {Q : VK} {us : List Value} {vs : List V} {E : Value → Shared → Prop} (F : FnOk X.prog X.w X.K X.mg X.base CX0 k f fd ps sp) (hr : Room k A) (hb : L2.Binds X.K fd ps [])
    (I : Inv X pins σ H s) (hA : Env0 X.prog X.w X.K X.mg X.base A X.stack s H) (r : Vals vs us) (h : sp vs H Q (fun _ _ _ => False)) : wpAny (model X.prog X.w) A (call (.ref f) us) (EP X pins σ Q) E s := by
  have hl := F.len _ _ _ _ h
  refine wpAny_call (codeAny_mono (F.run A X.stack s H ⟨us, []⟩ us vs _ _ hr hA (by
    have := hb s us I.kIn (by rw [List.append_nil, ← r.length]; exact hl)
    simpa using this) r h) fun r s' hq => ?_)
  cases r with
  | error e => exact False.elim hq
  | ok fl =>
    cases fl with
    | ret z => exact I.after hq
    | next => exact False.elim hq
    | brk => exact False.elim hq
    | cont => exact False.elim hq
/-- an instance of the class at C -/
def InsI (H : Hp) (a C : Addr) : Prop := ∃ dx fs, H a = some (.ins C dx fs)
theorem insI_at {pins : List (Addr × Obj)} {σ : L2.St} {H : Hp} {s : Shared} {a C : Addr} (I : Inv X pins σ H s) (h : InsI H a C) : ∃ ox od, PySem.W.InstAt s.heap a ox C od := by
  obtain ⟨dx, fs, h⟩ := h
  obtain ⟨mA, O, _⟩ := ins_get I.hok h
  obtain ⟨od, J, _⟩ := O.look
  exact ⟨_, _, J⟩
/-- what x + an int asks of x's class -/
structure AddK (K : PySem.W.Frag) (C f : Addr) : Prop where
  first : PySem.W.selfFirst K C = true
  add : PySem.W.findIn K (.ref C) "__add__" = some (some (.ref f))
  fn : PySem.W.isFn K (.ref f) = true
  radd : PySem.W.findIn K (.ref C) "__radd__" = some none
  intA : ∃ fo, PySem.W.findIn K (.type "int") "__add__" = some fo
  intR : ∃ ro, PySem.W.findIn K (.type "int") "__radd__" = some ro
  sub : PySem.W.subIn K (.type "int") (.ref C) = some false
/-- x + k, x an instance with an own __add__, k an int -/
theorem op_addI (D : AddK X.K CE f) (F : FnOk X.prog X.w X.K X.mg X.base CX0 k f fd ps sp) (hb : L2.Binds X.K fd ps []) (hr : Room k X.A) :
    OpR X (binaryOp .Add) (fun x y H Q => ∃ (a : Addr) (i : Int), x = .ref a ∧ y = .int i ∧ InsI H a CE ∧ sp [.ref a, .int i] H (fun v H' => ∃ p, v = .ref p ∧ Q v H') (fun _ _ _ => False)) := by
  intro pins s σ H x y v u Q I rx ry h
  obtain ⟨a, i, rfl, rfl, ho, q⟩ := h
  cases (show v = Value.ref a from rx)
  obtain ⟨t, rfl⟩ : ∃ t, u = Value.int i t := ry
  obtain ⟨ox, od, J⟩ := insI_at I ho
  obtain ⟨m, hF⟩ := I.fr
  obtain ⟨fo, hfo⟩ := D.intA
  obtain ⟨ro, hro⟩ := D.intR
  refine PySem.W.ksp_binT (T := "int") (fo := fo) (ro := ro) (rc := none) hF I.ok.mod.kin J rfl D.first D.add D.fn D.radd (.inl rfl) hfo hro D.sub ?_
  refine wpAny_mono (call_own (us := [.ref a, .int i t]) (vs := [.ref a, .int i]) F hr hb I I.env0 (.cons rfl (.cons ⟨t, rfl⟩ .nil)) q) (fun z s' hz => ?_) fun _ _ e => e
  obtain ⟨v', H', I', rz, p, rfl, hQ⟩ := hz
  cases (show z = Value.ref p from rz)
  exact ⟨.ref p, H', I', rfl, hQ⟩
/-- len(x), x an instance with an own __len__ -/
theorem call_lenI (hs : PySem.W.findIn X.K (.ref CE) "__len__" = some (some (.ref f))) (hf : PySem.W.isFn X.K (.ref f) = true) (F : FnOk X.prog X.w X.K X.mg X.base CX0 k f fd ps sp) (hb : L2.Binds X.K fd ps []) (hr : Room (k + 1) X.A) :
    CallR X (.builtin "len") (fun xs H Q => ∃ (a : Addr), xs = [.ref a] ∧ InsI H a CE ∧ sp [.ref a] H (fun v H' => ∃ n : Nat, v = .int n ∧ n ≤ 1000 ∧ Q v H') (fun _ _ _ => False)) := by
  intro pins s σ H xs us Q I r h
  obtain ⟨a, rfl, ho, q⟩ := h
  obtain rfl := Vals.ref1 r
  obtain ⟨ox, od, J⟩ := insI_at I ho
  obtain ⟨m, hF⟩ := I.fr
  refine PySem.W.len_K hF I.ok.mod.kin J hs hf ?_
  refine wpAny_mono (call_own (us := [.ref a]) (vs := [.ref a]) F hr.in1 hb I I.env0.in1 (.cons rfl .nil) q) (fun z s' hz => ?_) fun _ _ e => e
  obtain ⟨v', H', I', rz, n, rfl, hn, hQ⟩ := hz
  obtain ⟨t, rfl⟩ : ∃ t, z = Value.int n t := rz
  exact ⟨⟨by omega, by omega⟩, .int n, H', I'.tok _, ⟨_, rfl⟩, hQ⟩
/-- bool(x), x an instance with an own __bool__ -/
theorem call_boolI (hs : PySem.W.findIn X.K (.ref CE) "__bool__" = some (some (.ref f))) (hf : PySem.W.isFn X.K (.ref f) = true) (F : FnOk X.prog X.w X.K X.mg X.base CX0 k f fd ps sp) (hb : L2.Binds X.K fd ps []) (hr : Room (k + 2) X.A) :
    CallR X (.type "bool") (fun xs H Q => ∃ (a : Addr), xs = [.ref a] ∧ InsI H a CE ∧ sp [.ref a] H (fun v H' => ∃ b, v = .bl b ∧ Q v H') (fun _ _ _ => False)) := by
  intro pins s σ H xs us Q I r h
  obtain ⟨a, rfl, ho, q⟩ := h
  obtain rfl := Vals.ref1 r
  obtain ⟨ox, od, J⟩ := insI_at I ho
  obtain ⟨m, hF⟩ := I.fr
  refine call_bool_in (PySem.W.truthy_K hF I.ok.mod.kin J hs hf ?_)
  refine wpAny_mono (call_own (us := [.ref a]) (vs := [.ref a]) F hr.in1.in1 hb I I.env0.in1.in1 (.cons rfl .nil) q) (fun z s' hz => ?_) fun _ _ e => e
  obtain ⟨v', H', I', rz, b, rfl, hQ⟩ := hz
  cases (show z = Value.bool b from rz)
  exact ⟨.bl b, H', I', rfl, hQ⟩
/-- x != y of two instances with an own __eq__ and no own __ne__ -/
theorem op_neI (hs : PySem.W.findIn X.K (.ref CE) "__eq__" = some (some (.ref f))) (hf : PySem.W.isFn X.K (.ref f) = true) (hn : PySem.W.findIn X.K (.ref CE) "__ne__" = some (some (.builtin "object.__ne__")))
    (hob : PySem.W.subIn X.K (.ref CE) (.type "object") = some true) (F : FnOk X.prog X.w X.K X.mg X.base CX0 k f fd ps sp) (hb : L2.Binds X.K fd ps []) (hr : Room (k + 2) X.A) :
    OpR X (compareOp .NotEq) (fun x y H Q => ∃ (a b : Addr), x = .ref a ∧ y = .ref b ∧ InsI H a CE ∧ InsI H b CE ∧ sp [.ref a, .ref b] H (fun v H' => ∃ c, v = .bl c ∧ Q (.bl (!c)) H') (fun _ _ _ => False)) := by
  intro pins s σ H x y v u Q I rx ry h
  obtain ⟨a, b, rfl, rfl, ho, ho2, q⟩ := h
  cases (show v = Value.ref a from rx)
  cases (show u = Value.ref b from ry)
  show wpAny (model X.prog X.w) X.A (richCompare .NotEq (.ref a) (.ref b)) (EP X pins σ Q) X.xe s
  have KX := I.kIn
  obtain ⟨ox, od, J⟩ := insI_at I ho
  obtain ⟨ox2, od2, J2⟩ := insI_at I ho2
  unfold richCompare
  simp only [oneThing_ref]
  refine wpAny_holding (wpAny_bind (wpAny_cRoomFor hr.units0 ?_))
  refine wpAny_bind (J.type.here (wpAny_bind (J2.type.here ?_)))
  rw [if_neg (by simp)]
  refine wpAny_bind (wpAny_pure ?_)
  simp only [Bool.false_eq_true, if_false]
  refine wpAny_bind ?_
  unfold tryCompare
  refine wpAny_bind (m := callSpecialIfBound? (.ref a) "__ne__" [.ref b]) (ifBound_ne KX J hn ?_)
  refine wpAny_call (codeAny_call_builtin one_plain PySem.F.cmpEntry_ne (check_ne KX J hob (body_ne KX J hs hf (by have := hr.units0; have := hr.un; show X.A.units + 1 < cLine; omega) ?_)))
  refine wpAny_mono (call_own (us := [.ref a, .ref b]) (vs := [.ref a, .ref b]) F (hr.mono (Nat.le_succ _)).in1 hb I I.env0.in1 (.cons rfl (.cons rfl .nil)) q) (fun z s' hz => ?_) fun _ _ e => e
  obtain ⟨v', H', I', rz, c, rfl, hQ⟩ := hz
  cases (show z = Value.bool c from rz)
  refine ⟨c, rfl, ?_⟩
  show wpAny _ _ _ _ _ s'
  exact wpAny_pure (wpAny_pure ⟨.bl (!c), H', I', rfl, hQ⟩)
end
end P5

end
section
set_option Elab.async false
set_option linter.all false
set_option maxRecDepth 100000
set_option maxHeartbeats 4000000
namespace P5
open PySem PySem.Spec PyProof.Rows L2
/-! ### what edits do, as plain mathematics -/
def app (e : Ed) (l : List Str) : List Str := l.take e.a ++ e.ws ++ l.drop e.b
def und (e : Ed) (l : List Str) : Ed := ⟨e.a, e.a + e.ws.length, (l.take e.b).drop e.a⟩
theorem six (n a : Nat) (z : Int) : HT.sIx n z.toNat (some (a : Int)) = min a n := by
  unfold HT.sIx
  simp only [Int.toNat_natCast]
  rw [if_neg (by omega)]
theorem six0 (n d a : Nat) : HT.sIx n d (some (a : Int)) = min a n := by
  unfold HT.sIx
  simp only [Int.toNat_natCast]
  rw [if_neg (by omega)]
theorem cut_to (xs : List V) (i : Nat) (h : i ≤ xs.length) : cutV xs none (some (i : Int)) = xs.take i := by
  unfold cutV
  rw [six0, show HT.sIx xs.length 0 none = 0 from rfl, List.drop_zero, Nat.sub_zero, Nat.min_eq_left h]
theorem cut_from (xs : List V) (i : Nat) (h : i ≤ xs.length) : cutV xs (some (i : Int)) none = xs.drop i := by
  unfold cutV
  rw [six0, show HT.sIx xs.length xs.length none = xs.length from rfl, Nat.min_eq_left h, List.take_of_length_le (by rw [List.length_drop]; omega)]
theorem cut_mid (xs : List V) (i j : Nat) (h : i ≤ j) (h2 : j ≤ xs.length) : cutV xs (some (i : Int)) (some (j : Int)) = (xs.take j).drop i := by
  unfold cutV
  rw [six0, six0, Nat.min_eq_left h2, Nat.min_eq_left (by omega), List.drop_take]
theorem fresh_of {H H' : Hp} {p : Addr} (s : Same H H') (h : H' p = none) : H p = none := by
  cases e : H p with
  | none => rfl
  | some o => rw [s _ _ e] at h; cases h
/-- words of the heap: marks, few -/
structure WsL (K : PySem.W.Frag) (H : Hp) (l : Addr) (ws : List Str) : Prop where
  at_ : SqL K H l (ws.map V.str)
  mrk : ∀ x ∈ ws, x ∈ MRK
  sm : ws.length ≤ 200
theorem WsL.same {K : PySem.W.Frag} {H H' : Hp} {l : Addr} {ws : List Str} (s : Same H H') (h : WsL K H l ws) : WsL K H' l ws := ⟨s.seq h.at_, h.mrk, h.sm⟩
section
variable {P : Program} {w : World} {K : PySem.W.Frag} {mg : Str → Option Value} {base : Heap} {aN aS CE : Addr}
abbrev sLenM : Stmt := inClass (tp 17) 2
theorem scLenM : FnScope ["self"] ["self"] (defScope sLenM) := ⟨rfl, rfl, rfl, by decide +kernel, rfl, by decide +kernel, by decide +kernel⟩
def spLenM (K : PySem.W.Frag) (CE : Addr) : Sp := fun vs H Q _ => ∃ (p : Addr) (e : Ed), vs = [.ref p] ∧ EdH K CE H p e ∧ Q (.int e.ws.length) H
theorem ok_lenm {f : Addr} {fd : FuncData} (F : Fun K "__len__" "Edit.__len__" sLenM f fd) (T : KC K mg aN aS) (EE : EC K CE) : FnOk P w K mg base CX0 1 f fd ["self"] (spLenM K CE) := by
  refine F.ok scLenM (fun vs H Q E h => ?_) (fun cdv A outer s H vs Q E hr h => ?_)
  · obtain ⟨_, _, rfl, _⟩ := h
    rfl
  obtain ⟨p, e, rfl, ⟨dx, t, hp, hS, he⟩, q⟩ := h
  refine ⟨_, pss_one (ps_ret (pe_callB call_len_seq rfl T.len PySem.boot_len (pa_cons (pe_fld (pv 0) rfl) pa_nil))), ?_⟩
  refine ⟨_, rfl, p, CE, dx, _, .ref t, rfl, hp, EE.cl, EE.nW, rfl, t, _, rfl, .inr hS, ?_⟩
  rw [List.length_map]
  exact q
abbrev sBoolM : Stmt := inClass (tp 17) 3
theorem scBoolM : FnScope ["self"] ["self"] (defScope sBoolM) := ⟨rfl, rfl, rfl, by decide +kernel, rfl, by decide +kernel, by decide +kernel⟩
def edB (e : Ed) : Bool := !e.ws.isEmpty || decide (e.a < e.b)
def spBoolM (K : PySem.W.Frag) (CE : Addr) : Sp := fun vs H Q _ => ∃ (p : Addr) (e : Ed), vs = [.ref p] ∧ EdH K CE H p e ∧ Q (.bl (edB e)) H
theorem ok_boolm {f : Addr} {fd : FuncData} (F : Fun K "__bool__" "Edit.__bool__" sBoolM f fd) (T : KC K mg aN aS) (EE : EC K CE) : FnOk P w K mg base CX0 1 f fd ["self"] (spBoolM K CE) := by
  refine F.ok scBoolM (fun vs H Q E h => ?_) (fun cdv A outer s H vs Q E hr h => ?_)
  · obtain ⟨_, _, rfl, _⟩ := h
    rfl
  obtain ⟨p, e, rfl, ⟨dx, t, hp, hS, he⟩, q⟩ := h
  refine ⟨_, pss_one (ps_ret (pe_or (pe_callTy call_boolT rfl T.bool (by decide +kernel) (pa_cons (pe_fld (pv 0) rfl) pa_nil))
    (pe_one (pe_callTy call_bool1 rfl T.bool (by decide +kernel) (pa_cons (pe_cmpR op_lt (pe_fld (pv 0) rfl) (pe_fld (pv 0) rfl) (nomark _)) pa_nil))))), ?_⟩
  refine ⟨_, rfl, p, CE, dx, _, .ref t, rfl, hp, EE.cl, EE.nW, rfl, t, _, rfl, hS, (by rw [List.length_map]; have := he.sm; omega), _, rfl, ?_⟩
  have e1 : (!(e.ws.map V.str).isEmpty) = !e.ws.isEmpty := by cases e.ws <;> rfl
  rw [e1]
  have e2 : edB e = (!e.ws.isEmpty || decide ((e.a : Int) < (e.b : Int))) := by
    unfold edB
    congr 1
    by_cases h : e.a < e.b
    · rw [decide_eq_true h, decide_eq_true (by omega)]
    · rw [decide_eq_false h, decide_eq_false (by omega)]
  rw [e2] at q
  cases hb : (!e.ws.isEmpty) with
  | true =>
    rw [hb] at q
    exact iteT q
  | false =>
    rw [hb, Bool.false_or] at q
    refine iteF ⟨_, rfl, p, CE, dx, _, .int e.a, rfl, hp, EE.cl, EE.nF, rfl, _, rfl, p, CE, dx, _, .int e.b, rfl, hp, EE.cl, EE.nL, rfl, _, _, rfl, rfl, .inr ⟨_, rfl, q⟩⟩
abbrev sGrow : Stmt := inClass (tp 17) 6
theorem scGrow : FnScope ["self"] ["self"] (defScope sGrow) := ⟨rfl, rfl, rfl, by decide +kernel, rfl, by decide +kernel, by decide +kernel⟩
def grow (e : Ed) : Int := (e.ws.length : Int) - ((e.b : Int) - (e.a : Int))
def spGrow (K : PySem.W.Frag) (CE : Addr) : Sp := fun vs H Q _ => ∃ (p : Addr) (e : Ed), vs = [.ref p] ∧ EdH K CE H p e ∧ Q (.int (grow e)) H
theorem ok_grow {f : Addr} {fd : FuncData} (F : Fun K "growth" "Edit.growth" sGrow f fd) (T : KC K mg aN aS) (EE : EC K CE) : FnOk P w K mg base CX0 1 f fd ["self"] (spGrow K CE) := by
  refine F.ok scGrow (fun vs H Q E h => ?_) (fun cdv A outer s H vs Q E hr h => ?_)
  · obtain ⟨_, _, rfl, _⟩ := h
    rfl
  obtain ⟨p, e, rfl, ⟨dx, t, hp, hS, he⟩, q⟩ := h
  refine ⟨_, pss_one (ps_ret (pe_op op_sub (pe_callB call_len_seq rfl T.len PySem.boot_len (pa_cons (pe_fld (pv 0) rfl) pa_nil)) (pe_op op_sub (pe_fld (pv 0) rfl) (pe_fld (pv 0) rfl)))), ?_⟩
  refine ⟨_, rfl, p, CE, dx, _, .ref t, rfl, hp, EE.cl, EE.nW, rfl, t, _, rfl, .inr hS, ?_⟩
  refine ⟨_, rfl, p, CE, dx, _, .int e.b, rfl, hp, EE.cl, EE.nL, rfl, _, rfl, p, CE, dx, _, .int e.a, rfl, hp, EE.cl, EE.nF, rfl, _, _, rfl, rfl, _, _, rfl, rfl, ?_⟩
  rw [List.length_map]
  exact q
abbrev sFit : Stmt := inClass (tp 17) 8
theorem scFit : FnScope ["self", "words", "told"] ["self", "words"] (defScope sFit) := ⟨rfl, rfl, rfl, by decide +kernel, rfl, by decide +kernel, by decide +kernel⟩
def spFit (K : PySem.W.Frag) (CE : Addr) : Sp := fun vs H Q _ => ∃ (p l : Addr) (e : Ed) (ws : List Str), vs = [.ref p, .ref l] ∧ EdH K CE H p e ∧ WsL K H l ws ∧ e.b ≤ ws.length ∧
  ∀ H' q, Same H H' → H q = none → H' q = some (.lst (ws.map V.str)) → Q (.ref q) H'
theorem ok_fit {f f1 : Addr} {fd fd1 : FuncData} (F : Fun K "_fitting" "Edit._fitting" sFit f fd) (T : KC K mg aN aS) (EE : EC K CE)
    (G1 : FnOk P w K mg base CX0 4 f1 fd1 ["words"] (spChk K)) (b1 : Binds K fd1 ["words"] []) (k1 : PySem.W.keepIn K (.ref f1) = true) (m1 : mg "checked_words" = some (.ref f1)) : FnOk P w K mg base CX0 5 f fd ["self", "words"] (spFit K CE) := by
  refine F.ok scFit (fun vs H Q E h => ?_) (fun cdv A outer s H vs Q E hr h => ?_)
  · obtain ⟨_, _, _, _, rfl, _⟩ := h
    rfl
  obtain ⟨p, l, e, ws, rfl, hE, hw, hb, q⟩ := h
  refine ⟨_, pss_cons (ps_set (i := 2) scFit.nd rfl (Or.inl rfl) (pe_call G1 hr rfl m1 k1 b1 .nil pass0 (pa_cons (pv 1) pa_nil)))
    (pss_cons (ps_if (pt_cmpR op_lt (pe_callB call_len_seq rfl T.len PySem.boot_len (pa_cons (pv 2) pa_nil)) (pe_fld (pv 0) rfl) (nomark _)) (pss_one ps_never) pss_nil)
    (pss_one (ps_ret (pv 2)))), ?_⟩
  refine ⟨_, rfl, l, ws, rfl, hw.at_, hw.mrk, hw.sm, fun H' t s1 hn ht => ?_⟩
  obtain ⟨dx, tt, hp, hS, he⟩ := hE.same s1
  refine ⟨_, rfl, t, _, rfl, .inl (SqL.of ht), _, rfl, p, CE, dx, _, .int e.b, rfl, hp, EE.cl, EE.nL, rfl, _, _, rfl, rfl, _, rfl, iteFF (decide_eq_false (by rw [List.length_map]; omega)) ⟨_, rfl, q H' t s1 hn ht⟩⟩
abbrev sCallM : Stmt := inClass (tp 17) 4
theorem scCallM : FnScope ["self", "words", "told"] ["self", "words"] (defScope sCallM) := ⟨rfl, rfl, rfl, by decide +kernel, rfl, by decide +kernel, by decide +kernel⟩
def spCallM (K : PySem.W.Frag) (CE : Addr) : Sp := fun vs H Q _ => ∃ (p l : Addr) (e : Ed) (ws : List Str), vs = [.ref p, .ref l] ∧ EdH K CE H p e ∧ WsL K H l ws ∧ e.b ≤ ws.length ∧
  ∀ H' q, Same H H' → H q = none → H' q = some (.lst ((app e ws).map V.str)) → Q (.ref q) H'
theorem ok_callm {f f1 : Addr} {fd fd1 : FuncData} (F : Fun K "__call__" "Edit.__call__" sCallM f fd) (T : KC K mg aN aS) (EE : EC K CE)
    (M1 : Meth K CE "_fitting" f1) (G1 : FnOk P w K mg base CX0 5 f1 fd1 ["self", "words"] (spFit K CE)) (b1 : Binds K fd1 ["self", "words"] []) : FnOk P w K mg base CX0 6 f fd ["self", "words"] (spCallM K CE) := by
  refine F.ok scCallM (fun vs H Q E h => ?_) (fun cdv A outer s H vs Q E hr h => ?_)
  · obtain ⟨_, _, _, _, rfl, _⟩ := h
    rfl
  obtain ⟨p, l, e, ws, rfl, hE, hw, hb, q⟩ := h
  refine ⟨_, pss_cons (ps_set (i := 2) scCallM.nd rfl (Or.inl rfl) (pe_meth (pv 0) EE.cl M1 G1 hr b1 .nil pass0 (pa_cons (pv 1) pa_nil)))
    (pss_one (ps_ret (pe_op op_cat (pe_op op_cat (pe_slice (r := rSlL K) sl_list (pv 2) po_none (po_some (pe_fld (pv 0) rfl))) (pe_callTy call_list_of rfl T.lst (by decide +kernel) (pa_cons (pe_fld (pv 0) rfl) pa_nil)))
      (pe_slice (r := rSlL K) sl_list (pv 2) (po_some (pe_fld (pv 0) rfl)) po_none)))), ?_⟩
  obtain ⟨dx, tt, hp, hS, he⟩ := id hE
  refine ⟨_, rfl, p, dx, _, rfl, hp, rfl, _, rfl, p, l, e, ws, rfl, hE, hw, hb, fun H1 t s1 hn ht => ?_⟩
  obtain ⟨dx1, tt1, hp1, hS1, _⟩ := hE.same s1
  have ha := he.le
  refine ⟨_, rfl, _, rfl, p, CE, dx1, _, .int e.a, rfl, hp1, EE.cl, EE.nF, rfl, e.a, rfl, t, _, rfl, SqL.of ht, fun l1 hl1 => ?_⟩
  have s2 := Same.new hl1 (.lst (cutV (ws.map V.str) none (some (e.a : Int))))
  have c1 : upd H1 l1 (.lst (cutV (ws.map V.str) none (some (e.a : Int)))) l1 = some (.lst ((ws.take e.a).map V.str)) := by
    rw [upd_same, cut_to _ _ (by rw [List.length_map]; omega), List.map_take]
  generalize upd H1 l1 (.lst (cutV (ws.map V.str) none (some (e.a : Int)))) = H2 at *
  have sz : ∀ {n : Nat}, n ≤ 1000 → n ≤ sizeLine := fun h => small_le h
  have hw2 := hw.sm
  have he2 := he.sm
  refine ⟨_, rfl, p, CE, dx1, _, .ref tt1, rfl, s2 _ _ hp1, EE.cl, EE.nW, rfl, tt1, _, rfl, .inr (Same.tup s2 hS1), fun l2 hl2 => ?_⟩
  have s3 := Same.new hl2 (.lst (e.ws.map V.str))
  have c2 : upd H2 l2 (.lst (e.ws.map V.str)) l2 = some (.lst (e.ws.map V.str)) := upd_same
  have c1' := s3 _ _ c1
  generalize upd H2 l2 (.lst (e.ws.map V.str)) = H3 at *
  refine ⟨l1, l2, _, _, rfl, rfl, c1', c2, sz (by rw [List.length_map, List.length_map, List.length_take]; omega), fun l3 hl3 => ?_⟩
  have s4 := Same.new hl3 (.lst ((ws.take e.a).map V.str ++ e.ws.map V.str))
  have c3 : upd H3 l3 (.lst ((ws.take e.a).map V.str ++ e.ws.map V.str)) l3 = some (.lst ((ws.take e.a).map V.str ++ e.ws.map V.str)) := upd_same
  generalize upd H3 l3 (.lst ((ws.take e.a).map V.str ++ e.ws.map V.str)) = H4 at *
  have s14 := (s2.trans s3).trans s4
  refine ⟨_, rfl, _, rfl, p, CE, dx1, _, .int e.b, rfl, s14 _ _ hp1, EE.cl, EE.nL, rfl, e.b, rfl, t, _, rfl, SqL.of (s14 _ _ ht), fun l4 hl4 => ?_⟩
  have s5 := Same.new hl4 (.lst (cutV (ws.map V.str) (some (e.b : Int)) none))
  have c4 : upd H4 l4 (.lst (cutV (ws.map V.str) (some (e.b : Int)) none)) l4 = some (.lst ((ws.drop e.b).map V.str)) := by
    rw [upd_same, cut_from _ _ (by rw [List.length_map]; omega), List.map_drop]
  have c3' := s5 _ _ c3
  generalize upd H4 l4 (.lst (cutV (ws.map V.str) (some (e.b : Int)) none)) = H5 at *
  refine ⟨l3, l4, _, _, rfl, rfl, c3', c4, sz (by rw [List.length_append, List.length_map, List.length_map, List.length_map, List.length_take, List.length_drop]; omega), fun l5 hl5 => ?_⟩
  have s6 := Same.new hl5 (.lst (((ws.take e.a).map V.str ++ e.ws.map V.str) ++ (ws.drop e.b).map V.str))
  have sA := s1.trans (s14.trans s5)
  refine q _ l5 (sA.trans s6) (fresh_of sA hl5) ?_
  rw [upd_same]
  unfold app
  rw [List.map_append, List.map_append]
/-! ### edits are made -/
/-- what making an edit asks and gives -/
structure MkE (P : Program) (w : World) (K : PySem.W.Frag) (mg : Str → Option Value) (base : Heap) (CE fI : Addr) (fdI : FuncData) : Prop where
  M : Mk K CE fI
  F : FnOk P w K mg base CX0 4 fI fdI NI (spInit K CE)
  b : L2.Binds K fdI NI []
  m : mg "Edit" = some (.ref CE)
theorem mk_ed {Q : VK} {E : XK} {l : Addr} {e : Ed} {H : Hp} (hS : SqE K H l (e.ws.map V.str)) (he : e.Ok) (q : ∀ H' x, Same H H' → H x = none → EdH K CE H' x e → Q (.ref x) H') :
    ∀ x dx, H x = none → H dx = none → dx ≠ x → spInit K CE (.ref x :: ([.int e.a, .int e.b, .ref l] ++ [])) (upd (upd H dx (.own x)) x (.ins CE dx [])) (fun v H2 => v = .non ∧ Q (.ref x) H2) E := by
  intro x dx hx hdx hne
  have s1 : Same H (upd (upd H dx (.own x)) x (.ins CE dx [])) := (Same.new hdx _).trans (Same.new (by rw [upd_ne (Ne.symm hne)]; exact hx) _)
  refine ⟨x, dx, l, e, rfl, upd_same, hS.same s1, he, fun H' hB hE => ⟨rfl, q H' x (fun b o hb => hB _ _ (fun z => ?_) (s1 _ _ hb)) hx hE⟩⟩
  rw [z, hx] at hb
  cases hb
theorem mk_edI {Q : VK} {E : XK} {l : Addr} {i j : Int} {e : Ed} {H : Hp} (hi : i = e.a) (hj : j = e.b) (hS : SqE K H l (e.ws.map V.str)) (he : e.Ok) (q : ∀ H' x, Same H H' → H x = none → EdH K CE H' x e → Q (.ref x) H') :
    ∀ x dx, H x = none → H dx = none → dx ≠ x → spInit K CE (.ref x :: ([.int i, .int j, .ref l] ++ [])) (upd (upd H dx (.own x)) x (.ins CE dx [])) (fun v H2 => v = .non ∧ Q (.ref x) H2) E := by
  subst hi hj
  exact mk_ed hS he q
abbrev sAddM : Stmt := inClass (tp 17) 5
theorem scAddM : FnScope ["self", "other"] ["self", "other"] (defScope sAddM) := ⟨rfl, rfl, rfl, by decide +kernel, rfl, by decide +kernel, by decide +kernel⟩
def spAddM (K : PySem.W.Frag) (CE : Addr) : Sp := fun vs H Q _ => ∃ (p : Addr) (i : Int) (e e2 : Ed), vs = [.ref p, .int i] ∧ EdH K CE H p e ∧ (e2.a : Int) = e.a + i ∧ (e2.b : Int) = e.b + i ∧ e2.ws = e.ws ∧ e2.Ok ∧
  ∀ H' x, Same H H' → H x = none → EdH K CE H' x e2 → Q (.ref x) H'
theorem ok_addm {f f1 fI : Addr} {fd fd1 fdI : FuncData} (F : Fun K "__add__" "Edit.__add__" sAddM f fd) (EE : EC K CE) (J : MkE P w K mg base CE fI fdI)
    (G1 : FnOk P w K mg base CX0 1 f1 fd1 ["thing"] spWhole) (b1 : Binds K fd1 ["thing"] []) (k1 : PySem.W.keepIn K (.ref f1) = true) (m1 : mg "is_whole" = some (.ref f1)) : FnOk P w K mg base CX0 6 f fd ["self", "other"] (spAddM K CE) := by
  refine F.ok scAddM (fun vs H Q E h => ?_) (fun cdv A outer s H vs Q E hr h => ?_)
  · obtain ⟨_, _, _, _, rfl, _⟩ := h
    rfl
  obtain ⟨p, i, e, e2, rfl, hE, ea, eb, ew, ho, q⟩ := h
  obtain ⟨dx, tt, hp, hS, he⟩ := id hE
  refine ⟨_, pss_cons (ps_if (pt_not (pt_val (pe_call G1 (hr.mono (by decide)) rfl m1 k1 b1 .nil pass0 (pa_cons (pv 1) pa_nil)))) (pss_one ps_never) pss_nil)
    (pss_one (ps_ret (pe_make J.M J.F hr rfl J.m J.b .nil pass0 (pa_cons (pe_op op_add (pe_fld (pv 0) rfl) (pv 1)) (pa_cons (pe_op op_add (pe_fld (pv 0) rfl) (pv 1)) (pa_cons (pe_fld (pv 0) rfl) pa_nil)))))), ?_⟩
  refine ⟨_, rfl, _, rfl, _, rfl, iteF ⟨_, rfl, p, CE, dx, _, .int e.a, rfl, hp, EE.cl, EE.nF, rfl, _, rfl, _, _, rfl, rfl, _, rfl, p, CE, dx, _, .int e.b, rfl, hp, EE.cl, EE.nL, rfl, _, rfl, _, _, rfl, rfl, _, rfl, p, CE, dx, _, .ref tt, rfl, hp, EE.cl, EE.nW, rfl, ?_⟩⟩
  exact mk_edI (e := e2) ea.symm eb.symm (.inr (by rw [ew]; exact hS)) ho q
end
end P5

end
section
set_option Elab.async false
set_option linter.all false
set_option maxRecDepth 100000
set_option maxHeartbeats 4000000
namespace P5
open PySem PySem.Spec PySem.SeqAt PyProof.Rows L2
/-! ### lists and tuples of marks as data -/
theorem lay_mem : ∀ {ds : List PyData}, (∀ d ∈ ds, d.canLay0 = true) → PyData.canLayAll0 ds = true
  | [], _ => by simp only [PyData.canLayAll0]
  | d :: ds, h => by
    simp only [PyData.canLayAll0, h d List.mem_cons_self, lay_mem fun x hx => h x (List.mem_cons_of_mem _ hx), Bool.and_self]
theorem depth_mem : ∀ {ds : List PyData} {m : Nat}, (∀ d ∈ ds, d.depth ≤ m) → PyData.depthAll ds ≤ m
  | [], m, _ => by simp only [PyData.depthAll]; exact Nat.zero_le _
  | d :: ds, m, h => by
    simp only [PyData.depthAll]
    exact Nat.max_le.mpr ⟨h d List.mem_cons_self, depth_mem fun x hx => h x (List.mem_cons_of_mem _ hx)⟩
theorem shaped_mk {d : PyData} (h1 : d.canLay0 = true) (h2 : d.depth ≤ 64) : shaped d = true := by
  unfold shaped
  rw [h1, decide_eq_true h2]
  rfl
theorem lay_str {x : Str} (h : PyData.strOk x = true) : (PyData.str x).canLay0 = true := by simp only [PyData.canLay0]; exact h
theorem lay_marks {zs : List Str} (h : ∀ z ∈ zs, z ∈ MRK) : PyData.canLayAll0 (zs.map PyData.str) = true := lay_mem fun d hd => by
  obtain ⟨z, hz, e⟩ := List.mem_map.mp hd
  subst e
  exact lay_str (mrk_ok z (h z hz))
theorem depth_marks (zs : List Str) : PyData.depthAll (zs.map PyData.str) ≤ 0 := depth_mem fun d hd => by
  obtain ⟨z, _, e⟩ := List.mem_map.mp hd
  subst e
  simp only [PyData.depth]
  exact Nat.le_refl _
theorem shaped_lst {zs : List Str} (h : ∀ z ∈ zs, z ∈ MRK) : shaped (.list (zs.map PyData.str)) = true := by
  refine shaped_mk ?_ ?_
  · simp only [PyData.canLay0]
    exact lay_marks h
  · simp only [PyData.depth]
    have := depth_marks zs
    omega
theorem shaped_tup {zs : List Str} (h : ∀ z ∈ zs, z ∈ MRK) : shaped (.tuple (zs.map PyData.str)) = true := by
  refine shaped_mk ?_ ?_
  · simp only [PyData.canLay0]
    exact lay_marks h
  · simp only [PyData.depth]
    have := depth_marks zs
    omega
theorem dpAll_marks {K : PySem.W.Frag} {H : Hp} : ∀ (zs : List Str), DpAll K H (zs.map V.str) (zs.map PyData.str)
  | [] => .nil
  | z :: zs => .cons (.str z) (dpAll_marks zs)
theorem eqvAll_marks : ∀ (a b : List Str), PyData.eqvAll (a.map PyData.str) (b.map PyData.str) = decide (a = b)
  | [], [] => rfl
  | [], y :: b => rfl
  | x :: a, [] => rfl
  | x :: a, y :: b => by
    show ((x == y) && PyData.eqvAll (a.map PyData.str) (b.map PyData.str)) = decide (x :: a = y :: b)
    rw [eqvAll_marks a b]
    by_cases h : x = y
    · subst h
      rw [beq_self_eq_true, Bool.true_and]
      by_cases h2 : a = b
      · subst h2
        rw [decide_eq_true rfl, decide_eq_true rfl]
      · rw [decide_eq_false h2, decide_eq_false fun z => h2 (List.cons.inj z).2]
    · rw [beq_eq_false_iff_ne.mpr h, Bool.false_and, decide_eq_false fun z => h (List.cons.inj z).1]
section
variable {X : Cx}
/-- != of two lists of marks -/
def rNeW (K : PySem.W.Frag) : R2 := fun x y H Q => ∃ (l m : Addr) (as bs : List Str), x = .ref l ∧ y = .ref m ∧ SqL K H l (as.map V.str) ∧ SqL K H m (bs.map V.str) ∧ (∀ z ∈ as, z ∈ MRK) ∧ (∀ z ∈ bs, z ∈ MRK) ∧ Q (.bl (!decide (as = bs))) H
theorem op_neW (hu : X.A.units + 64 < cLine) : OpR X (compareOp .NotEq) (rNeW X.K) := by
  intro pins s σ H x y v u Q I rx ry h
  obtain ⟨l, m, as, bs, rfl, rfl, h1, h2, m1, m2, q⟩ := h
  refine op_neD hu pins s σ H _ _ v u Q I rx ry ⟨.list (as.map PyData.str), .list (bs.map PyData.str), .lst h1 (dpAll_marks as), .lst h2 (dpAll_marks bs), shaped_lst m1, shaped_lst m2, ?_⟩
  rw [show PyData.eqv (.list (as.map PyData.str)) (.list (bs.map PyData.str)) = decide (as = bs) from eqvAll_marks as bs]
  exact q
/-- == of two lists of marks -/
def rEqW (K : PySem.W.Frag) : R2 := fun x y H Q => ∃ (l m : Addr) (as bs : List Str), x = .ref l ∧ y = .ref m ∧ SqL K H l (as.map V.str) ∧ SqL K H m (bs.map V.str) ∧ (∀ z ∈ as, z ∈ MRK) ∧ (∀ z ∈ bs, z ∈ MRK) ∧ Q (.bl (decide (as = bs))) H
theorem op_eqW (hu : X.A.units + 64 < cLine) : OpR X (compareOp .Eq) (rEqW X.K) := by
  intro pins s σ H x y v u Q I rx ry h
  obtain ⟨l, m, as, bs, rfl, rfl, h1, h2, m1, m2, q⟩ := h
  refine op_eqD hu pins s σ H _ _ v u Q I rx ry ⟨.list (as.map PyData.str), .list (bs.map PyData.str), .lst h1 (dpAll_marks as), .lst h2 (dpAll_marks bs), shaped_lst m1, shaped_lst m2, ?_⟩
  rw [show PyData.eqv (.list (as.map PyData.str)) (.list (bs.map PyData.str)) = decide (as = bs) from eqvAll_marks as bs]
  exact q
/-- == and != of two tuples of marks -/
def rTW (K : PySem.W.Frag) (f : Bool → Bool) : R2 := fun x y H Q => ∃ (l m : Addr) (as bs : List Str), x = .ref l ∧ y = .ref m ∧ SqT K H l (as.map V.str) ∧ SqT K H m (bs.map V.str) ∧ (∀ z ∈ as, z ∈ MRK) ∧ (∀ z ∈ bs, z ∈ MRK) ∧ Q (.bl (f (decide (as = bs)))) H
theorem op_eqTW (hu : X.A.units + 64 < cLine) : OpR X (compareOp .Eq) (rTW X.K id) := by
  intro pins s σ H x y v u Q I rx ry h
  obtain ⟨l, m, as, bs, rfl, rfl, h1, h2, m1, m2, q⟩ := h
  refine op_eqD hu pins s σ H _ _ v u Q I rx ry ⟨.tuple (as.map PyData.str), .tuple (bs.map PyData.str), .tup h1 (dpAll_marks as), .tup h2 (dpAll_marks bs), shaped_tup m1, shaped_tup m2, ?_⟩
  rw [show PyData.eqv (.tuple (as.map PyData.str)) (.tuple (bs.map PyData.str)) = decide (as = bs) from eqvAll_marks as bs]
  exact q
theorem op_neTW (hu : X.A.units + 64 < cLine) : OpR X (compareOp .NotEq) (rTW X.K not) := by
  intro pins s σ H x y v u Q I rx ry h
  obtain ⟨l, m, as, bs, rfl, rfl, h1, h2, m1, m2, q⟩ := h
  refine op_neD hu pins s σ H _ _ v u Q I rx ry ⟨.tuple (as.map PyData.str), .tuple (bs.map PyData.str), .tup h1 (dpAll_marks as), .tup h2 (dpAll_marks bs), shaped_tup m1, shaped_tup m2, ?_⟩
  rw [show PyData.eqv (.tuple (as.map PyData.str)) (.tuple (bs.map PyData.str)) = decide (as = bs) from eqvAll_marks as bs]
  exact q
end
section
variable {P : Program} {w : World} {K : PySem.W.Frag} {mg : Str → Option Value} {base : Heap} {aN aS CE : Addr}
theorem hu64 {A : Around} {k : Nat} (hr : Room k A) : A.units + 64 < cLine := by have := hr.un; omega
/-- what isinstance(other, Edit) asks of the class -/
structure RI (K : PySem.W.Frag) (mg : Str → Option Value) (C : Addr) : Prop where
  g : mg "Edit" = some (.ref C)
  ha : PySem.W.findIn K (.ref C) "__class__" = some (some (.builtin "object.__class__"))
  hn : PySem.W.specialIn K (.builtin "object.__class__") "__get__" = some (some (.builtin "getset_descriptor.__get__"))
  ht : PySem.W.takesIn K (.builtin "object.__class__") = some true
  hm : PySem.W.mroIn K C (.type "object") = some true
  kit : PySem.W.kitOne K (.ref C) (.ref C) = some true
abbrev sEqM : Stmt := inClass (tp 17) 1
theorem scEqM : FnScope ["self", "other"] ["self", "other"] (defScope sEqM) := ⟨rfl, rfl, rfl, by decide +kernel, rfl, by decide +kernel, by decide +kernel⟩
def spEqM (K : PySem.W.Frag) (CE : Addr) : Sp := fun vs H Q _ => ∃ (a b : Addr) (e : Ed), vs = [.ref a, .ref b] ∧ EdH K CE H a e ∧ EdH K CE H b e ∧ Q (.bl true) H
theorem ok_eqm {f : Addr} {fd : FuncData} (F : Fun K "__eq__" "Edit.__eq__" sEqM f fd) (mI : mg "isinstance" = none) (EE : EC K CE) (R : RI K mg CE) : FnOk P w K mg base CX0 1 f fd ["self", "other"] (spEqM K CE) := by
  refine F.ok scEqM (fun vs H Q E h => ?_) (fun cdv A outer s H vs Q E hr h => ?_)
  · obtain ⟨_, _, _, rfl, _⟩ := h
    rfl
  obtain ⟨a, b, e, rfl, ⟨dx, t, hp, hS, he⟩, ⟨dx2, t2, hp2, hS2, _⟩, q⟩ := h
  refine ⟨_, pss_cons (ps_if (pt_not (pt_val (pe_callB call_isi rfl mI (by decide +kernel) (pa_cons (pv 1) (pa_cons (pgl R.g) pa_nil))))) (pss_one ps_never) pss_nil)
    (pss_one (ps_ret (pe_and (pe_cmpR op_eq (pe_fld (pv 0) rfl) (pe_fld (pv 1) rfl) (nomark _)) (pe_and (pe_cmpR op_eq (pe_fld (pv 0) rfl) (pe_fld (pv 1) rfl) (nomark _)) (pe_one (pe_cmpR (op_eqTW (hu64 hr)) (pe_fld (pv 0) rfl) (pe_fld (pv 1) rfl) (nomark _))))))), ?_⟩
  refine ⟨_, rfl, .ref b, .ref CE, .ref CE, .ref CE, true, rfl, .own _, .base (.ins hp2 EE.cl R.ha R.hn R.ht R.hm), R.kit, _, rfl, iteF ?_⟩
  refine ⟨_, rfl, a, CE, dx, _, .int e.a, rfl, hp, EE.cl, EE.nF, rfl, _, rfl, b, CE, dx2, _, .int e.a, rfl, hp2, EE.cl, EE.nF, rfl, rfl, _, rfl, iteTT (decide_eq_true rfl) ?_⟩
  refine ⟨_, rfl, a, CE, dx, _, .int e.b, rfl, hp, EE.cl, EE.nL, rfl, _, rfl, b, CE, dx2, _, .int e.b, rfl, hp2, EE.cl, EE.nL, rfl, rfl, _, rfl, iteTT (decide_eq_true rfl) ?_⟩
  refine ⟨_, rfl, a, CE, dx, _, .ref t, rfl, hp, EE.cl, EE.nW, rfl, _, rfl, b, CE, dx2, _, .ref t2, rfl, hp2, EE.cl, EE.nW, rfl, t, t2, e.ws, e.ws, rfl, rfl, hS, hS2, he.mrk, he.mrk, ?_⟩
  rw [decide_eq_true rfl]
  exact q
end
end P5

end
section
set_option Elab.async false
set_option linter.all false
set_option maxRecDepth 100000
set_option maxHeartbeats 4000000
namespace P5
open PySem PySem.Spec PyProof.Rows L2
/-! ### comprehensions that draw: what holds of the list so far -/
theorem lc_inv {J : It} {g : TG} {tt : TT} {te : TE} {vs : List Nat} {σ : L2.St} {H1 : Hp} {D : Addr} {Qd : Hp → Prop} (n : Nat) (hn : n ≤ 1000) (P : Nat → List V → Hp → Prop)
    (h0 : P 0 [] (upd H1 D (.lst [])))
    (step : ∀ (i : Nat) (acc : List V) (H : Hp) (Ny : VK) (Nx : Hp → Prop), i < n → H D = some (.lst acc) → P i acc H →
      (∀ y H4, H4 D = some (.lst acc) → P (i + 1) (acc ++ [y]) (upd H4 D (.lst (acc ++ [y]))) → Ny y H4) → (∀ H3, H3 D = some (.lst acc) → P (i + 1) acc H3 → Nx H3) →
      J.go i H ∧ ∀ x H', J.yld i H x H' → g x (wipe σ vs) H' fun σ2 H2 => wipe σ2 vs = wipe σ vs ∧ tt σ2 H2 fun b H3 => if b = true then te σ2 H3 Ny else Nx H3)
    (stop : ∀ acc H, H D = some (.lst acc) → P n acc H → J.stop n H ∧ Qd H) :
    ∃ W : Nat → Nat → Hp → Prop, (∃ m, W 0 m (upd H1 D (.lst []))) ∧ ∀ i m H, W i m H →
      (J.stop i H ∧ Qd H) ∨ (J.go i H ∧ ∃ Nx : Hp → Prop, (∀ H', Nx H' → ∃ m', m' < m ∧ W (i + 1) m' H') ∧ ∀ x H', J.yld i H x H' → g x (wipe σ vs) H' fun σ2 H2 => wipe σ2 vs = wipe σ vs ∧ tt σ2 H2 fun b H3 =>
        if b = true then te σ2 H3 fun y H4 => ∃ acc, H4 D = some (.lst acc) ∧ acc.length < sizeLine ∧ Nx (upd H4 D (.lst (acc ++ [y]))) else Nx H3) := by
  refine ⟨fun i m H => m = n - i ∧ i ≤ n ∧ ∃ acc, H D = some (.lst acc) ∧ acc.length ≤ i ∧ P i acc H, ⟨n, by omega, Nat.zero_le _, [], upd_same, Nat.le_refl _, h0⟩, ?_⟩
  rintro i m H ⟨rfl, hi, acc, hD, hl, hP⟩
  by_cases hlt : i < n
  · have z := step i acc H (fun y H4 => ∃ acc, H4 D = some (.lst acc) ∧ acc.length < sizeLine ∧ (∃ acc', upd H4 D (.lst (acc ++ [y])) D = some (.lst acc') ∧ acc'.length ≤ i + 1 ∧ P (i + 1) acc' (upd H4 D (.lst (acc ++ [y])))))
      (fun H3 => ∃ acc', H3 D = some (.lst acc') ∧ acc'.length ≤ i + 1 ∧ P (i + 1) acc' H3) hlt hD hP (fun y H4 h p => ⟨acc, h, small1000 (by omega), _, upd_same, by rw [List.length_append]; show acc.length + 1 ≤ i + 1; omega, p⟩) (fun H3 h p => ⟨acc, h, by omega, p⟩)
    exact .inr ⟨z.1, fun H' => ∃ acc', H' D = some (.lst acc') ∧ acc'.length ≤ i + 1 ∧ P (i + 1) acc' H', fun H' p' => ⟨n - (i + 1), by omega, rfl, hlt, p'⟩, z.2⟩
  · have e : i = n := by omega
    subst e
    exact .inl (stop acc H hD hP)
theorem DrwS.upd {H : Hp} {d sa D : Addr} {o : HO} (h : DrwS H d sa) (h1 : D ≠ d) (h2 : D ≠ sa) : DrwS (upd H D o) d sa := by
  obtain ⟨ns, n, e1, e2, e3⟩ := h
  exact ⟨ns, n, by rw [upd_ne (Ne.symm h1)]; exact e1, by rw [upd_ne (Ne.symm h2)]; exact e2, e3⟩
theorem DrwS.same {H H' : Hp} {d sa : Addr} (h : DrwS H d sa) (s : Same H H') : DrwS H' d sa := by
  obtain ⟨ns, n, e1, e2, e3⟩ := h
  exact ⟨ns, n, s _ _ e1, s _ _ e2, e3⟩
theorem DrwS.new {H : Hp} {d sa D : Addr} (h : DrwS H d sa) (hD : H D = none) : D ≠ d ∧ D ≠ sa := by
  obtain ⟨ns, n, e1, e2, e3⟩ := h
  exact ⟨fun e => (by rw [e, e1] at hD; cases hD), fun e => (by rw [e, e2] at hD; cases hD)⟩
theorem Aft.put {H H' : Hp} {d D : Addr} {o : HO} (s : Aft H H' d) (hn : H' D = none) : Aft H (upd H' D o) d := fun x u hx hu => by
  have z := s x u hx hu
  rw [upd_ne (ne_of_none z hn)]
  exact z
/-- the list that is made is written: all but it stays -/
theorem Aft.acc {H1 H : Hp} {d D : Addr} {o : HO} (hD : H1 D = none) (s : Aft H1 H d) : Aft H1 (upd H D o) d := fun x u hx hu => by
  rw [upd_ne (ne_of_none hu hD)]
  exact s x u hx hu
structure Cal (P : Program) (w : World) (K : PySem.W.Frag) (mg : Str → Option Value) (base : Heap) (x : Str) (ps : List Str) (sp : Sp) : Prop where
  ex : ∃ f fd, FnOk P w K mg base CX0 8 f fd ps sp ∧ Binds K fd ps [] ∧ PySem.W.keepIn K (.ref f) = true ∧ mg x = some (.ref f)
theorem pe_cal {X : Cx} {x : Str} {ps : List Str} {sp : Sp} {e : Expr} {es : List Expr} {t : TA} {p pos : Pos} (C : Cal X.prog X.w X.K X.mg X.base x ps sp) (hr : Room 8 X.A) (ha : PA X (e :: es) t) (hg : Gl X x := by rfl)
    (hdb : (x == ("__debug__" : Str)) = false := by decide) (he : starEach (e :: es) X.env = (false, eval e X.env) :: starEach es X.env := by rfl) (hpl : (backTo pos (starEach es X.env)).any (·.1) = false := by rfl) :
    PE X (.Call (.Name x p) (e :: es) [] pos) (tCall sp [] E0 t) := by
  obtain ⟨f, fd, G, b, k, m⟩ := C.ex
  exact pe_call G hr hg m k b .nil pass0 ha hdb he hpl

/-- a list of marks of the heap's own -/
structure LsH (H : Hp) (l : Addr) (ws : List Str) : Prop where
  at_ : H l = some (.lst (ws.map V.str))
  mrk : ∀ x ∈ ws, x ∈ MRK
  sm : ws.length ≤ 200
theorem LsH.wsl {K : PySem.W.Frag} {H : Hp} {l : Addr} {ws : List Str} (h : LsH H l ws) : WsL K H l ws := ⟨SqL.of h.at_, h.mrk, h.sm⟩
theorem LsH.same {H H' : Hp} {l : Addr} {ws : List Str} (s : Same H H') (h : LsH H l ws) : LsH H' l ws := ⟨s _ _ h.at_, h.mrk, h.sm⟩
theorem strs_nd {ws : List Str} : ∀ (sa : Addr) (n : Int), HO.lst (ws.map V.str) ≠ .lst [.ref sa, .int 0, .int n] := fun sa n z => by
  cases ws with
  | nil => cases z
  | cons => cases z
theorem LsH.ne {H : Hp} {l d sa : Addr} {ws : List Str} (h : LsH H l ws) (hd : DrwS H d sa) : l ≠ d := hd.drw.ne h.at_ strs_nd
theorem LsH.aft {H H' : Hp} {l d sa : Addr} {ws : List Str} (hd : DrwS H d sa) (s : Aft H H' d) (h : LsH H l ws) : LsH H' l ws := ⟨s _ _ (h.ne hd) h.at_, h.mrk, h.sm⟩
theorem EdH.aft {K : PySem.W.Frag} {CE p d sa : Addr} {H H' : Hp} {e : Ed} (hd : DrwS H d sa) (s : Aft H H' d) (h : EdH K CE H p e) : EdH K CE H' p e := by
  obtain ⟨dx, t, h1, h2, h3⟩ := h
  exact ⟨dx, t, s _ _ (hd.drw.ne h1 fun _ _ z => by cases z) h1, Aft.tup hd.drw s h2, h3⟩
theorem mrk_get {l : List Str} {j : Nat} {x : V} (hl : ∀ z ∈ l, z ∈ MRK) (h : (l.map V.str)[j]? = some x) : ∃ z, x = .str z ∧ z ∈ MRK := by
  rw [List.getElem?_map] at h
  cases e : l[j]? with
  | none => rw [e] at h; cases h
  | some z =>
    rw [e] at h
    cases h
    exact ⟨z, rfl, hl z (List.mem_of_getElem? e)⟩
def PK6 : List Str := ["a", "b", "c", "let", ";", "="]
theorem pk6 : ∀ z ∈ PK6, z ∈ MRK := fun z hz => mrk_of (by revert z; decide +kernel)
section
variable {P : Program} {w : World} {K : PySem.W.Frag} {mg : Str → Option Value} {base : Heap} {aN aS CE : Addr}
abbrev sWds : Stmt := tp 45
abbrev NWd : List Str := ["draw", "many", "turn"]
theorem scWds : FnScope NWd ["draw", "many"] (defScope sWds) := ⟨rfl, rfl, rfl, by decide +kernel, rfl, by decide +kernel, by decide +kernel⟩
def spWds : Sp := fun vs H Q _ => ∃ (d sa : Addr) (n : Nat), vs = [.ref d, .int n] ∧ DrwS H d sa ∧ n ≤ 40 ∧
  ∀ H' l ws, Aft H H' d → DrwS H' d sa → H l = none → LsH H' l ws → ws.length = n → (∀ x ∈ ws, x ∈ PK6) → Q (.ref l) H'
theorem aft_fresh {H H' : Hp} {d l : Addr} (s : Aft H H' d) (hd : l ≠ d) (h : H' l = none) : H l = none := by
  cases e : H l with
  | none => rfl
  | some o => rw [s _ _ hd e] at h; cases h
theorem ok_wds {f fP : Addr} {fd fdP : FuncData} (F : Fun K "_law_words" "_law_words" sWds f fd) (mR : mg "range" = none)
    (GP : FnOk P w K mg base CX0 4 fP fdP ["draw", "things"] (spPick K)) (bP : Binds K fdP ["draw", "things"] []) (kP : PySem.W.keepIn K (.ref fP) = true) (mP : mg "_law_pick" = some (.ref fP)) : FnOk P w K mg base CX0 5 f fd ["draw", "many"] spWds := by
  refine F.ok scWds (fun vs H Q E h => ?_) (fun cdv A outer s H vs Q E hr h => ?_)
  · obtain ⟨_, _, _, rfl, _⟩ := h
    rfl
  obtain ⟨d, sa, n, rfl, hd, hn, q⟩ := h
  refine ⟨_, pss_one (ps_ret (pe_lc (own := [("turn", 2)]) (g := gName 2) rfl scWds.nd (pi_range1 rfl mR (pa_cons (pv 1) pa_nil))
        (blkOk_by (N := NWd) (sc := defScope sWds) (by decide +kernel)) (fun _ _ _ _ _ => pg_name (i := 2) scWds.nd rfl (Or.inl rfl)) (fun _ _ _ _ _ => pts_nil)
        (fun _ _ _ _ _ => pe_call GP hr rfl mP kP bP .nil pass0 (pa_cons (pv 0) (pa_cons (pe_lst (pa_cons pe_str (pa_cons pe_str (pa_cons pe_str (pa_cons pe_str (pa_cons pe_str (pa_cons pe_str pa_nil))))))) pa_nil))))), ?_⟩
  refine ⟨_, rfl, n, rfl, by omega, by omega, fun D hD => ?_⟩
  have nD := hd.new hD
  refine lc_inv n (by omega) (fun i acc H' => Aft H H' d ∧ DrwS H' d sa ∧ ∃ us : List Str, acc = us.map V.str ∧ us.length = i ∧ ∀ z ∈ us, z ∈ PK6)
    ⟨Aft.of (Same.new hD _), hd.upd nD.1 nD.2, [], rfl, rfl, fun z hz => (nomatch hz)⟩
    (fun i acc H5 Ny Nx hi hacc ⟨a5, d5, us, ea, hul, hum⟩ qy qx => ?_) (fun acc H5 hacc ⟨a5, d5, us, ea, hul, hum⟩ => ?_)
  · refine ⟨hi, fun x H6 yl => ?_⟩
    obtain ⟨e6, ex⟩ := yl
    subst H6
    refine ⟨rfl, _, rfl, (by show 6 ≤ sizeLine; decide), fun p5 hp5 => ?_⟩
    have s6 := Same.new hp5 (.lst (PK6.map V.str))
    have h6 : LsH (upd H5 p5 (.lst (PK6.map V.str))) p5 PK6 := ⟨upd_same, pk6, by decide⟩
    have d6 := d5.same s6
    have hacc6 := s6 _ _ hacc
    refine ⟨d, sa, p5, PK6.map V.str, rfl, d6, SqL.of h6.at_, h6.ne d6, (by decide), fun j x1 H7 hx1 a7 d7 => ?_⟩
    obtain ⟨z, rfl, hz⟩ : ∃ z, x1 = .str z ∧ z ∈ PK6 := by
      rw [List.getElem?_map] at hx1
      cases e : PK6[j]? with
      | none => rw [e] at hx1; cases hx1
      | some z =>
        rw [e] at hx1
        cases hx1
        exact ⟨z, rfl, List.mem_of_getElem? e⟩
    have hacc7 := a7 _ _ nD.1 hacc6
    refine qy _ _ hacc7 ⟨Aft.acc hD ((a5.trans (Aft.of s6)).trans a7), d7.upd nD.1 nD.2, us ++ [z], by rw [ea, List.map_append]; rfl, by rw [List.length_append, hul]; rfl, fun y hy => ?_⟩
    rcases List.mem_append.mp hy with h | h
    · exact hum y h
    · cases List.mem_singleton.mp h
      exact hz
  · refine ⟨by show (n : Int).toNat ≤ n; omega, ?_⟩
    subst ea
    exact q H5 D us a5 d5 hD ⟨hacc, fun z hz => pk6 z (hum z hz), by omega⟩ hul hum
abbrev sLE : Stmt := tp 39
abbrev NE : List Str := ["draw", "many", "first"]
/-- an edit that the law draws -/
structure DrE (e : Ed) (n : Nat) : Prop where
  le : e.b ≤ n
  few : e.ws.length ≤ 2
  pk : ∀ x ∈ e.ws, x ∈ PK6
def spLE (K : PySem.W.Frag) (CE : Addr) : Sp := fun vs H Q _ => ∃ (d sa : Addr) (n : Nat), vs = [.ref d, .int n] ∧ DrwS H d sa ∧ n ≤ 100 ∧
  ∀ H' x e, Aft H H' d → DrwS H' d sa → EdH K CE H' x e → DrE e n → Q (.ref x) H'
end
end P5

end
section
set_option Elab.async false
set_option linter.all false
set_option maxRecDepth 100000
set_option maxHeartbeats 4000000
namespace P5
open PySem PySem.Spec PyProof.Rows L2
/-! ### rows of edits and changes, as plain mathematics -/
/-- edits one behind the other -/
def done (es : List Ed) (l : List Str) : List Str := es.foldl (fun l e => app e l) l
/-- changes ascending and apart, from a place on: behind the place if tight -/
inductive Apt : Bool → Nat → List Ed → Prop
  | nil {t : Bool} {s : Nat} : Apt t s []
  | cons {t : Bool} {s : Nat} {e : Ed} {C : List Ed} : s ≤ e.a → (t = true → s < e.a) → e.a ≤ e.b → (e.a < e.b ∨ e.ws ≠ []) → Apt true e.b C → Apt t s (e :: C)
/-- the words from a place on, behind changes -/
def apC : List Ed → Nat → List Str → List Str
  | [], _, l => l
  | e :: C, s, l => l.take (e.a - s) ++ (e.ws ++ apC C e.b (l.drop (e.b - s)))
/-- where changes end -/
def endC (s : Nat) (C : List Ed) : Nat := C.foldl (fun _ e => e.b) s
theorem endC_cons {s : Nat} {e : Ed} {C : List Ed} : endC s (e :: C) = endC e.b C := rfl
theorem Apt.loose {t : Bool} {s : Nat} {C : List Ed} (h : Apt t s C) : Apt false s C := by
  cases h with
  | nil => exact .nil
  | cons h1 h2 h3 h4 h5 => exact .cons h1 (fun z => nomatch z) h3 h4 h5
theorem Apt.next {s : Nat} {C : List Ed} (h : Apt true s C) : Apt false (s + 1) C := by
  cases h with
  | nil => exact .nil
  | cons h1 h2 h3 h4 h5 => exact .cons (h2 rfl) (fun z => nomatch z) h3 h4 h5
theorem Apt.le_end : ∀ {C : List Ed} {t : Bool} {s : Nat}, Apt t s C → s ≤ endC s C
  | [], _, _, _ => Nat.le_refl _
  | e :: C, _, _, .cons h1 _ h3 _ h5 => by
    rw [endC_cons]
    have := h5.le_end
    omega
theorem endC_any {C : List Ed} {s s' : Nat} (h : C ≠ []) : endC s C = endC s' C := by
  cases C with
  | nil => exact absurd rfl h
  | cons e C => rfl
theorem apC_next {C : List Ed} {s : Nat} {x : Str} {l : List Str} (h : Apt true s C) : apC C s (x :: l) = x :: apC C (s + 1) l := by
  cases h with
  | nil => rfl
  | @cons _ _ e C h1 h2 h3 h4 h5 =>
    have := h2 rfl
    show (x :: l).take (e.a - s) ++ (e.ws ++ apC C e.b ((x :: l).drop (e.b - s))) = x :: (l.take (e.a - (s + 1)) ++ (e.ws ++ apC C e.b (l.drop (e.b - (s + 1)))))
    rw [show e.a - s = (e.a - (s + 1)) + 1 from by omega, show e.b - s = (e.b - (s + 1)) + 1 from by omega]
    rfl
/-- what stands behind changes comes of the words, or was put in -/
theorem apC_mem : ∀ {C : List Ed} {s : Nat} {l : List Str} {x : Str}, x ∈ apC C s l → x ∈ l ∨ ∃ e ∈ C, x ∈ e.ws
  | [], _, _, _, h => .inl h
  | e :: C, s, l, x, h => by
    rcases List.mem_append.mp h with h | h
    · exact .inl (List.mem_of_mem_take h)
    · rcases List.mem_append.mp h with h | h
      · exact .inr ⟨e, List.mem_cons_self, h⟩
      · rcases apC_mem h with h | ⟨e', h1, h2⟩
        · exact .inl (List.mem_of_mem_drop h)
        · exact .inr ⟨e', List.mem_cons_of_mem _ h1, h2⟩
/-- words of which none is among the other ones -/
def Free (C : List Ed) (l : List Str) : Prop := ∀ e ∈ C, ∀ x ∈ e.ws, x ∉ l
theorem Free.tail {e : Ed} {C : List Ed} {l l' : List Str} (h : Free (e :: C) l) (hs : ∀ x ∈ l', x ∈ l) : Free C l' := fun e' he x hx z => h e' (List.mem_cons_of_mem _ he) x hx (hs x z)
theorem Free.sub {C : List Ed} {l l' : List Str} (h : Free C l) (hs : ∀ x ∈ l', x ∈ l) : Free C l' := fun e he x hx z => h e he x hx (hs x z)
/-- behind a change, the words go on with a kept one, or end -/
theorem apC_tight {C : List Ed} {s : Nat} {l : List Str} (h : Apt true s C) (he : endC s C ≤ s + l.length) : (l = [] ∧ C = [] ∧ apC C s l = []) ∨ ∃ x l', l = x :: l' ∧ apC C s l = x :: apC C (s + 1) l' := by
  cases l with
  | nil =>
    left
    cases h with
    | nil => exact ⟨rfl, rfl, rfl⟩
    | @cons _ _ e C h1 h2 h3 h4 h5 =>
      have := h2 rfl
      have := h5.le_end
      rw [endC_cons] at he
      simp at he
      omega
  | cons x l' => exact .inr ⟨x, l', rfl, apC_next h⟩
/-- what was put in ahead of a kept word, or of the end, is told by the whole -/
theorem split_free {ws ws' R R' l : List Str} (h : ws ++ R = ws' ++ R') (f : ∀ x ∈ ws, x ∉ l) (f' : ∀ x ∈ ws', x ∉ l) (hR : R = [] ∨ ∃ x r, R = x :: r ∧ x ∈ l) (hR' : R' = [] ∨ ∃ x r, R' = x :: r ∧ x ∈ l) : ws = ws' ∧ R = R' := by
  induction ws generalizing ws' with
  | nil =>
    cases ws' with
    | nil => exact ⟨rfl, h⟩
    | cons y ys =>
      exfalso
      rcases hR with e | ⟨x, r, e, hx⟩
      · rw [e] at h
        cases h
      · rw [e] at h
        cases h
        exact f' y List.mem_cons_self hx
  | cons z zs ih =>
    cases ws' with
    | nil =>
      exfalso
      rcases hR' with e | ⟨x, r, e, hx⟩
      · rw [e] at h
        cases h
      · rw [e] at h
        cases h
        exact f z List.mem_cons_self hx
    | cons y ys =>
      have h1 : z = y := (List.cons.inj h).1
      obtain ⟨a, b⟩ := ih (ws' := ys) (List.cons.inj h).2 (fun x hx => f x (List.mem_cons_of_mem _ hx)) (fun x hx => f' x (List.mem_cons_of_mem _ hx))
      exact ⟨by rw [h1, a], b⟩
/-- changes are told by what they do to words that are all different -/
theorem apC_inj : ∀ (n : Nat) {l : List Str} {C C' : List Ed} {s : Nat}, l.length = n → Apt false s C → Apt false s C' → endC s C ≤ s + l.length → endC s C' ≤ s + l.length → l.Nodup → Free C l → Free C' l → apC C s l = apC C' s l → C = C' := by
  intro n
  induction n using Nat.strongRecOn with
  | ind n ih =>
    intro l C C' s hn hA hA' hE hE' hd hf hf' h
    -- a change that begins here
    have here : ∀ {C : List Ed}, Apt false s C → (∃ e D, C = e :: D ∧ e.a = s ∧ s ≤ e.b ∧ (s < e.b ∨ e.ws ≠ []) ∧ Apt true e.b D) ∨ Apt true s C := fun {C} hA => by
      cases hA with
      | nil => exact .inr .nil
      | @cons _ _ e D h1 h2 h3 h4 h5 =>
        by_cases z : e.a = s
        · exact .inl ⟨e, D, rfl, z, by omega, by rw [← z]; exact h4, h5⟩
        · exact .inr (.cons h1 (fun _ => by omega) h3 h4 h5)
    have start : ∀ {e : Ed} {D : List Ed}, e.a = s → apC (e :: D) s l = e.ws ++ apC D e.b (l.drop (e.b - s)) := fun {e D} z => by
      show l.take (e.a - s) ++ _ = _
      rw [z, Nat.sub_self, List.take_zero, List.nil_append]
    have tightR : ∀ {e : Ed} {D : List Ed}, Apt true e.b D → s ≤ e.b → endC e.b D ≤ s + l.length → (apC D e.b (l.drop (e.b - s)) = [] ∨ ∃ x r, apC D e.b (l.drop (e.b - s)) = x :: r ∧ x ∈ l) := fun {e D} h5 hb hE => by
      have hz := h5.le_end
      rcases apC_tight (l := l.drop (e.b - s)) h5 (by rw [List.length_drop]; omega) with ⟨_, _, z⟩ | ⟨x, l', e1, e2⟩
      · exact .inl z
      · exact .inr ⟨x, _, e2, List.mem_of_mem_drop (by rw [e1]; exact List.mem_cons_self)⟩
    -- one begins here, the other does not
    have half : ∀ {C C' : List Ed}, apC C s l = apC C' s l → Free C l → endC s C ≤ s + l.length → endC s C' ≤ s + l.length → (∃ e D, C = e :: D ∧ e.a = s ∧ s ≤ e.b ∧ (s < e.b ∨ e.ws ≠ []) ∧ Apt true e.b D) → Apt true s C' → False := fun {C C'} h hf hE hE' hC hC' => by
      obtain ⟨e, D, rfl, ea, hb, hne, h5⟩ := hC
      rw [start ea] at h
      rcases apC_tight hC' hE' with ⟨l0, _, e2⟩ | ⟨x, l', e1, e2⟩
      · rw [e2] at h
        have hz := h5.le_end
        rw [endC_cons] at hE
        rw [l0] at hE
        simp at hE
        have : e.b = s := by omega
        rcases hne with z | z
        · omega
        · exact z (List.append_eq_nil_iff.mp h).1
      · rw [e2] at h
        have hx : x ∈ l := by rw [e1]; exact List.mem_cons_self
        cases hw : e.ws with
        | cons y ys =>
          rw [hw] at h
          have : y = x := (List.cons.inj h).1
          exact hf e List.mem_cons_self y (by rw [hw]; exact List.mem_cons_self) (by rw [this]; exact hx)
        | nil =>
          rw [hw, List.nil_append] at h
          have hlt : s < e.b := hne.resolve_right fun z => z hw
          have hm : x ∈ apC D e.b (l.drop (e.b - s)) := by rw [h]; exact List.mem_cons_self
          rcases apC_mem hm with z | ⟨e', h1, h2⟩
          · rw [e1, show e.b - s = (e.b - s - 1) + 1 from by omega] at z
            rw [e1] at hd
            exact (List.nodup_cons.mp hd).1 (List.mem_of_mem_drop (by simpa using z))
          · exact hf e' (List.mem_cons_of_mem _ h1) x h2 hx
    rcases here hA with hC | hC
    · rcases here hA' with hC' | hC'
      · obtain ⟨e, D, rfl, ea, hb, hne, h5⟩ := hC
        obtain ⟨e', D', rfl, ea', hb', hne', h5'⟩ := hC'
        rw [start ea, start ea'] at h
        rw [endC_cons] at hE hE'
        obtain ⟨hw, hR⟩ := split_free h (hf e List.mem_cons_self) (hf' e' List.mem_cons_self) (tightR h5 hb hE) (tightR h5' hb' hE')
        have z1 := h5.le_end
        have z2 := h5'.le_end
        have hbb : e.b = e'.b := by
          rcases apC_tight (l := l.drop (e.b - s)) h5 (by rw [List.length_drop]; omega) with ⟨l0, _, e2⟩ | ⟨x, l', e1, e2⟩
          · rcases apC_tight (l := l.drop (e'.b - s)) h5' (by rw [List.length_drop]; omega) with ⟨l0', _, e2'⟩ | ⟨x', l1', e1', e2'⟩
            · have a1 := congrArg List.length l0
              have a2 := congrArg List.length l0'
              rw [List.length_drop, List.length_nil] at a1 a2
              omega
            · rw [e2, e2'] at hR
              cases hR
          · rcases apC_tight (l := l.drop (e'.b - s)) h5' (by rw [List.length_drop]; omega) with ⟨l0', _, e2'⟩ | ⟨x', l1', e1', e2'⟩
            · rw [e2, e2'] at hR
              cases hR
            · rw [e2, e2'] at hR
              have ex : x = x' := (List.cons.inj hR).1
              have g1 : l[e.b - s]? = some x := by
                have := congrArg (fun q => q[0]?) e1
                simpa using this
              have g2 : l[e'.b - s]? = some x := by
                have := congrArg (fun q => q[0]?) e1'
                rw [ex]
                simpa using this
              have i1 : e.b - s < l.length := by
                have := congrArg List.length e1
                rw [List.length_drop] at this
                simp at this
                omega
              have i2 : e'.b - s < l.length := by
                have := congrArg List.length e1'
                rw [List.length_drop] at this
                simp at this
                omega
              rw [List.getElem?_eq_getElem i1] at g1
              rw [List.getElem?_eq_getElem i2] at g2
              have := (List.getElem_inj hd).mp ((Option.some.inj g1).trans (Option.some.inj g2).symm)
              omega
        have he : e = e' := by
          obtain ⟨a1, b1, w1⟩ := e
          obtain ⟨a2, b2, w2⟩ := e'
          simp only at ea ea' hw hbb
          subst ea
          rw [← ea', hw, hbb]
        subst he
        congr 1
        rcases apC_tight (l := l.drop (e.b - s)) h5 (by rw [List.length_drop]; omega) with ⟨l0, c0, _⟩ | ⟨x, l', e1, e2⟩
        · rcases apC_tight (l := l.drop (e.b - s)) h5' (by rw [List.length_drop]; omega) with ⟨_, c0', _⟩ | ⟨x', l1', e1', _⟩
          · rw [c0, c0']
          · rw [l0] at e1'
            cases e1'
        · rw [e1, apC_next h5, apC_next h5'] at hR
          have hl' : l'.length < n := by
            have := congrArg List.length e1
            rw [List.length_drop] at this
            simp at this
            omega
          have hsub : ∀ y ∈ l', y ∈ l := fun y hy => List.mem_of_mem_drop (by rw [e1]; exact List.mem_cons_of_mem _ hy)
          have hle : e.b + 1 + l'.length = s + l.length := by
            have := congrArg List.length e1
            rw [List.length_drop] at this
            simp at this
            omega
          have hnd : l'.Nodup := by
            have := List.Nodup.sublist (List.drop_sublist (e.b - s) l) hd
            rw [e1] at this
            exact (List.nodup_cons.mp this).2
          have en : ∀ {D : List Ed}, Apt true e.b D → endC e.b D ≤ s + l.length → endC (e.b + 1) D ≤ e.b + 1 + l'.length := fun {D} hD hq => by
            cases D with
            | nil => exact Nat.le_add_right _ _
            | cons d D => rw [hle]; exact hq
          exact ih l'.length hl' rfl h5.next h5'.next (en h5 hE) (en h5' hE') hnd (hf.tail hsub) (hf'.tail hsub) (List.cons.inj hR).2
      · exact (half h hf hE hE' hC hC').elim
    · rcases here hA' with hC' | hC'
      · exact (half h.symm hf' hE' hE hC' hC).elim
      · rcases apC_tight hC hE with ⟨l0, c0, _⟩ | ⟨x, l', e1, e2⟩
        · rcases apC_tight hC' hE' with ⟨_, c0', _⟩ | ⟨x', l1', e1', _⟩
          · rw [c0, c0']
          · rw [l0] at e1'
            cases e1'
        · subst e1
          rw [apC_next hC, apC_next hC'] at h
          have en : ∀ {D : List Ed}, endC s D ≤ s + (x :: l').length → endC (s + 1) D ≤ s + 1 + l'.length := fun {D} hq => by
            cases D with
            | nil => exact Nat.le_add_right _ _
            | cons d D =>
              have : endC s (d :: D) ≤ s + (x :: l').length := hq
              rw [endC_cons] at this ⊢
              simp at this
              omega
          exact ih l'.length (by rw [← hn]; simp) rfl hC.next hC'.next (en hE) (en hE') (List.nodup_cons.mp hd).2 (hf.sub fun y hy => List.mem_cons_of_mem _ hy) (hf'.sub fun y hy => List.mem_cons_of_mem _ hy) (List.cons.inj h).2
end P5

end
section
set_option Elab.async false
set_option linter.all false
set_option maxRecDepth 100000
set_option maxHeartbeats 4000000
namespace P5
open PySem PySem.Spec PyProof.Rows L2
/-! ### how many changes there are is told by the places of what stands behind them -/
/-- the places from one on, so many -/
def plR : Nat → Nat → List Int
  | _, 0 => []
  | s, r + 1 => (s : Int) :: plR (s + 1) r
def plC : List Ed → Nat → Nat → List Int
  | [], s, r => plR s r
  | e :: C, s, r => plR s (e.a - s) ++ (List.replicate e.ws.length (-1) ++ plC C e.b (r - (e.b - s)))
/-- the gaps: what comes behind a kept place (the next one is due), or behind what was put in -/
def cnt : Option Nat → List Int → Nat
  | _, [] => 0
  | some E, p :: r => if p < 0 then 1 + cnt none r else (if p = (E : Int) then 0 else 1) + cnt (some (p.toNat + 1)) r
  | none, p :: r => if p < 0 then cnt none r else cnt (some (p.toNat + 1)) r
theorem cnt_range : ∀ (k s : Nat) (L : List Int), cnt (some s) (plR s k ++ L) = cnt (some (s + k)) L
  | 0, s, L => rfl
  | k + 1, s, L => by
    show cnt (some s) ((s : Int) :: (plR (s + 1) k ++ L)) = _
    rw [cnt, if_neg (by omega), if_pos rfl, Int.toNat_natCast, Nat.zero_add, cnt_range k (s + 1) L, show s + 1 + k = s + (k + 1) from by omega]
theorem cnt_put : ∀ (k : Nat) (L : List Int), cnt none (List.replicate k (-1) ++ L) = cnt none L
  | 0, L => rfl
  | k + 1, L => by
    show cnt none ((-1 : Int) :: (List.replicate k (-1) ++ L)) = _
    rw [cnt]
    rw [if_pos (by decide), cnt_put k L]
theorem plC_next {C : List Ed} {s r : Nat} (h : Apt true s C) : plC C s (r + 1) = (s : Int) :: plC C (s + 1) r := by
  cases h with
  | nil => rfl
  | @cons _ _ e C h1 h2 h3 h4 h5 =>
    have := h2 rfl
    show plR s (e.a - s) ++ (List.replicate e.ws.length (-1) ++ plC C e.b (r + 1 - (e.b - s))) = (s : Int) :: (plR (s + 1) (e.a - (s + 1)) ++ (List.replicate e.ws.length (-1) ++ plC C e.b (r - (e.b - (s + 1)))))
    rw [show e.a - s = (e.a - (s + 1)) + 1 from by omega, show r + 1 - (e.b - s) = r - (e.b - (s + 1)) from by omega]
    rfl
theorem cnt_C : ∀ {C : List Ed} {s r : Nat}, Apt false s C → (C = [] ∨ endC s C < s + r) → cnt (some s) (plC C s r) = C.length
  | [], s, r, _, _ => by
    have z := cnt_range r s []
    rw [List.append_nil] at z
    show cnt (some s) (plR s r) = 0
    rw [z]
    rfl
  | e :: C, s, r, .cons h1 _ h3 h4 h5, hE => by
    have hE' : endC e.b C < s + r := hE.resolve_left (fun z => nomatch z)
    have hz := h5.le_end
    show cnt (some s) (plR s (e.a - s) ++ (List.replicate e.ws.length (-1) ++ plC C e.b (r - (e.b - s)))) = C.length + 1
    rw [cnt_range, show s + (e.a - s) = e.a from by omega]
    obtain ⟨r', hr⟩ : ∃ r', r - (e.b - s) = r' + 1 := ⟨r - (e.b - s) - 1, by omega⟩
    rw [hr, plC_next h5]
    have ih := cnt_C (r := r') h5.next (by
      cases C with
      | nil => exact .inl rfl
      | cons d D => exact .inr (by rw [endC_cons] at hE' ⊢; omega))
    cases hw : e.ws with
    | cons y ys =>
      show cnt (some e.a) ((-1 : Int) :: (List.replicate ys.length (-1) ++ ((e.b : Int) :: plC C (e.b + 1) r'))) = _
      rw [cnt, if_pos (by decide), cnt_put, cnt, if_neg (by omega), Int.toNat_natCast, ih]
      omega
    | nil =>
      have hlt : e.a < e.b := h4.resolve_right fun z => z hw
      show cnt (some e.a) ((e.b : Int) :: plC C (e.b + 1) r') = _
      rw [cnt, if_neg (by omega), if_neg (by omega), Int.toNat_natCast, ih]
      omega
/-- where a word stands among others, or -1 -/
def plW (M : List Str) (x : Str) : Int := if x ∈ M then (M.idxOf x : Int) else -1
theorem idx_at {M : List Str} (hd : M.Nodup) {i : Nat} {x : Str} (h : M[i]? = some x) : plW M x = i := by
  have hi : i < M.length := by
    by_cases z : i < M.length
    · exact z
    · rw [List.getElem?_eq_none (by omega)] at h
      cases h
  have hx : x ∈ M := List.mem_of_getElem? h
  unfold plW
  rw [if_pos hx]
  have h1 : M.idxOf x < M.length := List.idxOf_lt_length_iff.mpr hx
  have h2 : M[M.idxOf x] = x := by simp
  rw [List.getElem?_eq_getElem hi] at h
  have := (List.getElem_inj hd (h₀ := h1) (h₁ := hi)).mp (h2.trans (Option.some.inj h).symm)
  omega
theorem plW_take {M : List Str} (hd : M.Nodup) : ∀ (k s : Nat), s + k ≤ M.length → ((M.drop s).take k).map (plW M) = plR s k
  | 0, s, _ => rfl
  | k + 1, s, h => by
    have hs : s < M.length := by omega
    rw [List.drop_eq_getElem_cons hs, List.take_succ_cons, List.map_cons, plW_take hd k (s + 1) (by omega), idx_at hd (List.getElem?_eq_getElem hs)]
    rfl
theorem plW_put {M ws : List Str} (h : ∀ x ∈ ws, x ∉ M) : ws.map (plW M) = List.replicate ws.length (-1) := by
  rw [List.eq_replicate_iff]
  refine ⟨List.length_map .., fun b hb => ?_⟩
  obtain ⟨x, hx, e⟩ := List.mem_map.mp hb
  rw [← e]
  exact if_neg (h x hx)
theorem plW_C {M : List Str} (hd : M.Nodup) : ∀ {C : List Ed} {t : Bool} {s : Nat}, Apt t s C → endC s C ≤ M.length → s ≤ M.length → Free C M → (apC C s (M.drop s)).map (plW M) = plC C s (M.length - s)
  | [], _, s, _, _, hs, _ => by
    have z := plW_take hd (M.length - s) s (by omega)
    rw [List.take_of_length_le (by rw [List.length_drop]; omega)] at z
    exact z
  | e :: C, _, s, .cons h1 _ h3 h4 h5, hE, hs, hf => by
    have hz := h5.le_end
    rw [endC_cons] at hE
    show ((M.drop s).take (e.a - s) ++ (e.ws ++ apC C e.b ((M.drop s).drop (e.b - s)))).map (plW M) = _
    rw [List.map_append, List.map_append, plW_take hd _ _ (by omega), plW_put (hf e List.mem_cons_self), List.drop_drop, show s + (e.b - s) = e.b from by omega,
      plW_C hd h5 hE (by omega) (fun e' he => hf e' (List.mem_cons_of_mem _ he))]
    show _ = plR s (e.a - s) ++ (List.replicate e.ws.length (-1) ++ plC C e.b (M.length - s - (e.b - s)))
    rw [show M.length - s - (e.b - s) = M.length - e.b from by omega]
end P5

end
section
set_option Elab.async false
set_option linter.all false
set_option maxRecDepth 100000
set_option maxHeartbeats 4000000
namespace P5
open PySem PySem.Spec PyProof.Rows L2
/-! ### rows of edits in the heap -/
def EdsH (K : PySem.W.Frag) (CE : Addr) (H : Hp) : List Addr → List Ed → Prop
  | [], [] => True
  | c :: cs, e :: es => EdH K CE H c e ∧ EdsH K CE H cs es
  | _, _ => False
theorem EdsH.imp {K : PySem.W.Frag} {CE : Addr} {H H' : Hp} (f : ∀ c e, EdH K CE H c e → EdH K CE H' c e) : ∀ {cs : List Addr} {es : List Ed}, EdsH K CE H cs es → EdsH K CE H' cs es
  | [], [], _ => trivial
  | c :: cs, e :: es, h => ⟨f c e h.1, EdsH.imp f h.2⟩
  | [], e :: es, h => h.elim
  | c :: cs, [], h => h.elim
theorem EdsH.len {K : PySem.W.Frag} {CE : Addr} {H : Hp} : ∀ {cs : List Addr} {es : List Ed}, EdsH K CE H cs es → cs.length = es.length
  | [], [], _ => rfl
  | c :: cs, e :: es, h => congrArg (· + 1) (EdsH.len h.2)
  | [], e :: es, h => h.elim
  | c :: cs, [], h => h.elim
theorem EdsH.get {K : PySem.W.Frag} {CE : Addr} {H : Hp} : ∀ {cs : List Addr} {es : List Ed} {i : Nat} {c : Addr}, EdsH K CE H cs es → cs[i]? = some c → ∃ e, es[i]? = some e ∧ EdH K CE H c e
  | c :: cs, e :: es, 0, _, h, q => by
    cases q
    exact ⟨e, rfl, h.1⟩
  | c :: cs, e :: es, i + 1, c', h, q => by
    obtain ⟨e', h1, h2⟩ := EdsH.get (i := i) h.2 (by simpa using q)
    exact ⟨e', by simpa using h1, h2⟩
  | [], [], i, _, _, q => by simp at q
  | [], e :: es, _, _, h, _ => h.elim
  | c :: cs, [], _, _, h, _ => h.elim
theorem EdsH.snoc {K : PySem.W.Frag} {CE : Addr} {H : Hp} {c : Addr} {e : Ed} (hc : EdH K CE H c e) : ∀ {cs : List Addr} {es : List Ed}, EdsH K CE H cs es → EdsH K CE H (cs ++ [c]) (es ++ [e])
  | [], [], _ => ⟨hc, trivial⟩
  | a :: cs, b :: es, h => ⟨h.1, EdsH.snoc hc h.2⟩
  | [], b :: es, h => h.elim
  | a :: cs, [], h => h.elim
/-- how many words there are behind edits -/
def siz : List Ed → Nat → Nat
  | [], n => n
  | e :: es, n => siz es (n + e.ws.length - (e.b - e.a))
/-- whether edits can be done on so many words -/
def Fits : List Ed → Nat → Prop
  | [], _ => True
  | e :: es, n => e.b ≤ n ∧ Fits es (n + e.ws.length - (e.b - e.a))
theorem Fits.snoc : ∀ {es : List Ed} {n : Nat} {e : Ed}, Fits es n → e.b ≤ siz es n → Fits (es ++ [e]) n
  | [], n, e, _, h => ⟨h, trivial⟩
  | d :: es, n, e, h, q => ⟨h.1, h.2.snoc q⟩
theorem siz_snoc : ∀ (es : List Ed) (n : Nat) (e : Ed), siz (es ++ [e]) n = siz es n + e.ws.length - (e.b - e.a)
  | [], n, e => rfl
  | d :: es, n, e => siz_snoc es _ e
theorem done_snoc (es : List Ed) (e : Ed) (l : List Str) : done (es ++ [e]) l = app e (done es l) := by
  unfold done
  rw [List.foldl_append]
  rfl
theorem app_len {e : Ed} {l : List Str} (h : e.b ≤ l.length) (h2 : e.a ≤ e.b) : (app e l).length + e.b = l.length + e.a + e.ws.length := by
  unfold app
  rw [List.length_append, List.length_append, List.length_take, List.length_drop]
  omega
theorem app_mrk {e : Ed} {l : List Str} (h1 : ∀ x ∈ e.ws, x ∈ MRK) (h2 : ∀ x ∈ l, x ∈ MRK) : ∀ x ∈ app e l, x ∈ MRK := fun x hx => by
  unfold app at hx
  rcases List.mem_append.mp hx with h | h
  · rcases List.mem_append.mp h with h | h
    · exact h2 x (List.mem_of_mem_take h)
    · exact h1 x h
  · exact h2 x (List.mem_of_mem_drop h)
theorem app_siz {e : Ed} {l : List Str} (h : e.b ≤ l.length) (h2 : e.a ≤ e.b) : (app e l).length = l.length + e.ws.length - (e.b - e.a) := by
  have := app_len h h2
  omega
theorem refs_nd {cs : List Addr} : ∀ (sa : Addr) (n : Int), HO.lst (cs.map V.ref) ≠ .lst [.ref sa, .int 0, .int n] := fun sa n z => by
  cases cs with
  | nil => cases z
  | cons c r =>
    cases r with
    | nil => cases z
    | cons => cases z
theorem SqT.put {K : PySem.W.Frag} {H : Hp} {p a : Addr} {ys zs xs : List V} (hp : H p = some (.lst ys)) (h : SqT K H a xs) : SqT K (upd H p (.lst zs)) a xs := by
  rcases h with (h | ⟨o, h⟩) | h
  · exact .inl (.inl (by rw [upd_ne (fun e => by rw [e, hp] at h; cases h)]; exact h))
  · exact .inl (.inr ⟨o, by rw [upd_ne (fun e => by rw [e, hp] at h; cases h)]; exact h⟩)
  · exact .inr h
theorem EdH.put {K : PySem.W.Frag} {CE p q : Addr} {H : Hp} {e : Ed} {ys zs : List V} (hp : H p = some (.lst ys)) (h : EdH K CE H q e) : EdH K CE (upd H p (.lst zs)) q e := by
  obtain ⟨dx, t, h1, h2, h3⟩ := h
  exact ⟨dx, t, by rw [upd_ne (fun z => by rw [z, hp] at h1; cases h1)]; exact h1, SqT.put hp h2, h3⟩
theorem LsH.put {p l : Addr} {H : Hp} {ws : List Str} {o : HO} (hn : l ≠ p) (h : LsH H l ws) : LsH (upd H p o) l ws := ⟨by rw [upd_ne hn]; exact h.at_, h.mrk, h.sm⟩
/-- a method of edits -/
structure Mth (P : Program) (w : World) (K : PySem.W.Frag) (mg : Str → Option Value) (base : Heap) (CE : Addr) (m : Str) (ps : List Str) (sp : Sp) : Prop where
  ex : ∃ f fd, Meth K CE m f ∧ FnOk P w K mg base CX0 1 f fd ps sp ∧ L2.Binds K fd ps []
/-- few words in each -/
def Few (es : List Ed) : Prop := ∀ e ∈ es, e.ws.length ≤ 2 ∧ ∀ x ∈ e.ws, x ∈ PK6
section
variable {P : Program} {w : World} {K : PySem.W.Frag} {mg : Str → Option Value} {base : Heap} {aN aS CE : Addr}
abbrev sLEs : Stmt := tp 40
abbrev NEs : List Str := ["draw", "many", "turns", "found", "turn", "edit"]
def spLEs (K : PySem.W.Frag) (CE : Addr) : Sp := fun vs H Q _ => ∃ (d sa : Addr) (n k : Nat), vs = [.ref d, .int n, .int k] ∧ DrwS H d sa ∧ n ≤ 40 ∧ k ≤ 10 ∧
  ∀ H' l cs es, Aft H H' d → DrwS H' d sa → H l = none → l ≠ d → l ≠ sa → H' l = some (.lst (cs.map V.ref)) → EdsH K CE H' cs es → es.length = k → Fits es n → Few es → siz es n ≤ n + 2 * k → Q (.ref l) H'
end
end P5

end
section
set_option Elab.async false
set_option linter.all false
set_option maxRecDepth 100000
set_option maxHeartbeats 4000000
namespace P5
open PySem PySem.Spec PyProof.Rows L2
theorem LsH.same2 {H H' : Hp} {l : Addr} {ws : List Str} (s : Same H H') (h : LsH H l ws) : LsH H' l ws := h.same s
theorem few_tail {e : Ed} {es : List Ed} (h : Few (e :: es)) : Few es := fun x hx => h x (List.mem_cons_of_mem _ hx)
section
variable {P : Program} {w : World} {K : PySem.W.Frag} {mg : Str → Option Value} {base : Heap} {aN aS CE : Addr}
abbrev sDn : Stmt := tp 41
abbrev NDn : List Str := ["edits", "words", "late", "edit"]
def spDn (K : PySem.W.Frag) (CE : Addr) : Sp := fun vs H Q _ => ∃ (le lw : Addr) (cs : List Addr) (es : List Ed) (ws : List Str), vs = [.ref le, .ref lw] ∧ SqL K H le (cs.map V.ref) ∧ EdsH K CE H cs es ∧ WsL K H lw ws ∧ Fits es ws.length ∧ Few es ∧ ws.length ≤ 100 ∧ es.length ≤ 20 ∧
  ∀ H' l, Same H H' → H l = none → LsH H' l (done es ws) → (done es ws).length ≤ ws.length + 2 * es.length → Q (.ref l) H'
/-! ### the least number -/
def fitB : List Ed → Int → Bool
  | [], _ => true
  | e :: es, n => decide ((e.b : Int) ≤ n) && fitB es (n + grow e)
theorem fitB_iff : ∀ {es : List Ed} {n : Nat}, (∀ e ∈ es, e.a ≤ e.b) → (fitB es n = true ↔ Fits es n)
  | [], n, _ => ⟨fun _ => trivial, fun _ => rfl⟩
  | e :: es, n, h => by
    have hle := h e List.mem_cons_self
    unfold fitB Fits
    rw [Bool.and_eq_true, decide_eq_true_eq]
    constructor
    · rintro ⟨h1, h2⟩
      have h1' : e.b ≤ n := by omega
      refine ⟨h1', (fitB_iff fun x hx => h x (List.mem_cons_of_mem _ hx)).mp ?_⟩
      rw [show ((n + e.ws.length - (e.b - e.a) : Nat) : Int) = (n : Int) + grow e from by show _ = (n : Int) + ((e.ws.length : Int) - ((e.b : Int) - (e.a : Int))); omega]
      exact h2
    · rintro ⟨h1, h2⟩
      refine ⟨by omega, ?_⟩
      have := (fitB_iff fun x hx => h x (List.mem_cons_of_mem _ hx)).mpr h2
      rw [show ((n + e.ws.length - (e.b - e.a) : Nat) : Int) = (n : Int) + grow e from by show _ = (n : Int) + ((e.ws.length : Int) - ((e.b : Int) - (e.a : Int))); omega] at this
      exact this
abbrev sLst : Stmt := tp 43
abbrev NLs : List Str := ["edits", "many", "now", "is_good", "edit"]
/-- the least number of words for which edits can be done -/
def Lst (es : List Ed) (m : Nat) : Prop := Fits es m ∧ ∀ n, Fits es n → m ≤ n
def spLst (K : PySem.W.Frag) (CE : Addr) : Sp := fun vs H Q _ => ∃ (le : Addr) (cs : List Addr) (es : List Ed) (n0 : Nat), vs = [.ref le] ∧ SqL K H le (cs.map V.ref) ∧ EdsH K CE H cs es ∧ Fits es n0 ∧ n0 < 60 ∧ ∀ m : Nat, Lst es m → Q (.int m) H
end
end P5

end
section
set_option Elab.async false
set_option linter.all false
set_option maxRecDepth 100000
set_option maxHeartbeats 4000000
namespace P5
open PySem PySem.Spec PyProof.Rows L2
/-! ### words that are all different -/
def LET : Str := "defghijklmnopqrstuvwxyz"
def mkw (i : Nat) : Str := (⟨#[LET.cps.toList.getD i 0]⟩ : Str) ++ ("q" : Str)
def MKS (n : Nat) : List Str := (List.range n).map mkw
theorem mkw_at {i : Nat} (h : i < 20) : LET.cps.toList[i]? = some (LET.cps.toList.getD i 0) := by
  have z : ∀ j : Fin 20, LET.cps.toList[j.val]? = some (LET.cps.toList.getD j.val 0) := by decide +kernel
  exact z ⟨i, h⟩
theorem mkw_mrk {i : Nat} (h : i < 20) : mkw i ∈ MRK := by
  have z : ∀ j : Fin 20, (markB (mkw j.val) && decide ((mkw j.val).length ≤ 20) && PyData.strOk (mkw j.val)) = true := by decide +kernel
  exact mrk_of (z ⟨i, h⟩)
theorem mkw_not {i : Nat} (h : i < 20) : mkw i ∉ PK6 := by
  have z : ∀ j : Fin 20, mkw j.val ∉ PK6 := by decide +kernel
  exact z ⟨i, h⟩
theorem mkw_ne {i j : Nat} (hi : i < 20) (hj : j < 20) (e : mkw i = mkw j) : i = j := by
  have z : ∀ a b : Fin 20, mkw a.val = mkw b.val → a = b := by decide +kernel
  have := z ⟨i, hi⟩ ⟨j, hj⟩ e
  exact congrArg Fin.val this
theorem MKS_len (n : Nat) : (MKS n).length = n := by rw [MKS, List.length_map, List.length_range]
theorem MKS_mem {n : Nat} {x : Str} (h : x ∈ MKS n) : ∃ i, i < n ∧ x = mkw i := by
  obtain ⟨i, hi, e⟩ := List.mem_map.mp h
  exact ⟨i, List.mem_range.mp hi, e.symm⟩
theorem MKS_mrk {n : Nat} (hn : n ≤ 20) : ∀ x ∈ MKS n, x ∈ MRK := fun x hx => by
  obtain ⟨i, hi, rfl⟩ := MKS_mem hx
  exact mkw_mrk (by omega)
theorem MKS_not {n : Nat} (hn : n ≤ 20) : ∀ x ∈ MKS n, x ∉ PK6 := fun x hx => by
  obtain ⟨i, hi, rfl⟩ := MKS_mem hx
  exact mkw_not (by omega)
theorem MKS_nodup {n : Nat} (hn : n ≤ 20) : (MKS n).Nodup := by
  show List.Pairwise _ ((List.range n).map mkw)
  rw [List.pairwise_map]
  exact List.Pairwise.imp_of_mem (fun {a b} ha hb hab e => hab (mkw_ne (by have := List.mem_range.mp ha; omega) (by have := List.mem_range.mp hb; omega) e)) (List.nodup_range (n := n))
section
variable {X : Cx}
/-- a text times an int -/
theorem op_mulS : OpR X (binaryOp .Mult) (fun x y H Q => ∃ (z : Str) (i : Int), x = .str z ∧ y = .int i ∧ MulOk z i ∧ Q (.str (Txt.mul z i)) H) := by
  intro pins s σ H x y v u Q I rx ry h
  obtain ⟨z, i, rfl, rfl, hm, q⟩ := h
  obtain ⟨t, rfl⟩ : ∃ t, v = Value.str z t := rx
  obtain ⟨t', rfl⟩ : ∃ t, u = Value.int i t := ry
  exact SB.mul hm fun t2 k => ⟨.str (Txt.mul z i), H, I.tok _, ⟨_, rfl⟩, q⟩
end
section
variable {P : Program} {w : World} {K : PySem.W.Frag} {mg : Str → Option Value} {base : Heap} {aN aS CE : Addr}
abbrev sMks : Stmt := tp 42
abbrev NMk : List Str := ["many", "letters", "at"]
def spMks : Sp := fun vs H Q _ => ∃ (n : Nat), vs = [.int n] ∧ n ≤ 20 ∧ ∀ H' l, Same H H' → H l = none → LsH H' l (MKS n) → Q (.ref l) H'
end
end P5

end
section
set_option Elab.async false
set_option linter.all false
set_option maxRecDepth 100000
set_option maxHeartbeats 4000000
namespace P5
open PySem PySem.Spec PySem.SeqAt PyProof.Rows L2
instance : DecidableEq Ed := fun e f => decidable_of_iff (e.a = f.a ∧ e.b = f.b ∧ e.ws = f.ws) ⟨fun h => by
  obtain ⟨a, b, ws⟩ := e
  obtain ⟨a', b', ws'⟩ := f
  obtain ⟨h1, h2, h3⟩ := h
  simp only at h1 h2 h3
  rw [h1, h2, h3], fun h => by subst h; exact ⟨rfl, rfl, rfl⟩⟩
/-! ### patches in the heap -/
/-- a change: two places, and a tuple of words -/
def ChV (K : PySem.W.Frag) (H : Hp) (v : V) (e : Ed) : Prop := ∃ a t, v = .ref a ∧ SqT K H a [.int e.a, .int e.b, .ref t] ∧ SqT K H t (e.ws.map V.str)
def ChsV (K : PySem.W.Frag) (H : Hp) : List V → List Ed → Prop
  | [], [] => True
  | v :: vs, e :: es => ChV K H v e ∧ ChsV K H vs es
  | _, _ => False
theorem ChV.imp {K : PySem.W.Frag} {H H' : Hp} {v : V} {e : Ed} (f : ∀ a xs, SqT K H a xs → SqT K H' a xs) (h : ChV K H v e) : ChV K H' v e := by
  obtain ⟨a, t, h1, h2, h3⟩ := h
  exact ⟨a, t, h1, f _ _ h2, f _ _ h3⟩
theorem ChsV.imp {K : PySem.W.Frag} {H H' : Hp} (f : ∀ a xs, SqT K H a xs → SqT K H' a xs) : ∀ {vs : List V} {es : List Ed}, ChsV K H vs es → ChsV K H' vs es
  | [], [], _ => trivial
  | v :: vs, e :: es, h => ⟨h.1.imp f, ChsV.imp f h.2⟩
  | [], e :: es, h => h.elim
  | v :: vs, [], h => h.elim
theorem ChsV.len {K : PySem.W.Frag} {H : Hp} : ∀ {vs : List V} {es : List Ed}, ChsV K H vs es → vs.length = es.length
  | [], [], _ => rfl
  | v :: vs, e :: es, h => congrArg (· + 1) (ChsV.len h.2)
  | [], e :: es, h => h.elim
  | v :: vs, [], h => h.elim
theorem ChsV.get {K : PySem.W.Frag} {H : Hp} : ∀ {vs : List V} {es : List Ed} {i : Nat} {v : V}, ChsV K H vs es → vs[i]? = some v → ∃ e, es[i]? = some e ∧ ChV K H v e
  | v :: vs, e :: es, 0, _, h, q => by
    cases q
    exact ⟨e, rfl, h.1⟩
  | v :: vs, e :: es, i + 1, v', h, q => by
    obtain ⟨e', h1, h2⟩ := ChsV.get (i := i) h.2 (by simpa using q)
    exact ⟨e', by simpa using h1, h2⟩
  | [], [], i, _, _, q => by simp at q
  | [], e :: es, _, _, h, _ => h.elim
  | v :: vs, [], _, _, h, _ => h.elim
/-- what a patch may be -/
structure PtOk (C : List Ed) (m : Nat) : Prop where
  apt : Apt false 0 C
  fin : endC 0 C ≤ m
  ok : ∀ e ∈ C, e.Ok
  sm : m ≤ 200
  few : C.length ≤ 200
/-- a patch's own attributes -/
def PtFs (t : Addr) (m : Nat) : List (Str × V) := [("changes", .ref t), ("least", .int m)]
def PtH (K : PySem.W.Frag) (CP : Addr) (H : Hp) (p : Addr) (C : List Ed) (m : Nat) : Prop := ∃ dx t vs, H p = some (.ins CP dx (PtFs t m)) ∧ SqT K H t vs ∧ ChsV K H vs C ∧ PtOk C m
theorem PtH.same {K : PySem.W.Frag} {CP p : Addr} {H H' : Hp} {C : List Ed} {m : Nat} (s : Same H H') (h : PtH K CP H p C m) : PtH K CP H' p C m := by
  obtain ⟨dx, t, vs, h1, h2, h3, h4⟩ := h
  exact ⟨dx, t, vs, s _ _ h1, Same.tup s h2, h3.imp fun _ _ q => Same.tup s q, h4⟩
theorem PtH.aft {K : PySem.W.Frag} {CP p d sa : Addr} {H H' : Hp} {C : List Ed} {m : Nat} (hd : DrwS H d sa) (s : Aft H H' d) (h : PtH K CP H p C m) : PtH K CP H' p C m := by
  obtain ⟨dx, t, vs, h1, h2, h3, h4⟩ := h
  exact ⟨dx, t, vs, s _ _ (hd.drw.ne h1 fun _ _ z => by cases z) h1, Aft.tup hd.drw s h2, h3.imp fun _ _ q => Aft.tup hd.drw s q, h4⟩
theorem PtH.ins {K : PySem.W.Frag} {CP p : Addr} {H : Hp} {C : List Ed} {m : Nat} (h : PtH K CP H p C m) : InsI H p CP := by
  obtain ⟨dx, t, vs, h1, _⟩ := h
  exact ⟨dx, _, h1⟩
theorem PtH.insC {X : Cx} {K : PySem.W.Frag} {CP p : Addr} {H : Hp} {C : List Ed} {m : Nat} (h : PtH K CP H p C m) : StX.InsC X H p CP := by
  obtain ⟨dx, t, vs, h1, _⟩ := h
  exact .inr ⟨dx, _, h1⟩
/-- the data of changes -/
def chD (e : Ed) : PyData := .tuple [.int e.a, .int e.b, .tuple (e.ws.map PyData.str)]
theorem dp_ch {K : PySem.W.Frag} {H : Hp} {v : V} {e : Ed} (h : ChV K H v e) : Dp K H v (chD e) := by
  obtain ⟨a, t, rfl, h2, h3⟩ := h
  exact .tup h2 (.cons (.int _) (.cons (.int _) (.cons (.tup h3 (dpAll_marks _)) .nil)))
theorem dp_chs {K : PySem.W.Frag} {H : Hp} : ∀ {vs : List V} {es : List Ed}, ChsV K H vs es → DpAll K H vs (es.map chD)
  | [], [], _ => .nil
  | v :: vs, e :: es, h => .cons (dp_ch h.1) (dp_chs h.2)
  | [], e :: es, h => h.elim
  | v :: vs, [], h => h.elim
theorem eqv_ch (e f : Ed) : PyData.eqv (chD e) (chD f) = decide (e = f) := by
  show ((decide ((e.a : Int) = (f.a : Int))) && ((decide ((e.b : Int) = (f.b : Int))) && (PyData.eqvAll (e.ws.map PyData.str) (f.ws.map PyData.str) && true))) = decide (e = f)
  rw [eqvAll_marks, Bool.and_true]
  obtain ⟨a, b, ws⟩ := e
  obtain ⟨a', b', ws'⟩ := f
  by_cases h1 : a = a'
  · by_cases h2 : b = b'
    · by_cases h3 : ws = ws'
      · subst h1 h2 h3
        simp
      · simp [h1, h2, h3]
    · have : ¬ (b : Int) = (b' : Int) := by omega
      simp [h1, h2, this]
  · have : ¬ (a : Int) = (a' : Int) := by omega
    simp [h1, this]
theorem eqv_chs : ∀ (C D : List Ed), PyData.eqvAll (C.map chD) (D.map chD) = decide (C = D)
  | [], [] => rfl
  | [], y :: D => rfl
  | x :: C, [] => rfl
  | x :: C, y :: D => by
    show (PyData.eqv (chD x) (chD y) && PyData.eqvAll (C.map chD) (D.map chD)) = decide (x :: C = y :: D)
    rw [eqv_ch, eqv_chs C D]
    by_cases h : x = y
    · by_cases h2 : C = D
      · simp [h, h2]
      · simp [h, h2]
    · simp [h]
theorem lay_chs {C : List Ed} (h : ∀ e ∈ C, e.Ok) : PyData.canLayAll0 (C.map chD) = true := lay_mem fun d hd => by
  obtain ⟨e, he, rfl⟩ := List.mem_map.mp hd
  simp only [chD, PyData.canLay0, PyData.canLayAll0, lay_marks (h e he).mrk, Bool.and_true, Bool.and_self]
theorem depth_chs (C : List Ed) : PyData.depthAll (C.map chD) ≤ 2 := depth_mem fun d hd => by
  obtain ⟨e, he, rfl⟩ := List.mem_map.mp hd
  have := depth_marks e.ws
  simp only [chD, PyData.depth, PyData.depthAll]
  omega
theorem shaped_chsL {C : List Ed} (h : ∀ e ∈ C, e.Ok) : shaped (.list (C.map chD)) = true := shaped_mk (by simp only [PyData.canLay0]; exact lay_chs h) (by simp only [PyData.depth]; have := depth_chs C; omega)
theorem shaped_chsT {C : List Ed} (h : ∀ e ∈ C, e.Ok) : shaped (.tuple (C.map chD)) = true := shaped_mk (by simp only [PyData.canLay0]; exact lay_chs h) (by simp only [PyData.depth]; have := depth_chs C; omega)
/-- how many more words there are behind changes -/
def growC (C : List Ed) : Int := (C.map grow).sum
/-- the patch that does what edits do -/
structure NF (es C : List Ed) (m : Nat) : Prop where
  lst : Lst es m
  run : ∀ l : List Str, m ≤ l.length → apC C 0 l = done es l
/-- how many words edits put in -/
def tot (es : List Ed) : Nat := (es.map fun e => e.ws.length).sum
section
variable {P : Program} {w : World} {K : PySem.W.Frag} {mg : Str → Option Value} {base : Heap} {CE CP CB : Addr}
/-- words as a list or a tuple -/
structure WsE (K : PySem.W.Frag) (H : Hp) (l : Addr) (ws : List Str) : Prop where
  at_ : SqE K H l (ws.map V.str)
  mrk : ∀ x ∈ ws, x ∈ MRK
  sm : ws.length ≤ 200
theorem WsE.same {H H' : Hp} {l : Addr} {ws : List Str} (s : Same H H') (h : WsE K H l ws) : WsE K H' l ws := ⟨h.at_.same s, h.mrk, h.sm⟩
theorem LsH.wse {H : Hp} {l : Addr} {ws : List Str} (h : LsH H l ws) : WsE K H l ws := ⟨.inl (SqL.of h.at_), h.mrk, h.sm⟩
def spPatch (K : PySem.W.Frag) (CE CP : Addr) : Sp := fun vs H Q _ => ∃ (l : Addr) (cs : List Addr) (es : List Ed) (n0 : Nat), vs = [.ref l] ∧ SqE K H l (cs.map V.ref) ∧ EdsH K CE H cs es ∧ Fits es n0 ∧ n0 ≤ 60 ∧ tot es ≤ 60 ∧ es.length ≤ 40 ∧
  ∀ H' p C m, Same H H' → H p = none → PtH K CP H' p C m → NF es C m → Q (.ref p) H'
def spPCall (K : PySem.W.Frag) (CP CB : Addr) : Sp := fun vs H Q E => ∃ (p l : Addr) (C : List Ed) (m : Nat) (ws : List Str), vs = [.ref p, .ref l] ∧ PtH K CP H p C m ∧ WsE K H l ws ∧ (apC C 0 ws).length ≤ 200 ∧
  (m ≤ ws.length → ∀ H' q, Same H H' → H q = none → LsH H' q (apC C 0 ws) → Q (.ref q) H') ∧ (ws.length < m → ∀ H', Same H H' → E (.ref CB) none H')
def spPLen (K : PySem.W.Frag) (CP : Addr) : Sp := fun vs H Q _ => ∃ (p : Addr) (C : List Ed) (m : Nat), vs = [.ref p] ∧ PtH K CP H p C m ∧ Q (.int C.length) H
def spPBool (K : PySem.W.Frag) (CP : Addr) : Sp := fun vs H Q _ => ∃ (p : Addr) (C : List Ed) (m : Nat), vs = [.ref p] ∧ PtH K CP H p C m ∧ Q (.bl (!C.isEmpty)) H
def spPGrow (K : PySem.W.Frag) (CP : Addr) : Sp := fun vs H Q _ => ∃ (p : Addr) (C : List Ed) (m : Nat), vs = [.ref p] ∧ PtH K CP H p C m ∧ ∀ H', Same H H' → Q (.int (growC C)) H'
def spPEq (K : PySem.W.Frag) (CP : Addr) : Sp := fun vs H Q _ => ∃ (p q : Addr) (C D : List Ed) (m k : Nat), vs = [.ref p, .ref q] ∧ PtH K CP H p C m ∧ PtH K CP H q D k ∧ Q (.bl (decide (C = D ∧ m = k))) H
def spPEds (K : PySem.W.Frag) (CE CP : Addr) : Sp := fun vs H Q _ => ∃ (p : Addr) (C : List Ed) (m : Nat), vs = [.ref p] ∧ PtH K CP H p C m ∧
  ∀ H' l cs es, Same H H' → H l = none → H' l = some (.lst (cs.map V.ref)) → EdsH K CE H' cs es → es.length = C.length → tot es = tot C → Fits es m → (∀ x : List Str, m ≤ x.length → done es x = apC C 0 x) → Q (.ref l) H'
def spBeh (K : PySem.W.Frag) (CP : Addr) : Sp := fun vs H Q _ => ∃ (p q : Addr) (C D : List Ed) (m k : Nat), vs = [.ref p, .ref q] ∧ PtH K CP H p C m ∧ PtH K CP H q D k ∧ m ≤ 30 ∧ k ≤ 30 ∧ tot C ≤ 30 ∧ tot D ≤ 30 ∧
  ∀ H' r F j, Same H H' → H r = none → PtH K CP H' r F j → (∀ n : Nat, j ≤ n ↔ m ≤ n ∧ (k : Int) ≤ n + growC C) → (∀ x : List Str, j ≤ x.length → apC F 0 x = apC D 0 (apC C 0 x)) → Q (.ref r) H'
end
end P5

end
section
set_option Elab.async false
set_option linter.all false
set_option maxRecDepth 100000
set_option maxHeartbeats 4000000
namespace P5
open PySem PySem.Spec PyProof.Rows L2
/-! ### what edits and changes do, further -/
def growS (es : List Ed) : Int := (es.map grow).sum
theorem app_grow {e : Ed} {l : List Str} (h : e.b ≤ l.length) (h2 : e.a ≤ e.b) : ((app e l).length : Int) = l.length + grow e := by
  have := app_len h h2
  show ((app e l).length : Int) = l.length + ((e.ws.length : Int) - ((e.b : Int) - (e.a : Int)))
  omega
theorem Fits.mono : ∀ {es : List Ed} {n k : Nat}, (∀ e ∈ es, e.a ≤ e.b) → Fits es n → n ≤ k → Fits es k
  | [], _, _, _, _, _ => trivial
  | e :: es, n, k, h, hf, hk => ⟨by have := hf.1; omega, Fits.mono (fun x hx => h x (List.mem_cons_of_mem _ hx)) hf.2 (by have := h e List.mem_cons_self; omega)⟩
theorem done_len : ∀ {es : List Ed} {l : List Str}, (∀ e ∈ es, e.a ≤ e.b) → Fits es l.length → ((done es l).length : Int) = l.length + growS es
  | [], l, _, _ => by show (l.length : Int) = l.length + 0; omega
  | e :: es, l, h, hf => by
    have h1 := h e List.mem_cons_self
    have ih := done_len (es := es) (l := app e l) (fun x hx => h x (List.mem_cons_of_mem _ hx)) (by rw [app_siz hf.1 h1]; exact hf.2)
    show ((done es (app e l)).length : Int) = l.length + (grow e + growS es)
    rw [ih, app_grow hf.1 h1]
    omega
theorem apC_len : ∀ {C : List Ed} {t : Bool} {s : Nat} {l : List Str}, Apt t s C → endC s C ≤ s + l.length → ((apC C s l).length : Int) = l.length + growC C
  | [], _, s, l, _, _ => by show (l.length : Int) = l.length + 0; omega
  | e :: C, _, s, l, .cons h1 _ h3 _ h5, hE => by
    have hz := h5.le_end
    rw [endC_cons] at hE
    have ih := apC_len (C := C) (l := l.drop (e.b - s)) h5 (by rw [List.length_drop]; omega)
    show ((l.take (e.a - s) ++ (e.ws ++ apC C e.b (l.drop (e.b - s)))).length : Int) = l.length + (grow e + growC C)
    rw [List.length_append, List.length_append, List.length_take]
    rw [List.length_drop] at ih
    have eg : grow e = (e.ws.length : Int) - ((e.b : Int) - (e.a : Int)) := rfl
    omega
theorem done_mem : ∀ {es : List Ed} {l : List Str} {x : Str}, x ∈ done es l → x ∈ l ∨ ∃ e ∈ es, x ∈ e.ws
  | [], _, _, h => .inl h
  | e :: es, l, x, h => by
    rcases done_mem (es := es) (l := app e l) h with h | ⟨d, h1, h2⟩
    · unfold app at h
      rcases List.mem_append.mp h with h | h
      · rcases List.mem_append.mp h with h | h
        · exact .inl (List.mem_of_mem_take h)
        · exact .inr ⟨e, List.mem_cons_self, h⟩
      · exact .inl (List.mem_of_mem_drop h)
    · exact .inr ⟨d, List.mem_cons_of_mem _ h1, h2⟩
theorem apC_put : ∀ {C : List Ed} {s : Nat} {l : List Str} {e : Ed} {x : Str}, e ∈ C → x ∈ e.ws → x ∈ apC C s l
  | d :: C, s, l, e, x, he, hx => by
    show x ∈ l.take (d.a - s) ++ (d.ws ++ apC C d.b (l.drop (d.b - s)))
    rcases List.mem_cons.mp he with h | h
    · rw [h] at hx
      exact List.mem_append_right _ (List.mem_append_left _ hx)
    · exact List.mem_append_right _ (List.mem_append_right _ (apC_put h hx))
/-! ### words that are nowhere -/
def frw (N i : Nat) : Str := ⟨(List.replicate (N + i) 0).toArray⟩
theorem frw_len (N i : Nat) : (frw N i).length = N + i := by
  show (List.replicate (N + i) 0).toArray.size = N + i
  simp
theorem exists_fresh (A : List Str) (n : Nat) : ∃ l : List Str, l.length = n ∧ l.Nodup ∧ ∀ x ∈ l, x ∉ A := by
  let N := 1 + (A.map fun x => x.length).sum
  refine ⟨(List.range n).map (frw N), by rw [List.length_map, List.length_range], ?_, fun x hx z => ?_⟩
  · show List.Pairwise _ _
    rw [List.pairwise_map]
    refine List.Pairwise.imp (fun {a b} hab e => hab ?_) (List.nodup_range (n := n))
    have := congrArg Str.length e
    rw [frw_len, frw_len] at this
    omega
  · obtain ⟨i, _, e⟩ := List.mem_map.mp hx
    have h1 : x.length = N + i := by rw [← e, frw_len]
    have h2 : ∀ {A : List Str}, x ∈ A → x.length ≤ (A.map fun x => x.length).sum := fun {A} hA => by
      induction A with
      | nil => cases hA
      | cons y A ih =>
        rw [List.map_cons, List.sum_cons]
        rcases List.mem_cons.mp hA with h | h
        · rw [h]
          omega
        · have := ih h
          omega
    have := h2 z
    omega
/-- all words that changes put in -/
def putC (C : List Ed) : List Str := (C.map fun e => e.ws).flatten
theorem free_of {C : List Ed} {l : List Str} (h : ∀ x ∈ l, x ∉ putC C) : Free C l := fun e he x hx z => h x z (List.mem_flatten.mpr ⟨e.ws, List.mem_map.mpr ⟨e, he, rfl⟩, hx⟩)
/-- changes are told by what they do to all words of a length or more -/
theorem apC_uniq {C D : List Ed} {n : Nat} (hC : Apt false 0 C) (hD : Apt false 0 D) (eC : endC 0 C ≤ n) (eD : endC 0 D ≤ n) (h : ∀ l : List Str, n ≤ l.length → apC C 0 l = apC D 0 l) : C = D := by
  obtain ⟨l, h1, h2, h3⟩ := exists_fresh (putC C ++ putC D) n
  exact apC_inj n h1 hC hD (by omega) (by omega) h2 (free_of fun x hx z => h3 x hx (List.mem_append_left _ z)) (free_of fun x hx z => h3 x hx (List.mem_append_right _ z)) (h l (by omega))
/-- what changes put in, the edits put in -/
theorem nf_words {es C : List Ed} {m : Nat} (h : NF es C m) {e : Ed} {x : Str} (he : e ∈ C) (hx : x ∈ e.ws) : ∃ d ∈ es, x ∈ d.ws := by
  obtain ⟨l, h1, h2, h3⟩ := exists_fresh (putC C) m
  have z : x ∈ done es l := by
    rw [← h.run l (by omega)]
    exact apC_put he hx
  rcases done_mem z with z | z
  · exact absurd z (fun z => h3 x z (List.mem_flatten.mpr ⟨e.ws, List.mem_map.mpr ⟨e, he, rfl⟩, hx⟩))
  · exact z
theorem nf_grow {es C : List Ed} {m : Nat} (h : NF es C m) (hC : PtOk C m) (he : ∀ e ∈ es, e.a ≤ e.b) : growC C = growS es := by
  obtain ⟨l, h1, _, _⟩ := exists_fresh [] m
  have a := apC_len (l := l) hC.apt (by have := hC.fin; omega)
  have b := done_len (es := es) (l := l) he (by rw [h1]; exact h.lst.1)
  rw [h.run l (by omega)] at a
  omega
theorem Lst.uniq {es : List Ed} {m k : Nat} (h : Lst es m) (h' : Lst es k) : m = k := Nat.le_antisymm (h.2 k h'.1) (h'.2 m h.1)
theorem Fits.app_iff : ∀ {es fs : List Ed} {n : Nat}, Fits (es ++ fs) n ↔ Fits es n ∧ Fits fs (siz es n)
  | [], fs, n => ⟨fun h => ⟨trivial, h⟩, fun h => h.2⟩
  | e :: es, fs, n => by
    show (e.b ≤ n ∧ Fits (es ++ fs) _) ↔ (e.b ≤ n ∧ Fits es _) ∧ Fits fs (siz es _)
    rw [Fits.app_iff, and_assoc]
theorem done_app (es fs : List Ed) (l : List Str) : done (es ++ fs) l = done fs (done es l) := by
  unfold done
  rw [List.foldl_append]
theorem done_siz : ∀ {es : List Ed} {l : List Str}, (∀ e ∈ es, e.a ≤ e.b) → Fits es l.length → (done es l).length = siz es l.length
  | [], l, _, _ => rfl
  | e :: es, l, h, hf => by
    have h1 := h e List.mem_cons_self
    have ih := done_siz (es := es) (l := app e l) (fun x hx => h x (List.mem_cons_of_mem _ hx)) (by rw [app_siz hf.1 h1]; exact hf.2)
    show (done es (app e l)).length = siz es (l.length + e.ws.length - (e.b - e.a))
    rw [ih, app_siz hf.1 h1]
/-- two patches one behind the other are the patch of all edits -/
theorem behind_eq {es fs C D F G : List Ed} {m k j i : Nat} (he : ∀ e ∈ es, e.a ≤ e.b) (hf : ∀ e ∈ fs, e.a ≤ e.b) (h1 : NF es C m) (o1 : PtOk C m) (h2 : NF fs D k) (o2 : PtOk D k) (hj : ∀ n : Nat, j ≤ n ↔ m ≤ n ∧ (k : Int) ≤ n + growC C) (oF : PtOk F j)
    (hF : ∀ x : List Str, j ≤ x.length → apC F 0 x = apC D 0 (apC C 0 x)) (h3 : NF (es ++ fs) G i) (o3 : PtOk G i) : F = G ∧ j = i := by
  have key : ∀ n : Nat, j ≤ n ↔ Fits (es ++ fs) n := fun n => by
    rw [hj, Fits.app_iff]
    constructor
    · rintro ⟨a, b⟩
      have c : Fits es n := h1.lst.1.mono he a
      refine ⟨c, h2.lst.1.mono hf ?_⟩
      obtain ⟨l, hl, _, _⟩ := exists_fresh [] n
      have z1 := done_siz (l := l) he (by rw [hl]; exact c)
      have z2 := done_len (l := l) he (by rw [hl]; exact c)
      rw [nf_grow h1 o1 he] at b
      rw [hl] at z1 z2
      omega
    · rintro ⟨a, b⟩
      refine ⟨h1.lst.2 n a, ?_⟩
      have c := h2.lst.2 _ b
      obtain ⟨l, hl, _, _⟩ := exists_fresh [] n
      have z1 := done_siz (l := l) he (by rw [hl]; exact a)
      have z2 := done_len (l := l) he (by rw [hl]; exact a)
      rw [nf_grow h1 o1 he]
      rw [hl] at z1 z2
      omega
  have ij : j = i := by
    apply Nat.le_antisymm
    · exact (key i).mpr h3.lst.1
    · exact h3.lst.2 j ((key j).mp (Nat.le_refl _))
  subst ij
  refine ⟨apC_uniq oF.apt o3.apt oF.fin o3.fin fun l hl => ?_, rfl⟩
  rw [hF l hl, h3.run l hl, done_app]
  have q := (hj l.length).mp hl
  rw [h1.run l q.1, h2.run]
  have z2 := done_len (es := es) (l := l) he (h1.lst.1.mono he q.1)
  rw [nf_grow h1 o1 he] at q
  omega
end P5

end
section
set_option Elab.async false
set_option linter.all false
set_option maxRecDepth 100000
set_option maxHeartbeats 4000000
/-! changes that go together, as plain mathematics -/
namespace P5
open PySem PySem.Spec PyProof.Rows L2
/-- a change that does something -/
def Ne (e : Ed) : Prop := e.a ≤ e.b ∧ (e.a < e.b ∨ e.ws ≠ [])
/-- changes in order, from a place on: side by side at most -/
def Row : Nat → List Ed → Prop
  | _, [] => True
  | s, e :: C => s ≤ e.a ∧ Ne e ∧ Row e.b C
theorem Apt.row : ∀ {C : List Ed} {t : Bool} {s : Nat}, Apt t s C → Row s C
  | [], _, _, _ => trivial
  | _ :: _, _, _, .cons h1 _ h3 h4 h5 => ⟨h1, ⟨h3, h4⟩, h5.row⟩
theorem Row.le : ∀ {C : List Ed} {s s' : Nat}, Row s C → s' ≤ s → Row s' C
  | [], _, _, _, _ => trivial
  | _ :: _, _, _, h, h2 => ⟨Nat.le_trans h2 h.1, h.2⟩
theorem Row.end_ : ∀ {C : List Ed} {s : Nat}, Row s C → s ≤ endC s C
  | [], _, _ => Nat.le_refl _
  | e :: C, s, h => by
    have := h.2.2.end_
    have := h.1
    have := h.2.1.1
    rw [endC_cons]
    omega
theorem Row.mem : ∀ {C : List Ed} {s : Nat}, Row s C → ∀ e ∈ C, s ≤ e.a ∧ Ne e ∧ e.b ≤ endC s C
  | [], _, _, _, he => nomatch he
  | c :: C, s, h, e, he => by
    rw [endC_cons]
    rcases List.mem_cons.mp he with q | q
    · subst q
      exact ⟨h.1, h.2.1, h.2.2.end_⟩
    · obtain ⟨h1, h2, h3⟩ := h.2.2.mem e q
      have := h.1
      have := h.2.1.1
      exact ⟨by omega, h2, h3⟩
/-! ### joined: changes side by side made one -/
def joinC : Ed → List Ed → List Ed
  | c, [] => [c]
  | c, e :: C => if c.b = e.a then joinC ⟨c.a, e.b, c.ws ++ e.ws⟩ C else c :: joinC e C
def asOne : List Ed → List Ed
  | [] => []
  | e :: C => joinC e C
theorem join_ne {c e : Ed} (h1 : Ne c) (h2 : Ne e) (h : c.b = e.a) : Ne ⟨c.a, e.b, c.ws ++ e.ws⟩ := by
  obtain ⟨p1, p2⟩ := h1
  obtain ⟨q1, q2⟩ := h2
  refine ⟨by show c.a ≤ e.b; omega, ?_⟩
  show c.a < e.b ∨ c.ws ++ e.ws ≠ []
  by_cases z : c.a < e.b
  · exact .inl z
  · refine .inr fun e0 => ?_
    obtain ⟨z1, z2⟩ := List.append_eq_nil_iff.mp e0
    rcases p2 with p2 | p2
    · omega
    · exact p2 z1
theorem joinC_apC : ∀ {C : List Ed} {c : Ed} {s : Nat} {l : List Str}, Row s (c :: C) → apC (joinC c C) s l = apC (c :: C) s l
  | [], _, _, _, _ => rfl
  | e :: C, c, s, l, h => by
    obtain ⟨h1, h2, h3, h4, h5⟩ := h
    have hc := h2.1
    have he := h4.1
    unfold joinC
    by_cases q : c.b = e.a
    · rw [if_pos q, joinC_apC (c := ⟨c.a, e.b, c.ws ++ e.ws⟩) ⟨h1, join_ne h2 h4 q, h5⟩]
      show l.take (c.a - s) ++ ((c.ws ++ e.ws) ++ apC C e.b (l.drop (e.b - s))) = l.take (c.a - s) ++ (c.ws ++ ((l.drop (c.b - s)).take (e.a - c.b) ++ (e.ws ++ apC C e.b ((l.drop (c.b - s)).drop (e.b - c.b)))))
      rw [q, Nat.sub_self, List.take_zero, List.nil_append, List.drop_drop, show e.a - s + (e.b - e.a) = e.b - s from by omega, List.append_assoc]
    · rw [if_neg q]
      show l.take (c.a - s) ++ (c.ws ++ apC (joinC e C) c.b (l.drop (c.b - s))) = _
      rw [joinC_apC ⟨h3, h4, h5⟩]
      rfl
theorem joinC_apt : ∀ {C : List Ed} {c : Ed} {s : Nat} {t : Bool}, Row s (c :: C) → (t = true → s < c.a) → Apt t s (joinC c C)
  | [], c, s, t, h, ht => .cons h.1 ht h.2.1.1 h.2.1.2 .nil
  | e :: C, c, s, t, h, ht => by
    obtain ⟨h1, h2, h3, h4, h5⟩ := h
    unfold joinC
    by_cases q : c.b = e.a
    · rw [if_pos q]
      exact joinC_apt ⟨h1, join_ne h2 h4 q, h5⟩ ht
    · rw [if_neg q]
      exact .cons h1 ht h2.1 h2.2 (joinC_apt ⟨h3, h4, h5⟩ fun _ => by omega)
theorem asOne_apC {C : List Ed} {s : Nat} {l : List Str} (h : Row s C) : apC (asOne C) s l = apC C s l := by
  cases C with
  | nil => rfl
  | cons e C => exact joinC_apC h
theorem asOne_apt {C : List Ed} {s : Nat} (h : Row s C) : Apt false s (asOne C) := by
  cases C with
  | nil => exact .nil
  | cons e C => exact joinC_apt h fun z => nomatch z
theorem joinC_same : ∀ {C : List Ed} {c : Ed}, Apt true c.b C → joinC c C = c :: C
  | [], _, _ => rfl
  | e :: C, c, .cons _ h2 _ _ h5 => by
    unfold joinC
    have := h2 rfl
    rw [if_neg (by omega), joinC_same h5]
theorem asOne_same {C : List Ed} {t : Bool} {s : Nat} (h : Apt t s C) : asOne C = C := by
  cases h with
  | nil => rfl
  | cons _ _ _ _ h5 => exact joinC_same h5
theorem joinC_end : ∀ {C : List Ed} {c : Ed} {s : Nat}, endC s (joinC c C) = endC s (c :: C)
  | [], _, _ => rfl
  | e :: C, c, s => by
    unfold joinC
    by_cases q : c.b = e.a
    · rw [if_pos q, joinC_end]
      rfl
    · rw [if_neg q, endC_cons, joinC_end]
      rfl
theorem asOne_end {C : List Ed} {s : Nat} : endC s (asOne C) = endC s C := by
  cases C with
  | nil => rfl
  | cons e C => exact joinC_end
theorem joinC_len : ∀ {C : List Ed} {c : Ed}, (joinC c C).length ≤ C.length + 1
  | [], _ => Nat.le_refl _
  | e :: C, c => by
    unfold joinC
    by_cases q : c.b = e.a
    · rw [if_pos q]
      exact Nat.le_trans joinC_len (by show C.length + 1 ≤ C.length + 1 + 1; omega)
    · rw [if_neg q]
      exact Nat.succ_le_succ joinC_len
theorem asOne_len {C : List Ed} : (asOne C).length ≤ C.length := by
  cases C with
  | nil => exact Nat.le_refl _
  | cons e C => exact joinC_len
theorem joinC_tot : ∀ {C : List Ed} {c : Ed}, tot (joinC c C) = c.ws.length + tot C
  | [], c => by show c.ws.length + 0 = _; rfl
  | e :: C, c => by
    unfold joinC
    by_cases q : c.b = e.a
    · rw [if_pos q, joinC_tot]
      show (c.ws ++ e.ws).length + tot C = c.ws.length + (e.ws.length + tot C)
      rw [List.length_append]
      omega
    · rw [if_neg q]
      show c.ws.length + tot (joinC e C) = c.ws.length + (e.ws.length + tot C)
      rw [joinC_tot]
theorem asOne_tot {C : List Ed} : tot (asOne C) = tot C := by
  cases C with
  | nil => rfl
  | cons e C => exact joinC_tot
theorem joinC_mem : ∀ {C : List Ed} {c e : Ed} {x : Str}, e ∈ joinC c C → x ∈ e.ws → x ∈ c.ws ∨ ∃ d ∈ C, x ∈ d.ws
  | [], c, e, x, h, hx => by
    rw [List.mem_singleton.mp h] at hx
    exact .inl hx
  | d :: C, c, e, x, h, hx => by
    unfold joinC at h
    by_cases q : c.b = d.a
    · rw [if_pos q] at h
      rcases joinC_mem h hx with z | ⟨y, h1, h2⟩
      · rcases List.mem_append.mp z with z | z
        · exact .inl z
        · exact .inr ⟨d, List.mem_cons_self, z⟩
      · exact .inr ⟨y, List.mem_cons_of_mem _ h1, h2⟩
    · rw [if_neg q] at h
      rcases List.mem_cons.mp h with z | z
      · rw [z] at hx
        exact .inl hx
      · rcases joinC_mem z hx with z | ⟨y, h1, h2⟩
        · exact .inr ⟨d, List.mem_cons_self, z⟩
        · exact .inr ⟨y, List.mem_cons_of_mem _ h1, h2⟩
theorem asOne_mem {C : List Ed} {e : Ed} {x : Str} (h : e ∈ asOne C) (hx : x ∈ e.ws) : ∃ d ∈ C, x ∈ d.ws := by
  cases C with
  | nil => cases h
  | cons c C =>
    rcases joinC_mem h hx with z | ⟨y, h1, h2⟩
    · exact ⟨c, List.mem_cons_self, z⟩
    · exact ⟨y, List.mem_cons_of_mem _ h1, h2⟩
/-! ### a change put between others -/
theorem apC_app : ∀ {P R : List Ed} {s : Nat} {l : List Str}, Row s P → endC s P ≤ s + l.length → ∃ pre : List Str, (pre.length : Int) = endC s P - s + growC P ∧ ∀ R : List Ed, apC (P ++ R) s l = pre ++ apC R (endC s P) (l.drop (endC s P - s))
  | [], _, s, l, _, _ => ⟨[], by show (0 : Int) = (s : Int) - s + 0; omega, fun R => by show apC R s l = [] ++ apC R s (l.drop (s - s)); rw [Nat.sub_self]; rfl⟩
  | e :: P, R, s, l, h, hl => by
    obtain ⟨h1, h2, h3⟩ := h
    have he := h2.1
    have hE := h3.end_
    rw [endC_cons] at hl
    obtain ⟨pre, p1, p2⟩ := apC_app (P := P) (R := R) (s := e.b) (l := l.drop (e.b - s)) h3 (by rw [List.length_drop]; omega)
    refine ⟨l.take (e.a - s) ++ (e.ws ++ pre), ?_, fun R => ?_⟩
    · have eg : growC (e :: P) = grow e + growC P := rfl
      have eg2 : grow e = (e.ws.length : Int) - ((e.b : Int) - (e.a : Int)) := rfl
      rw [List.length_append, List.length_append, List.length_take, endC_cons, eg, eg2]
      rw [Nat.min_eq_left (by omega)]
      omega
    · show l.take (e.a - s) ++ (e.ws ++ apC (P ++ R) e.b (l.drop (e.b - s))) = _
      rw [p2 R, endC_cons, List.drop_drop, show e.b - s + (endC e.b P - e.b) = endC e.b P - s from by omega]
      simp only [List.append_assoc]
theorem apC_skipT {Q : List Ed} {q k : Nat} {l : List Str} (h : Row k Q) (hq : q ≤ k) (hl : k ≤ q + l.length) : apC Q q l = l.take (k - q) ++ apC Q k (l.drop (k - q)) := by
  cases Q with
  | nil => exact (List.take_append_drop _ _).symm
  | cons e Q =>
    obtain ⟨h1, h2, h3⟩ := h
    have := h2.1
    show l.take (e.a - q) ++ (e.ws ++ apC Q e.b (l.drop (e.b - q))) = l.take (k - q) ++ ((l.drop (k - q)).take (e.a - k) ++ (e.ws ++ apC Q e.b ((l.drop (k - q)).drop (e.b - k))))
    rw [List.drop_drop, show k - q + (e.b - k) = e.b - q from by omega, ← List.append_assoc (l.take (k - q)), ← List.take_add, show k - q + (e.a - k) = e.a - q from by omega]
theorem Row.app : ∀ {P R : List Ed} {s : Nat}, Row s (P ++ R) → Row s P ∧ Row (endC s P) R
  | [], _, _, h => ⟨trivial, h⟩
  | e :: P, R, s, h => by
    obtain ⟨h1, h2, h3⟩ := h
    obtain ⟨q1, q2⟩ := Row.app (P := P) (R := R) h3
    exact ⟨⟨h1, h2, q1⟩, q2⟩
theorem Row.cat : ∀ {P R : List Ed} {s : Nat}, Row s P → Row (endC s P) R → Row s (P ++ R)
  | [], _, _, _, h => h
  | _ :: _, _, _, h, q => ⟨h.1, h.2.1, Row.cat h.2.2 q⟩
theorem endC_app (s : Nat) (P R : List Ed) : endC s (P ++ R) = endC (endC s P) R := by
  unfold endC
  rw [List.foldl_append]
/-- e between P and Q: done on what P and Q leave -/
theorem apC_put1 {P Q : List Ed} {e : Ed} {l : List Str} {i j : Int} (h : Row 0 (P ++ e :: Q)) (hl : endC 0 (P ++ e :: Q) ≤ l.length) (hi : i = e.a + growC P) (hj : j = e.b + growC P) :
    0 ≤ i ∧ i ≤ j ∧ j ≤ ((apC (P ++ Q) 0 l).length : Int) ∧ (apC (P ++ Q) 0 l).take i.toNat ++ (e.ws ++ (apC (P ++ Q) 0 l).drop j.toNat) = apC (P ++ e :: Q) 0 l := by
  obtain ⟨hP, h1, h2, h3⟩ := Row.app h
  have he := h2.1
  have hE := h3.end_
  rw [endC_app, endC_cons] at hl
  obtain ⟨pre, p1, p2⟩ := apC_app (P := P) (R := []) (s := 0) (l := l) hP (by omega)
  have e0 : ∀ x : Nat, x - 0 = x := fun x => Nat.sub_zero x
  rw [p2 Q, p2 (e :: Q), Nat.sub_zero]
  rw [apC_skipT (q := endC 0 P) (k := e.b) h3 (by omega) (by rw [List.length_drop]; omega)]
  show 0 ≤ i ∧ i ≤ j ∧ j ≤ _ ∧ _ = pre ++ ((l.drop (endC 0 P)).take (e.a - endC 0 P) ++ (e.ws ++ apC Q e.b ((l.drop (endC 0 P)).drop (e.b - endC 0 P))))
  have hlen : (((l.drop (endC 0 P)).take (e.b - endC 0 P)).length) = e.b - endC 0 P := by
    rw [List.length_take, List.length_drop]
    omega
  have hi2 : i.toNat = pre.length + (e.a - endC 0 P) := by omega
  have hj2 : j.toNat = pre.length + (e.b - endC 0 P) := by omega
  refine ⟨by omega, by omega, by rw [List.length_append, List.length_append, hlen]; omega, ?_⟩
  rw [hi2, hj2]
  have hL : e.b - endC 0 P ≤ (l.drop (endC 0 P)).length := by rw [List.length_drop]; omega
  generalize l.drop (endC 0 P) = L at *
  generalize apC Q e.b (L.drop (e.b - endC 0 P)) = R at *
  have a1 : pre.take (pre.length + (e.a - endC 0 P)) = pre := List.take_of_length_le (by omega)
  have a2 : pre.drop (pre.length + (e.b - endC 0 P)) = [] := List.drop_of_length_le (by omega)
  have a3 : (L.take (e.b - endC 0 P)).drop (e.b - endC 0 P) = [] := List.drop_of_length_le (by rw [hlen]; exact Nat.le_refl _)
  have a4 : (L.take (e.b - endC 0 P)).take (e.a - endC 0 P) = L.take (e.a - endC 0 P) := by rw [List.take_take, Nat.min_eq_left (by omega)]
  rw [List.take_append, List.drop_append, a1, a2, List.nil_append, Nat.add_sub_cancel_left, Nat.add_sub_cancel_left, List.take_append, List.drop_append, hlen, a3, a4]
  rw [show e.a - endC 0 P - (e.b - endC 0 P) = 0 from by omega, List.take_zero, List.append_nil, Nat.sub_self, List.drop_zero, List.nil_append]
  simp only [List.append_assoc]
end P5

end
section
set_option Elab.async false
set_option linter.all false
set_option maxRecDepth 100000
set_option maxHeartbeats 4000000
/-! changes in their order; woven in any order; what is left of one behind the other -/
namespace P5
open PySem PySem.Spec PyProof.Rows L2
/-- e stands before f -/
def Bf (e f : Ed) : Prop := e.b ≤ f.a ∧ e.a < f.b
instance (e f : Ed) : Decidable (Bf e f) := by unfold Bf; infer_instance
/-- two changes go together -/
def Go (e f : Ed) : Prop := e = f ∨ ((e.b ≤ f.a ∨ f.b ≤ e.a) ∧ ¬ (e.a = f.a ∧ e.b = f.b))
theorem Go.bf {e f : Ed} (h : Go e f) (he : e.a ≤ e.b) (hf : f.a ≤ f.b) (hn : e ≠ f) : Bf e f ∨ Bf f e := by
  rcases h with h | ⟨h, h2⟩
  · exact absurd h hn
  · unfold Bf
    omega
theorem bf_asym {e f : Ed} (h : Bf e f) : ¬ Bf f e := by
  unfold Bf at *
  omega
theorem bf_irr {e : Ed} : ¬ Bf e e := by
  unfold Bf
  omega
theorem pw_row : ∀ {S : List Ed} {s : Nat}, (∀ e ∈ S, s ≤ e.a ∧ Ne e) → S.Pairwise Bf → Row s S
  | [], _, _, _ => trivial
  | e :: S, s, h, hp => by
    rw [List.pairwise_cons] at hp
    have h1 := h e List.mem_cons_self
    exact ⟨h1.1, h1.2, pw_row (fun f hf => ⟨(hp.1 f hf).1, (h f (List.mem_cons_of_mem _ hf)).2⟩) hp.2⟩
theorem apt_mem : ∀ {C : List Ed} {t : Bool} {s : Nat}, Apt t s C → ∀ e ∈ C, s ≤ e.a ∧ (t = true → s < e.a) ∧ Ne e
  | _ :: C, t, s, .cons h1 h2 h3 h4 h5, e, he => by
    rcases List.mem_cons.mp he with q | q
    · subst q
      exact ⟨h1, h2, h3, h4⟩
    · obtain ⟨p1, p2, p3⟩ := apt_mem h5 e q
      have := p2 rfl
      exact ⟨by omega, fun _ => by omega, p3⟩
theorem apt_pw : ∀ {C : List Ed} {t : Bool} {s : Nat}, Apt t s C → C.Pairwise Bf
  | [], _, _, _ => List.Pairwise.nil
  | e :: C, _, _, .cons h1 h2 h3 h4 h5 => by
    rw [List.pairwise_cons]
    refine ⟨fun f hf => ?_, apt_pw h5⟩
    obtain ⟨p1, p2, p3⟩ := apt_mem h5 f hf
    have := p2 rfl
    have := p3.1
    exact ⟨p1, by omega⟩
/-- the order tells the list -/
theorem bf_uniq : ∀ {S T : List Ed}, S.Pairwise Bf → T.Pairwise Bf → (∀ e, e ∈ S ↔ e ∈ T) → S = T
  | [], [], _, _, _ => rfl
  | [], f :: T, _, _, h => nomatch (h f).mpr List.mem_cons_self
  | e :: S, [], _, _, h => nomatch (h e).mp List.mem_cons_self
  | e :: S, f :: T, h1, h2, h => by
    rw [List.pairwise_cons] at h1 h2
    have ef : e = f := by
      rcases List.mem_cons.mp ((h e).mp List.mem_cons_self) with q | q
      · exact q
      · rcases List.mem_cons.mp ((h f).mpr List.mem_cons_self) with z | z
        · exact z.symm
        · exact absurd (h1.1 f z) (bf_asym (h2.1 e q))
    subst ef
    have out : ∀ {X : List Ed}, (∀ x ∈ X, Bf e x) → e ∉ X := fun hx he => bf_irr (hx e he)
    rw [bf_uniq h1.2 h2.2 fun x => ?_]
    have n1 := out h1.1
    have n2 := out h2.1
    constructor
    · intro hx
      rcases List.mem_cons.mp ((h x).mp (List.mem_cons_of_mem _ hx)) with q | q
      · rw [q] at hx
        exact absurd hx n1
      · exact q
    · intro hx
      rcases List.mem_cons.mp ((h x).mpr (List.mem_cons_of_mem _ hx)) with q | q
      · rw [q] at hx
        exact absurd hx n2
      · exact q
theorem pw_nodup {S : List Ed} (h : S.Pairwise Bf) : S.Nodup := by
  refine List.Pairwise.imp ?_ h
  intro a b hb e
  subst e
  exact bf_irr hb
/-- where e stands among the others -/
theorem bf_split {e : Ed} (he : e.a ≤ e.b) : ∀ {S : List Ed}, S.Pairwise Bf → (∀ x ∈ S, x.a ≤ x.b ∧ (Bf x e ∨ Bf e x)) →
    S = S.filter (fun x => decide (Bf x e)) ++ S.filter (fun x => !decide (Bf x e)) ∧ (S.filter (fun x => decide (Bf x e)) ++ e :: S.filter (fun x => !decide (Bf x e))).Pairwise Bf
  | [], _, _ => ⟨rfl, List.pairwise_singleton _ _⟩
  | x :: S, h, hx => by
    rw [List.pairwise_cons] at h
    obtain ⟨x1, x2⟩ := hx x List.mem_cons_self
    obtain ⟨i1, i2⟩ := bf_split he h.2 fun y hy => hx y (List.mem_cons_of_mem _ hy)
    by_cases c : Bf x e
    · rw [List.filter_cons_of_pos (by rw [decide_eq_true_eq]; exact c), List.filter_cons_of_neg (by rw [decide_eq_true c]; decide)]
      refine ⟨congrArg (x :: ·) i1, ?_⟩
      rw [List.cons_append, List.pairwise_cons]
      refine ⟨fun y hy => ?_, i2⟩
      rcases List.mem_append.mp hy with q | q
      · exact h.1 y (List.mem_filter.mp q).1
      · rcases List.mem_cons.mp q with q | q
        · rw [q]; exact c
        · exact h.1 y (List.mem_filter.mp q).1
    · have hex := x2.resolve_left c
      have none : ∀ y ∈ S, ¬ Bf y e := fun y hy z => by
        have h1 := h.1 y hy
        have h2 := (hx y (List.mem_cons_of_mem _ hy)).1
        unfold Bf at *
        omega
      have e1 : S.filter (fun x => decide (Bf x e)) = [] := List.filter_eq_nil_iff.mpr fun y hy => by rw [decide_eq_true_eq]; exact none y hy
      have e2 : S.filter (fun x => !decide (Bf x e)) = S := List.filter_eq_self.mpr fun y hy => by rw [decide_eq_false (none y hy)]; rfl
      rw [List.filter_cons_of_neg (by rw [decide_eq_true_eq]; exact c), List.filter_cons_of_pos (by rw [decide_eq_false c]; rfl), e1, e2]
      refine ⟨rfl, ?_⟩
      rw [List.nil_append, List.pairwise_cons]
      refine ⟨fun y hy => ?_, List.pairwise_cons.mpr h⟩
      rcases List.mem_cons.mp hy with q | q
      · rw [q]; exact hex
      · have h1 := h.1 y q
        have h2 := (hx y (List.mem_cons_of_mem _ q)).1
        unfold Bf at *
        omega
theorem grow_perm {C D : List Ed} (h : C.Perm D) : growC C = growC D := by
  unfold growC
  induction h with
  | nil => rfl
  | cons x _ ih => rw [List.map_cons, List.map_cons, List.sum_cons, List.sum_cons, ih]
  | swap x y l => simp only [List.map_cons, List.sum_cons]; omega
  | trans _ _ i1 i2 => exact i1.trans i2
/-- one more change is woven in -/
theorem weave1 {S dn : List Ed} {e : Ed} {l : List Str} (hS : S.Pairwise Bf) (hm : ∀ x, x ∈ S ↔ x ∈ dn) (nd : dn.Nodup) (ok : ∀ x ∈ S, Ne x ∧ x.b ≤ l.length) (he : Ne e) (hl : e.b ≤ l.length) (hg : ∀ x ∈ S, Bf x e ∨ Bf e x) :
    ∃ T : List Ed, T.Pairwise Bf ∧ (∀ x, x ∈ T ↔ x ∈ dn ++ [e]) ∧ ∀ g : Int, g = growC (dn.filter fun x => decide (x.b ≤ e.a) && !(decide (x.a = e.a) && decide (x.b = e.b))) →
      0 ≤ e.a + g ∧ (e.a : Int) + g ≤ e.b + g ∧ e.b + g ≤ ((apC S 0 l).length : Int) ∧ (apC S 0 l).take (e.a + g).toNat ++ (e.ws ++ (apC S 0 l).drop (e.b + g).toNat) = apC T 0 l := by
  obtain ⟨s1, s2⟩ := bf_split he.1 hS fun x hx => ⟨(ok x hx).1.1, hg x hx⟩
  have ef : S.filter (fun x => decide (Bf x e)) = S.filter fun x => decide (x.b ≤ e.a) && !(decide (x.a = e.a) && decide (x.b = e.b)) := by
    refine List.filter_congr fun x hx => ?_
    have h1 := (ok x hx).1.1
    have h2 := he.1
    have h3 := hg x hx
    unfold Bf at *
    by_cases c : x.b ≤ e.a ∧ x.a < e.b
    · rw [decide_eq_true c, decide_eq_true c.1, Bool.true_and]
      by_cases d : x.a = e.a
      · rw [decide_eq_false (show ¬ x.b = e.b by omega), Bool.and_false]
        rfl
      · rw [decide_eq_false d]
        rfl
    · rw [decide_eq_false c]
      by_cases d : x.b ≤ e.a
      · rw [decide_eq_true (show x.a = e.a by omega), decide_eq_true (show x.b = e.b by omega), Bool.and_self]
        simp
      · rw [decide_eq_false d]
        rfl
  have pm : S.Perm dn := (List.perm_ext_iff_of_nodup (pw_nodup hS) nd).mpr hm
  generalize eP : S.filter (fun x => decide (Bf x e)) = P at *
  generalize eQ : S.filter (fun x => !decide (Bf x e)) = Q at *
  have mem : ∀ x, x ∈ P ++ e :: Q ↔ x ∈ dn ++ [e] := fun x => by
    rw [List.mem_append, List.mem_cons, List.mem_append, List.mem_singleton, ← hm x]
    conv => rhs; rw [s1]
    rw [List.mem_append]
    constructor
    · rintro (h | h | h)
      · exact .inl (.inl h)
      · exact .inr h
      · exact .inl (.inr h)
    · rintro ((h | h) | h)
      · exact .inl h
      · exact .inr (.inr h)
      · exact .inr (.inl h)
  have ok2 : ∀ x ∈ P ++ e :: Q, Ne x ∧ x.b ≤ l.length := fun x hx => by
    rcases List.mem_append.mp ((mem x).mp hx) with q | q
    · exact ok x ((hm x).mpr q)
    · rw [List.mem_singleton.mp q]
      exact ⟨he, hl⟩
  have row : Row 0 (P ++ e :: Q) := pw_row (fun x hx => ⟨Nat.zero_le _, (ok2 x hx).1⟩) s2
  have fin : ∀ {R : List Ed} {s : Nat}, (∀ x ∈ R, x.b ≤ l.length) → s ≤ l.length → endC s R ≤ l.length := by
    intro R
    induction R with
    | nil => intro s _ h; exact h
    | cons x R ih => intro s h _; rw [endC_cons]; exact ih (fun y hy => h y (List.mem_cons_of_mem _ hy)) (h x List.mem_cons_self)
  refine ⟨P ++ e :: Q, s2, mem, fun g hg => ?_⟩
  have hgP : g = growC P := by
    rw [hg, ef]
    exact grow_perm ((pm.filter _).symm)
  obtain ⟨k1, k2, k3, k4⟩ := apC_put1 (i := e.a + g) (j := e.b + g) row (fin (fun x hx => (ok2 x hx).2) (Nat.zero_le _)) (by rw [hgP]) (by rw [hgP])
  rw [s1]
  exact ⟨k1, k2, k3, k4⟩
end P5

end
section
set_option Elab.async false
set_option linter.all false
set_option maxRecDepth 100000
set_option maxHeartbeats 4000000
/-! what is left of one patch behind another one -/
namespace P5
open PySem PySem.Spec PyProof.Rows L2
/-- changes between two places take no more words than there are -/
theorem row_room : ∀ {X : List Ed} {p q : Nat}, Row p X → p ≤ q → (∀ x ∈ X, x.b ≤ q) → 0 ≤ growC X + ((q : Int) - p)
  | [], p, q, _, h, _ => by
    have : growC [] = 0 := rfl
    omega
  | e :: X, p, q, h, hpq, hq => by
    obtain ⟨h1, h2, h3⟩ := h
    have he := hq e List.mem_cons_self
    have ih := row_room (q := q) h3 he fun x hx => hq x (List.mem_cons_of_mem _ hx)
    have eg : growC (e :: X) = grow e + growC X := rfl
    have eg2 : grow e = (e.ws.length : Int) - ((e.b : Int) - (e.a : Int)) := rfl
    have := h2.1
    omega
theorem grow_filter {p q : Ed → Bool} : ∀ {C : List Ed}, (∀ x ∈ C, p x = true → q x = true) → growC (C.filter q) = growC (C.filter p) + growC (C.filter fun x => q x && !p x)
  | [], _ => rfl
  | x :: C, h => by
    have ih := grow_filter (p := p) (q := q) (C := C) fun y hy => h y (List.mem_cons_of_mem _ hy)
    have hx := h x List.mem_cons_self
    have eg : ∀ X : List Ed, growC (x :: X) = grow x + growC X := fun X => rfl
    cases e1 : p x with
    | true =>
      have e2 := hx e1
      rw [List.filter_cons_of_pos e2, List.filter_cons_of_pos e1, List.filter_cons_of_neg (by rw [e2, e1]; decide), eg, eg, ih]
      omega
    | false =>
      cases e2 : q x with
      | true =>
        rw [List.filter_cons_of_pos e2, List.filter_cons_of_neg (by rw [e1]; decide), List.filter_cons_of_pos (by rw [e2, e1]; decide), eg, eg, ih]
        omega
      | false =>
        rw [List.filter_cons_of_neg (by rw [e2]; decide), List.filter_cons_of_neg (by rw [e1]; decide), List.filter_cons_of_neg (by rw [e2]; exact Bool.false_ne_true), ih]
/-- how far a change moves behind C -/
def gBe (C : List Ed) (e : Ed) : Int := growC (C.filter fun x => decide (x.b ≤ e.a))
def shE (C : List Ed) (e : Ed) : Ed := ⟨(e.a + gBe C e).toNat, (e.b + gBe C e).toNat, e.ws⟩
def rest0 (C D : List Ed) : List Ed := (D.filter fun e => decide (e ∉ C)).map (shE C)
/-- e goes with all of C, and is none of it -/
def With (C : List Ed) (e : Ed) : Prop := Ne e ∧ ∀ x ∈ C, Bf x e ∨ Bf e x
theorem filt_row {C : List Ed} {p : Ed → Bool} {s k : Nat} (hC : Apt false s C) (h : ∀ x ∈ C, p x = true → k ≤ x.a) : Row k (C.filter p) :=
  pw_row (fun x hx => by
    obtain ⟨h1, h2⟩ := List.mem_filter.mp hx
    exact ⟨h x h1 h2, (apt_mem hC x h1).2.2⟩) ((apt_pw hC).sublist List.filter_sublist)
theorem gBe_ge {C : List Ed} {e : Ed} (hC : Apt false 0 C) : 0 ≤ (e.a : Int) + gBe C e := by
  have z := row_room (X := C.filter fun x => decide (x.b ≤ e.a)) (p := 0) (q := e.a) (filt_row hC fun x _ _ => Nat.zero_le _) (Nat.zero_le _) fun x hx => of_decide_eq_true (List.mem_filter.mp hx).2
  unfold gBe
  omega
theorem gBe_diff {C : List Ed} {e f : Ed} (hC : Apt false 0 C) (he : With C e) (hf : f.a ≤ f.b) (h : e.b ≤ f.a) : 0 ≤ gBe C f - gBe C e + ((f.a : Int) - e.b) := by
  have k := he.1.1
  have z := grow_filter (p := fun x => decide (x.b ≤ e.a)) (q := fun x => decide (x.b ≤ f.a)) (C := C) fun x _ hx => by
    rw [decide_eq_true_eq] at hx ⊢
    omega
  have r := row_room (X := C.filter fun x => decide (x.b ≤ f.a) && !decide (x.b ≤ e.a)) (p := e.b) (q := f.a) (filt_row hC fun x hx hp => by
    rw [Bool.and_eq_true, Bool.not_eq_true', decide_eq_true_eq, decide_eq_false_iff_not] at hp
    rcases he.2 x hx with q | q
    · exact absurd q.1 hp.2
    · exact q.1) h fun x hx => by
      have hp := (List.mem_filter.mp hx).2
      rw [Bool.and_eq_true, decide_eq_true_eq] at hp
      exact hp.1
  unfold gBe
  omega
theorem gBe_end {C : List Ed} {e : Ed} {L : Nat} (hC : Apt false 0 C) (he : With C e) (hl : e.b ≤ L) (hCl : ∀ x ∈ C, x.b ≤ L) : 0 ≤ growC C - gBe C e + ((L : Int) - e.b) := by
  have k := he.1.1
  have z := grow_filter (p := fun x => decide (x.b ≤ e.a)) (q := fun _ => true) (C := C) fun x _ _ => rfl
  have r := row_room (X := C.filter fun x => true && !decide (x.b ≤ e.a)) (p := e.b) (q := L) (filt_row hC fun x hx hp => by
    rw [Bool.true_and, Bool.not_eq_true', decide_eq_false_iff_not] at hp
    rcases he.2 x hx with q | q
    · exact absurd q.1 hp
    · exact q.1) hl fun x hx => hCl x (List.mem_filter.mp hx).1
  rw [List.filter_eq_self.mpr (fun _ _ => rfl)] at z
  unfold gBe
  omega
theorem sh_at {C : List Ed} {e : Ed} (hC : Apt false 0 C) (he : With C e) : ((shE C e).a : Int) = e.a + gBe C e ∧ ((shE C e).b : Int) = e.b + gBe C e ∧ Ne (shE C e) := by
  have h1 := gBe_ge (e := e) hC
  have h2 := he.1.1
  have e1 : ((shE C e).a : Int) = e.a + gBe C e := Int.toNat_of_nonneg h1
  have e2 : ((shE C e).b : Int) = e.b + gBe C e := Int.toNat_of_nonneg (by omega)
  refine ⟨e1, e2, by omega, ?_⟩
  rcases he.1.2 with q | q
  · exact .inl (by omega)
  · exact .inr q
theorem rest_row {C : List Ed} (hC : Apt false 0 C) : ∀ {E : List Ed} {s : Nat}, E.Pairwise Bf → (∀ e ∈ E, With C e) → (∀ e ∈ E, (s : Int) ≤ e.a + gBe C e) → Row s (E.map (shE C))
  | [], _, _, _, _ => trivial
  | e :: E, s, hp, hw, hs => by
    rw [List.pairwise_cons] at hp
    have he := hw e List.mem_cons_self
    obtain ⟨e1, e2, e3⟩ := sh_at hC he
    have := hs e List.mem_cons_self
    refine ⟨by omega, e3, rest_row hC hp.2 (fun f hf => hw f (List.mem_cons_of_mem _ hf)) fun f hf => ?_⟩
    have := gBe_diff hC he (hw f (List.mem_cons_of_mem _ hf)).1.1 (hp.1 f hf).1
    omega
theorem rest_end {C : List Ed} (hC : Apt false 0 C) {L : Nat} (hCl : ∀ x ∈ C, x.b ≤ L) : ∀ {E : List Ed} {s k : Nat}, (∀ e ∈ E, With C e ∧ e.b ≤ L) → (s : Int) ≤ k → (k : Int) = L + growC C → endC s (E.map (shE C)) ≤ k
  | [], _, _, _, h, _ => by
    show _ ≤ _
    exact Int.ofNat_le.mp h
  | e :: E, s, k, hw, hs, hk => by
    obtain ⟨h1, h2⟩ := hw e List.mem_cons_self
    have := gBe_end hC h1 h2 hCl
    obtain ⟨_, e2, _⟩ := sh_at hC h1
    rw [List.map_cons, endC_cons]
    exact rest_end hC hCl (fun f hf => hw f (List.mem_cons_of_mem _ hf)) (by omega) hk
theorem end_le {L : Nat} : ∀ {R : List Ed} {s : Nat}, (∀ x ∈ R, x.b ≤ L) → s ≤ L → endC s R ≤ L
  | [], _, _, h => h
  | x :: R, _, h, _ => by
    rw [endC_cons]
    exact end_le (fun y hy => h y (List.mem_cons_of_mem _ hy)) (h x List.mem_cons_self)
/-- what is left of E behind C does what all do at once -/
theorem rest_run {C : List Ed} {l : List Str} (hC : Apt false 0 C) (hCl : ∀ x ∈ C, x.b ≤ l.length) : ∀ {E S : List Ed}, E.Pairwise Bf → (∀ e ∈ E, With C e ∧ e.b ≤ l.length) → S.Pairwise Bf → (∀ x, x ∈ S ↔ x ∈ C ∨ x ∈ E) →
    apC (E.map (shE C)) 0 (apC C 0 l) = apC S 0 l
  | [], S, _, _, hS, hm => by
    rw [bf_uniq (apt_pw hC) hS fun x => by rw [hm x]; simp]
    rfl
  | e :: E, S, hp, hw, hS, hm => by
    have hpe := hp
    rw [List.pairwise_cons] at hp
    obtain ⟨w1, w2⟩ := hw e List.mem_cons_self
    have hwE : ∀ f ∈ E, With C f ∧ f.b ≤ l.length := fun f hf => hw f (List.mem_cons_of_mem _ hf)
    have neC : e ∉ C := fun z => (w1.2 e z).elim bf_irr bf_irr
    have neE : e ∉ E := fun z => bf_irr (hp.1 e z)
    obtain ⟨S2, eS2⟩ : ∃ S2, S2 = S.filter fun x => decide (x ≠ e) := ⟨_, rfl⟩
    have hS2 : S2.Pairwise Bf := by rw [eS2]; exact hS.sublist List.filter_sublist
    have hm2 : ∀ x, x ∈ S2 ↔ x ∈ C ∨ x ∈ E := fun x => by
      rw [eS2, List.mem_filter, hm x, decide_eq_true_eq]
      constructor
      · rintro ⟨h | h, h2⟩
        · exact .inl h
        · rcases List.mem_cons.mp h with q | q
          · exact absurd q h2
          · exact .inr q
      · rintro (h | h)
        · exact ⟨.inl h, fun z => neC (z ▸ h)⟩
        · exact ⟨.inr (List.mem_cons_of_mem _ h), fun z => neE (z ▸ h)⟩
    have ih := rest_run hC hCl hp.2 hwE hS2 hm2
    have ok : ∀ x ∈ S2, x.a ≤ x.b ∧ (Bf x e ∨ Bf e x) := fun x hx => by
      rcases (hm2 x).mp hx with q | q
      · exact ⟨(apt_mem hC x q).2.2.1, w1.2 x q⟩
      · exact ⟨(hwE x q).1.1.1, .inr (hp.1 x q)⟩
    obtain ⟨s1, s2⟩ := bf_split w1.1.1 hS2 ok
    have eP : S2.filter (fun x => decide (Bf x e)) = C.filter fun x => decide (x.b ≤ e.a) := by
      refine bf_uniq (hS2.sublist List.filter_sublist) ((apt_pw hC).sublist List.filter_sublist) fun x => ?_
      rw [List.mem_filter, List.mem_filter, hm2 x, decide_eq_true_eq, decide_eq_true_eq]
      constructor
      · rintro ⟨h | h, h2⟩
        · exact ⟨h, h2.1⟩
        · exact absurd h2 (bf_asym (hp.1 x h))
      · rintro ⟨h1, h2⟩
        refine ⟨.inl h1, (w1.2 x h1).resolve_right fun z => ?_⟩
        have k1 := (apt_mem hC x h1).2.2.1
        have k2 := w1.1.1
        unfold Bf at z
        omega
    generalize eQ : S2.filter (fun x => !decide (Bf x e)) = Q at *
    rw [eP] at s1 s2
    have eS : S = (C.filter fun x => decide (x.b ≤ e.a)) ++ e :: Q := by
      refine bf_uniq hS s2 fun x => ?_
      rw [hm x, List.mem_append, List.mem_cons]
      have z := hm2 x
      rw [s1, List.mem_append] at z
      rw [List.mem_cons]
      constructor
      · rintro (h | h | h)
        · exact (z.mpr (.inl h)).elim .inl fun q => .inr (.inr q)
        · exact .inr (.inl h)
        · exact (z.mpr (.inr h)).elim .inl fun q => .inr (.inr q)
      · rintro (h | h | h)
        · exact (z.mp (.inl h)).elim .inl fun q => .inr (.inr q)
        · exact .inr (.inl h)
        · exact (z.mp (.inr h)).elim .inl fun q => .inr (.inr q)
    have inS : ∀ x ∈ S, Ne x ∧ x.b ≤ l.length := fun x hx => by
      rcases (hm x).mp hx with q | q
      · exact ⟨(apt_mem hC x q).2.2, hCl x q⟩
      · obtain ⟨h1, h2⟩ := hw x q
        exact ⟨h1.1, h2⟩
    have rowS : Row 0 S := pw_row (fun x hx => ⟨Nat.zero_le _, (inS x hx).1⟩) hS
    have endS : endC 0 S ≤ l.length := end_le (fun x hx => (inS x hx).2) (Nat.zero_le _)
    obtain ⟨e1, e2, e3⟩ := sh_at hC w1
    -- put in at once
    rw [eS] at rowS endS
    obtain ⟨_, _, _, k4⟩ := apC_put1 (l := l) (i := e.a + gBe C e) (j := e.b + gBe C e) rowS endS rfl rfl
    -- put in behind C
    have hlenC : ((apC C 0 l).length : Int) = l.length + growC C := apC_len hC (by rw [Nat.zero_add]; exact end_le hCl (Nat.zero_le _))
    have rowE : Row 0 ((e :: E).map (shE C)) := rest_row hC hpe (fun f hf => (hw f hf).1) fun f hf => gBe_ge hC
    have endE : endC 0 ((e :: E).map (shE C)) ≤ (apC C 0 l).length := rest_end hC hCl hw (by omega) hlenC
    have g0 : growC [] = 0 := rfl
    obtain ⟨_, _, _, m4⟩ := apC_put1 (P := []) (Q := E.map (shE C)) (e := shE C e) (l := apC C 0 l) (i := (shE C e).a) (j := (shE C e).b) rowE endE (by rw [g0]; omega) (by rw [g0]; omega)
    show apC ([] ++ shE C e :: E.map (shE C)) 0 (apC C 0 l) = _
    rw [← m4, List.nil_append, ih, eS, ← k4, ← s1, e1, e2]
    rfl
end P5

end
section
set_option Elab.async false
set_option linter.all false
set_option maxRecDepth 100000
set_option maxHeartbeats 4000000
namespace P5
open PySem PySem.Spec PyProof.Rows L2
/-! ### the law: what it calls -/
abbrev sLaw : Stmt := tp 49
abbrev NL : List Str := ["script", "draw", "many", "one", "other", "first", "second", "words", "marks", "alike", "late", "start", "kept", "begin", "end", "new", "places", "gaps", "at", "place", "before", "whole", "both", "edit", "word"]
theorem scLaw : FnScope NL ["script"] (defScope sLaw) := ⟨rfl, rfl, rfl, by decide +kernel, rfl, by decide +kernel, by decide +kernel⟩
abbrev stL (i : Nat) : Stmt := (defBody sLaw).getD i (.Pass ⟨0, 0, 0, 0⟩)
abbrev XL (P : Program) (w : World) (K : PySem.W.Frag) (mg : Str → Option Value) (base : Heap) (fL : Addr) (cdv : Value) (A : Around) (outer : List Env) (s : Shared) (H : Hp) (E : XK) : Cx :=
  (cxOf CX0 P w K mg base NL "law" (defScope sLaw) fL cdv A outer s H E).nox
theorem and_one {t u : TT} {σ : L2.St} {H : Hp} {Q : Bool → Hp → Prop} {c d : Prop} [Decidable c] [Decidable d] (ht : ∀ Q' : Bool → Hp → Prop, Q' (decide c) H → t σ H Q') (hu : c → ∀ Q' : Bool → Hp → Prop, Q' (decide d) H → u σ H Q')
    (q : Q (decide (c ∧ d)) H) : tAnd t u σ H Q := by
  unfold tAnd
  refine ht _ ?_
  by_cases hc : c
  · rw [decide_eq_true hc]
    refine iteT (hu hc _ ?_)
    have e : decide (c ∧ d) = decide d := by
      by_cases hd : d
      · rw [decide_eq_true hd, decide_eq_true ⟨hc, hd⟩]
      · rw [decide_eq_false hd, decide_eq_false fun z => hd z.2]
    rw [← e]
    exact q
  · rw [decide_eq_false hc]
    refine iteF ?_
    rw [decide_eq_false fun z => hc z.1] at q
    exact q
theorem ite2d {c A B : Prop} [Decidable c] (h1 : c → A) (h2 : ¬ c → B) : if decide c = true then A else B := by
  by_cases h : c
  · rw [decide_eq_true h]
    exact iteT (h1 h)
  · rw [decide_eq_false h]
    exact iteF (h2 h)
theorem or_one {t u : TT} {σ : L2.St} {H : Hp} {Q : Bool → Hp → Prop} {c d : Prop} [Decidable c] [Decidable d] (ht : ∀ Q' : Bool → Hp → Prop, Q' (decide c) H → t σ H Q') (hu : ¬ c → ∀ Q' : Bool → Hp → Prop, Q' (decide d) H → u σ H Q')
    (q : Q (decide (c ∨ d)) H) : tOr t u σ H Q := by
  unfold tOr
  refine ht _ ?_
  by_cases hc : c
  · rw [decide_eq_true hc]
    refine iteT ?_
    rw [decide_eq_true (Or.inl hc)] at q
    exact q
  · rw [decide_eq_false hc]
    refine iteF (hu hc _ ?_)
    have e : decide (c ∨ d) = decide d := by
      by_cases hd : d
      · rw [decide_eq_true hd, decide_eq_true (Or.inr hd)]
      · rw [decide_eq_false hd, decide_eq_false fun z => z.elim hc hd]
    rw [← e]
    exact q
/-- a def of the module -/
structure Cl (P : Program) (w : World) (K : PySem.W.Frag) (mg : Str → Option Value) (base : Heap) (x : Str) (ps : List Str) (sp : Sp) : Prop where
  ex : ∃ f fd, FnOk P w K mg base CX0 20 f fd ps sp ∧ L2.Binds K fd ps [] ∧ PySem.W.keepIn K (.ref f) = true ∧ mg x = some (.ref f)
theorem pe_cl {X : Cx} {x : Str} {ps : List Str} {sp : Sp} {e : Expr} {es : List Expr} {t : TA} {p pos : Pos} (C : Cl X.prog X.w X.K X.mg X.base x ps sp) (hr : Room 20 X.A) (ha : PA X (e :: es) t) (hg : Gl X x := by rfl)
    (hdb : (x == ("__debug__" : Str)) = false := by decide) (he : starEach (e :: es) X.env = (false, eval e X.env) :: starEach es X.env := by rfl) (hpl : (backTo pos (starEach es X.env)).any (·.1) = false := by rfl) :
    PE X (.Call (.Name x p) (e :: es) [] pos) (tCall sp [] E0 t) := by
  obtain ⟨f, fd, G, b, k, m⟩ := C.ex
  exact pe_call G hr hg m k b .nil pass0 ha hdb he hpl
/-- a method of the class at C -/
structure MtC (P : Program) (w : World) (K : PySem.W.Frag) (mg : Str → Option Value) (base : Heap) (C : Addr) (m : Str) (ps : List Str) (sp : Sp) : Prop where
  ex : ∃ f fd, Meth K C m f ∧ FnOk P w K mg base CX0 20 f fd ps sp ∧ L2.Binds K fd ps []
/-- a special method of the class at C -/
structure SpC (P : Program) (w : World) (K : PySem.W.Frag) (mg : Str → Option Value) (base : Heap) (C : Addr) (m : Str) (ps : List Str) (sp : Sp) : Prop where
  ex : ∃ f fd, PySem.W.findIn K (.ref C) m = some (some (.ref f)) ∧ PySem.W.isFn K (.ref f) = true ∧ FnOk P w K mg base CX0 12 f fd ps sp ∧ L2.Binds K fd ps []
theorem passLN {X : Cx} : Passes (L2N.CX X.prog X.w) X E0 := fun _ _ _ _ _ _ _ h => by
  obtain ⟨_, _, _, _, _, _, _, _, _, _, _, _, z⟩ := h
  exact z.elim
/-- patches are called; one that does not fit raises -/
structure ClP (P : Program) (w : World) (K : PySem.W.Frag) (mg : Str → Option Value) (base : Heap) (CP CB : Addr) : Prop where
  ex : ∃ f, StX.CallO K CP f ∧ FnR P w K mg base (L2N.CX P w) 20 f (fun vs H Q E => spPCall K CP CB (vs ++ []) H Q E)
/-- the class of patches -/
structure PC (K : PySem.W.Frag) (C : Addr) : Prop where
  cl : Cls K C
  nC : NoAttr K C "changes"
  nL : NoAttr K C "least"
structure CK (P : Program) (w : World) (K : PySem.W.Frag) (mg : Str → Option Value) (base : Heap) (CE CP CB : Addr) : Prop where
  next : Cl P w K mg base "_law_next" ["draw", "bound"] spNext
  wds : Cl P w K mg base "_law_words" ["draw", "many"] spWds
  les : Cl P w K mg base "_law_edits" ["draw", "many", "turns"] (spLEs K CE)
  dn : Cl P w K mg base "_law_done" ["edits", "words"] (spDn K CE)
  mks : Cl P w K mg base "_law_marks" ["many"] spMks
  lst : Cl P w K mg base "_law_least" ["edits"] (spLst K CE)
  pat : Cl P w K mg base "patch" ["edits"] (spPatch K CE CP)
  beh : Cl P w K mg base "behind" ["one", "other"] (spBeh K CP)
  gE : MtC P w K mg base CE "growth" ["self"] (spGrow K CE)
  gP : MtC P w K mg base CP "growth" ["self"] (spPGrow K CP)
  eds : MtC P w K mg base CP "edits" ["self"] (spPEds K CE CP)
  lenP : SpC P w K mg base CP "__len__" ["self"] (spPLen K CP)
  boolP : SpC P w K mg base CP "__bool__" ["self"] (spPBool K CP)
  eqP : SpC P w K mg base CP "__eq__" ["self", "other"] (spPEq K CP)
  neP : PySem.W.findIn K (.ref CP) "__ne__" = some (some (.builtin "object.__ne__"))
  obP : PySem.W.subIn K (.ref CP) (.type "object") = some true
  call : ClP P w K mg base CP CB
  mkE : ∃ fI fdI, MkE P w K mg base CE fI fdI
  clE : EC K CE
  clP : PC K CP
  range : mg "range" = none
  len : mg "len" = none
  bool : mg "bool" = none
  sum : mg "sum" = none
  tup : mg "tuple" = none
  lst' : mg "list" = none
  enum : mg "enumerate" = none
theorem mk_edV {K : PySem.W.Frag} {CE : Addr} {Q : Addr → Hp → Prop} {E : XK} {l : Addr} {i j : Int} {e : Ed} {H : Hp} (hi : i = e.a) (hj : j = e.b) (hS : SqE K H l (e.ws.map V.str)) (he : e.Ok) (q : ∀ H' x, Same H H' → H x = none → EdH K CE H' x e → Q x H') :
    ∀ x dx, H x = none → H dx = none → dx ≠ x → spInit K CE (.ref x :: ([.int i, .int j, .ref l] ++ [])) (upd (upd H dx (.own x)) x (.ins CE dx [])) (fun v H2 => v = .non ∧ Q x H2) E := by
  subst hi hj
  intro x dx hx hdx hne
  have s1 : Same H (upd (upd H dx (.own x)) x (.ins CE dx [])) := (Same.new hdx _).trans (Same.new (by rw [upd_ne (Ne.symm hne)]; exact hx) _)
  refine ⟨x, dx, l, e, rfl, upd_same, hS.same s1, he, fun H' hB hE => ⟨rfl, q H' x (fun b o hb => hB _ _ (fun z => ?_) (s1 _ _ hb)) hx hE⟩⟩
  rw [z, hx] at hb
  cases hb
section
variable {P : Program} {w : World} {K : PySem.W.Frag} {mg : Str → Option Value} {base : Heap} {fL CE CP CB : Addr} {cdv : Value} {A : Around} {outer : List Env} {s : Shared} {H0 : Hp} {E : XK}
theorem law0 : ∃ t, PS (XL P w K mg base fL cdv A outer s H0 E) (stL 0) t ∧ ∀ (D : Ends) (a : Addr) (ns : List Int) (v : Option V) (r : List (Option V)) (H : Hp), SqL K H a (ns.map V.int) → ns.length ≤ 63 →
    (∀ d sa H', DrwS H' d sa → D.nx (some (.ref a) :: some (.ref d) :: r) H') → t D (some (.ref a) :: v :: r) H := by
  refine ⟨_, ps_set (i := 1) scLaw.nd rfl (Or.inl rfl) (pe_lst (pa_cons (pe_slice (r := rSlL K) sl_list (pv 0) po_none (po_some pe_int)) (pa_cons pe_int (pa_cons pe_int pa_nil)))), ?_⟩
  intro D a ns v r H hS hl q
  refine ⟨_, rfl, _, rfl, a, _, rfl, hS, fun p hp => ⟨(by show 3 ≤ sizeLine; decide), fun d hd => ?_⟩⟩
  have s1 := Same.new hp (.lst (cutV (ns.map V.int) none (some 63)))
  have s2 := Same.new hd (.lst [.ref p, .int 0, .int 0])
  refine q d p _ ⟨ns.take 63, 0, upd_same, s2 _ _ ?_, by rw [List.length_take]; omega, Int.le_refl _⟩
  rw [upd_same]
  unfold cutV
  rw [show HT.sIx (ns.map V.int).length 0 none = 0 from rfl, show (some (63 : Int)) = some ((63 : Nat) : Int) from rfl, six0, List.drop_zero, Nat.sub_zero, List.map_take]
  by_cases h : 63 ≤ (ns.map V.int).length
  · rw [Nat.min_eq_left h]
  · rw [Nat.min_eq_right (by omega), List.take_of_length_le (Nat.le_refl _), List.take_of_length_le (by omega)]
/-- a drawn row of edits -/
structure RowH (K : PySem.W.Frag) (CE : Addr) (H : Hp) (l : Addr) (cs : List Addr) (es : List Ed) : Prop where
  at_ : H l = some (.lst (cs.map V.ref))
  eds : EdsH K CE H cs es
theorem RowH.same {H H' : Hp} {l : Addr} {cs : List Addr} {es : List Ed} (s : Same H H') (h : RowH K CE H l cs es) : RowH K CE H' l cs es := ⟨s _ _ h.at_, h.eds.imp fun _ _ q => q.same s⟩
theorem RowH.ne {H : Hp} {l d sa : Addr} {cs : List Addr} {es : List Ed} (hd : DrwS H d sa) (h : RowH K CE H l cs es) : l ≠ d := hd.drw.ne h.at_ refs_nd
theorem RowH.aft {H H' : Hp} {l d sa : Addr} {cs : List Addr} {es : List Ed} (hd : DrwS H d sa) (s : Aft H H' d) (h : RowH K CE H l cs es) : RowH K CE H' l cs es := ⟨s _ _ (h.ne hd) h.at_, h.eds.imp fun _ _ q => q.aft hd s⟩
/-- what the law's edits are -/
structure RowOk (es : List Ed) (n k : Nat) : Prop where
  fits : Fits es n
  few : Few es
  len : es.length ≤ k
  siz : siz es n ≤ n + 2 * k
theorem RowH.ok {H : Hp} {l : Addr} {cs : List Addr} {es : List Ed} (h : RowH K CE H l cs es) : ∀ e ∈ es, e.Ok := fun e he => by
  obtain ⟨i, hi⟩ := List.getElem?_of_mem he
  have hlen := h.eds.len
  have hilt : i < es.length := by
    by_cases z : i < es.length
    · exact z
    · rw [List.getElem?_eq_none (by omega)] at hi
      cases hi
  obtain ⟨e', h1, h2⟩ := h.eds.get (i := i) (c := cs[i]'(by omega)) (List.getElem?_eq_getElem (by omega))
  rw [hi] at h1
  cases h1
  obtain ⟨_, _, _, _, ho⟩ := h2
  exact ho
end
end P5

end
section
set_option Elab.async false
set_option linter.all false
set_option maxRecDepth 100000
set_option maxHeartbeats 4000000
namespace P5
open PySem PySem.Spec PyProof.Rows L2
section
variable {P : Program} {w : World} {K : PySem.W.Frag} {mg : Str → Option Value} {base : Heap} {fL CE CP CB : Addr} {cdv : Value} {A : Around} {outer : List Env} {s : Shared} {H0 : Hp} {E : XK}
theorem few_tot {es : List Ed} {k : Nat} (h : Few es) (hl : es.length ≤ k) : tot es ≤ 2 * k := by
  have z : ∀ {es : List Ed}, Few es → tot es ≤ 2 * es.length := fun {es} h => by
    induction es with
    | nil => exact Nat.le_refl _
    | cons e es ih =>
      have h1 := (h e List.mem_cons_self).1
      have h2 := ih fun x hx => h x (List.mem_cons_of_mem _ hx)
      show e.ws.length + tot es ≤ 2 * (es.length + 1)
      omega
  have := z h
  omega
end
end P5

end
section
set_option Elab.async false
set_option linter.all false
set_option maxRecDepth 100000
set_option maxHeartbeats 4000000
namespace P5
open PySem PySem.Spec PyProof.Rows L2
section
variable {P : Program} {w : World} {K : PySem.W.Frag} {mg : Str → Option Value} {base : Heap} {fL CE CP CB : Addr} {cdv : Value} {A : Around} {outer : List Env} {s : Shared} {H0 : Hp} {E : XK}
theorem done_le : ∀ {es : List Ed} {l : List Str}, (∀ e ∈ es, e.Ok) → Few es → Fits es l.length → (done es l).length ≤ l.length + 2 * es.length
  | [], l, _, _, _ => Nat.le_refl _
  | e :: es, l, ho, h, hf => by
    have h1 := (h e List.mem_cons_self).1
    have hle := (ho e List.mem_cons_self).le
    have hs := app_siz hf.1 hle
    have ih := done_le (es := es) (l := app e l) (fun x hx => ho x (List.mem_cons_of_mem _ hx)) (fun x hx => h x (List.mem_cons_of_mem _ hx)) (by rw [hs]; exact hf.2)
    show (done es (app e l)).length ≤ l.length + 2 * (es.length + 1)
    omega
/-- the law's words: as many as are drawn, or some more -/
structure WdH (H : Hp) (lw : Addr) (ws : List Str) (n : Nat) : Prop where
  ls : LsH H lw ws
  lo : n ≤ ws.length
  hi : ws.length ≤ n + 5
end
end P5

end
section
set_option Elab.async false
set_option linter.all false
set_option maxRecDepth 100000
set_option maxHeartbeats 4000000
namespace P5
open PySem PySem.Spec PyProof.Rows L2
section
variable {P : Program} {w : World} {K : PySem.W.Frag} {mg : Str → Option Value} {base : Heap} {fL CE CP CB : Addr} {cdv : Value} {A : Around} {outer : List Env} {s : Shared} {H0 : Hp} {E : XK}
theorem op_eqI {X : Cx} {CE f : Addr} {fd : FuncData} {k : Nat} {ps : List Str} {sp : Sp} (hs : PySem.W.findIn X.K (.ref CE) "__eq__" = some (some (.ref f))) (hf : PySem.W.isFn X.K (.ref f) = true) (F : FnOk X.prog X.w X.K X.mg X.base CX0 k f fd ps sp) (hb : L2.Binds X.K fd ps []) (hr : Room k X.A) :
    OpR X (compareOp .Eq) (fun x y H Q => ∃ (a b : Addr), x = .ref a ∧ y = .ref b ∧ InsI H a CE ∧ InsI H b CE ∧ sp [.ref a, .ref b] H (fun v H' => ∃ c, v = .bl c ∧ Q (.bl c) H') (fun _ _ _ => False)) := by
  intro pins s σ H x y v u Q I rx ry h
  obtain ⟨a, b, rfl, rfl, ho, ho2, q⟩ := h
  cases (show v = Value.ref a from rx)
  cases (show u = Value.ref b from ry)
  show wpAny (model X.prog X.w) X.A (richCompare .Eq (.ref a) (.ref b)) (EP X pins σ Q) X.xe s
  obtain ⟨ox, od, J⟩ := insI_at I ho
  obtain ⟨ox2, od2, J2⟩ := insI_at I ho2
  obtain ⟨m, hF⟩ := I.fr
  refine PySem.W.cmp_K (op := .Eq) (tb := .ref CE) hr.units0 hF I.ok.mod.kin J J2.type (by simp [PySem.W.notFirst]) hs hf ?_
  refine wpAny_mono (call_own (us := [.ref a, .ref b]) (vs := [.ref a, .ref b]) F hr hb I I.env0 (.cons rfl (.cons rfl .nil)) q) (fun z s' hz => ?_) fun _ _ e => e
  obtain ⟨v', H', I', rz, c, rfl, hQ⟩ := hz
  cases (show z = Value.bool c from rz)
  exact ⟨.bl c, H', I', rfl, hQ⟩
/-- list(a patch) -/
def rListP (K : PySem.W.Frag) (CP : Addr) : List V → Hp → VK → Prop := fun xs H Q => ∃ (p dx t : Addr) (vs : List V) (C : List Ed) (m : Nat), xs = [.ref p] ∧ H p = some (.ins CP dx (PtFs t m)) ∧ SqT K H t vs ∧ ChsV K H vs C ∧ PtOk C m ∧ ∀ H' l, Same H H' → H l = none → H' l = some (.lst vs) → Q (.ref l) H'
end
end P5

end
section
set_option Elab.async false
set_option linter.all false
set_option maxRecDepth 100000
set_option maxHeartbeats 4000000
namespace P5
open PySem PySem.Spec PyProof.Rows L2
section
variable {P : Program} {w : World} {K : PySem.W.Frag} {mg : Str → Option Value} {base : Heap} {fL CE CP CB : Addr} {cdv : Value} {A : Around} {outer : List Env} {s : Shared} {H0 : Hp} {E : XK}
end
end P5

end
section
set_option Elab.async false
set_option linter.all false
set_option maxRecDepth 100000
set_option maxHeartbeats 4000000
namespace P5
open PySem PySem.Spec PyProof.Rows L2
section
variable {P : Program} {w : World} {K : PySem.W.Frag} {mg : Str → Option Value} {base : Heap} {fL CE CP CB : Addr} {cdv : Value} {A : Around} {outer : List Env} {s : Shared} {H0 : Hp} {E : XK}
theorem atI_nat {α : Type} (xs : List α) (i : Nat) : atI xs (i : Int) = xs[i]? := by
  unfold atI ixN
  rw [if_pos (by omega)]
  by_cases h : i < xs.length
  · rw [if_pos (by omega), Int.toNat_natCast]
    rfl
  · rw [if_neg (by omega), List.getElem?_eq_none (by omega)]
    rfl
theorem atI_zero (p : Int) (P : List Int) : atI ((p :: P).map V.int) 0 = some (V.int p) := atI_nat ((p :: P).map V.int) 0
theorem type_list_index : typeOf (.builtin "list.index") = pure (.type "method_descriptor") := by show builtinType _ = _; rw [builtinType_eq_fast]; kernel_rfl
theorem inV_str (x : Str) : ∀ (M : List Str), inV (.str x) (M.map V.str) = decide (x ∈ M)
  | [] => rfl
  | y :: M => by
    show ((y == x) || inV (.str x) (M.map V.str)) = _
    rw [inV_str x M]
    by_cases h : y = x
    · subst h
      simp
    · have h2 : ¬ x = y := fun z => h z.symm
      simp [h, h2]
theorem flat_strs (M : List Str) : (M.map V.str).all flatV = true := by
  rw [List.all_eq_true]
  intro v hv
  obtain ⟨x, _, e⟩ := List.mem_map.mp hv
  rw [← e]
  rfl
theorem idx_first {M : List Str} {x : Str} (h : x ∈ M) : M[M.idxOf x]? = some x ∧ ∀ m y, m < M.idxOf x → M[m]? = some y → y ≠ x := by
  have h1 : M.idxOf x < M.length := List.idxOf_lt_length_iff.mpr h
  refine ⟨by rw [List.getElem?_eq_getElem h1]; simp, fun m y hm hy e => ?_⟩
  subst e
  induction M generalizing m with
  | nil => simp at hm
  | cons z M ih =>
    by_cases hz : z = y
    · subst hz
      simp at hm
    · have e : (z :: M).idxOf y = M.idxOf y + 1 := by rw [List.idxOf_cons, beq_false_of_ne hz]; rfl
      rw [e] at hm
      cases m with
      | zero => exact hz (by simpa using hy)
      | succ m =>
        have hxM : y ∈ M := (List.mem_cons.mp h).resolve_left fun q => hz q.symm
        exact ih m (by simpa using hy) hxM (List.idxOf_lt_length_iff.mpr hxM) (by omega)
/-- 1, if the first place is not the first word's -/
def gap0 : List Int → Nat
  | [] => 0
  | p :: _ => if 0 < p then 1 else 0
end
end P5

end
section
set_option Elab.async false
set_option linter.all false
set_option maxRecDepth 100000
set_option maxHeartbeats 4000000
namespace P5
open PySem PySem.Spec PyProof.Rows L2
section
variable {P : Program} {w : World} {K : PySem.W.Frag} {mg : Str → Option Value} {base : Heap} {fL CE CP CB : Addr} {cdv : Value} {A : Around} {outer : List Env} {s : Shared} {H0 : Hp} {E : XK}
theorem gn_if {i : Nat} {v : V} {σ : L2.St} {H : Hp} {c : TT} {t u : TS} {D : Ends} (h : c (σ.set i (some v)) H fun b H1 => if b = true then t D (σ.set i (some v)) H1 else u D (σ.set i (some v)) H1) : gName i v σ H (tIfS c t u D) := h
theorem ifx_one {t : TT} {ta tb : TE} {σ : L2.St} {H : Hp} {Q : VK} {c : Prop} [Decidable c] {v : V} (ht : ∀ Q' : Bool → Hp → Prop, Q' (decide c) H → t σ H Q') (ha : c → ∀ Q' : VK, Q' v H → ta σ H Q') (hb : ¬ c → ∀ Q' : VK, Q' v H → tb σ H Q')
    (q : Q v H) : tIf t ta tb σ H Q := ht _ (ite2d (fun h => ha h _ q) (fun h => hb h _ q))
theorem eqd_int {i j : Int} {Q : Bool → Hp → Prop} {H : Hp} (q : Q (decide (i = j)) H) : Q (decide (V.int i = V.int j)) H := by
  rw [show decide (V.int i = V.int j) = decide (i = j) from decide_eq_decide.mpr ⟨V.int.inj, congrArg V.int⟩]
  exact q
theorem ned_int {i j : Int} {Q : Bool → Hp → Prop} {H : Hp} (q : Q (decide (i ≠ j)) H) : Q (!decide (V.int i = V.int j)) H := by
  rw [show (!decide (V.int i = V.int j)) = decide (i ≠ j) from by rw [show decide (V.int i = V.int j) = decide (i = j) from decide_eq_decide.mpr ⟨V.int.inj, congrArg V.int⟩]; exact decide_not.symm]
  exact q
/-- where the next kept place is, behind one -/
def stp (p : Int) : Option Nat := if p < 0 then none else some (p.toNat + 1)
/-- the gaps so far, before turn i, and all of them -/
def GapI (P : List Int) (i g : Nat) : Prop := (i = 0 ∧ g = gap0 P) ∨ ∃ j p, i = j + 1 ∧ P[j]? = some p ∧ g + cnt (stp p) (P.drop (j + 1)) = cnt (some 0) P
theorem gapI_end {P : List Int} {g : Nat} (h : GapI P P.length g) : g = cnt (some 0) P := by
  rcases h with ⟨h1, h2⟩ | ⟨j, p, h1, h2, h3⟩
  · rw [List.length_eq_zero_iff.mp h1] at h2 ⊢
    exact h2
  · rw [← h1, List.drop_length] at h3
    have z : cnt (stp p) [] = 0 := by
      unfold stp
      by_cases hp : p < 0
      · rw [if_pos hp]; rfl
      · rw [if_neg hp]; rfl
    omega
theorem cnt_stp (q : Int) (r : List Int) : (∀ E, cnt (some E) (q :: r) = (if q < 0 ∨ q ≠ (E : Int) then 1 else 0) + cnt (stp q) r) ∧ cnt none (q :: r) = cnt (stp q) r := by
  constructor
  · intro E
    rw [cnt]
    unfold stp
    by_cases h : q < 0
    · rw [if_pos h, if_pos h, if_pos (Or.inl h)]
    · rw [if_neg h, if_neg h]
      by_cases h2 : q = (E : Int)
      · rw [if_pos h2, if_neg (fun z => z.elim h (fun z => z h2))]
      · rw [if_neg h2, if_pos (Or.inr h2)]
  · rw [cnt]
    unfold stp
    by_cases h : q < 0
    · rw [if_pos h, if_pos h]
    · rw [if_neg h, if_neg h]
theorem gapI_next {P : List Int} {i g : Nat} {p b : Int} (h : GapI P i g) (hp : P[i]? = some p) (hb : b = if 0 < i then P.getD (i - 1) 0 else 0) :
    GapI P (i + 1) (g + if (p < 0 ∧ (i = 0 ∨ 0 ≤ b)) ∨ (0 < i ∧ 0 ≤ p ∧ 0 ≤ b ∧ p ≠ b + 1) then 1 else 0) := by
  refine .inr ⟨i, p, rfl, hp, ?_⟩
  have hi : i < P.length := by
    by_cases z : i < P.length
    · exact z
    · rw [List.getElem?_eq_none (by omega)] at hp
      cases hp
  have hdr : P.drop i = p :: P.drop (i + 1) := by
    rw [List.getElem?_eq_getElem hi] at hp
    rw [List.drop_eq_getElem_cons hi, Option.some.inj hp]
  rcases h with ⟨h1, h2⟩ | ⟨j, q, h1, h2, h3⟩
  · subst h1
    cases P with
    | nil => cases hp
    | cons x R =>
      have ex : x = p := by simpa using hp
      subst ex
      rw [(cnt_stp x R).1 0, h2]
      show (if 0 < x then 1 else 0) + _ + cnt (stp x) R = _
      split <;> split <;> split <;> omega
  · subst h1
    have hbq : b = q := by
      rw [hb, if_pos (by omega), Nat.add_sub_cancel, List.getD_eq_getElem?_getD, h2]
      rfl
    rw [hdr] at h3
    rw [← h3]
    by_cases c : q < 0
    · have e : stp q = none := if_pos c
      rw [e, (cnt_stp p _).2]
      split <;> omega
    · have e : stp q = some (q.toNat + 1) := if_neg c
      rw [e, (cnt_stp p _).1]
      have e2 : ((q.toNat + 1 : Nat) : Int) = b + 1 := by omega
      rw [e2]
      split <;> split <;> omega
end
end P5

end
section
set_option Elab.async false
set_option linter.all false
set_option maxRecDepth 100000
set_option maxHeartbeats 4000000
namespace P5
open PySem PySem.Spec PyProof.Rows L2
section
variable {P : Program} {w : World} {K : PySem.W.Frag} {mg : Str → Option Value} {base : Heap} {fL CE CP CB : Addr} {cdv : Value} {A : Around} {outer : List Env} {s : Shared} {H0 : Hp} {E : XK}
theorem EdsH.app {K : PySem.W.Frag} {CE : Addr} {H : Hp} : ∀ {cs ds : List Addr} {es fs : List Ed}, EdsH K CE H cs es → EdsH K CE H ds fs → EdsH K CE H (cs ++ ds) (es ++ fs)
  | [], _, [], _, _, h2 => h2
  | a :: cs, _, b :: es, _, h, h2 => ⟨h.1, EdsH.app h.2 h2⟩
  | [], _, b :: es, _, h, _ => h.elim
  | a :: cs, _, [], _, h, _ => h.elim
theorem tot_app (es fs : List Ed) : tot (es ++ fs) = tot es + tot fs := by
  unfold tot
  rw [List.map_append, List.sum_append]
/-- how many words changes put in, and how many changes there are -/
theorem tot_le : ∀ {C : List Ed} {t : Bool} {s : Nat}, Apt t s C → (tot C : Int) + s ≤ growC C + endC s C ∧ (C.length : Int) + s ≤ tot C + endC s C
  | [], _, s, _ => ⟨by show (0 : Int) + s ≤ 0 + s; omega, by show ((0 : Nat) : Int) + s ≤ ((0 : Nat) : Int) + s; omega⟩
  | e :: C, _, s, .cons h1 _ h3 h4 h5 => by
    obtain ⟨i1, i2⟩ := tot_le h5
    rw [endC_cons]
    have eg : growC (e :: C) = grow e + growC C := rfl
    have et : tot (e :: C) = e.ws.length + tot C := rfl
    have el : (e :: C).length = C.length + 1 := rfl
    have eg2 : grow e = (e.ws.length : Int) - ((e.b : Int) - (e.a : Int)) := rfl
    rw [eg, et, el, eg2]
    have h6 : 1 ≤ e.ws.length + (e.b - e.a) := by
      rcases h4 with h | h
      · omega
      · have : e.ws.length ≠ 0 := fun z => h (List.length_eq_zero_iff.mp z)
        omega
    constructor <;> omega
theorem growS_le : ∀ {es : List Ed}, (∀ e ∈ es, e.a ≤ e.b) → growS es ≤ tot es
  | [], _ => Int.le_refl _
  | e :: es, h => by
    have i := growS_le fun x hx => h x (List.mem_cons_of_mem _ hx)
    have h1 := h e List.mem_cons_self
    have eg : growS (e :: es) = grow e + growS es := rfl
    have et : tot (e :: es) = e.ws.length + tot es := rfl
    have eg2 : grow e = (e.ws.length : Int) - ((e.b : Int) - (e.a : Int)) := rfl
    rw [eg, et, eg2]
    omega
/-- a patch of few edits is small -/
theorem nf_small {es C : List Ed} {m : Nat} (h : NF es C m) (hC : PtOk C m) (he : ∀ e ∈ es, e.a ≤ e.b) : tot C ≤ tot es + m ∧ C.length ≤ tot es + m + m := by
  obtain ⟨a1, a2⟩ := tot_le hC.apt
  have b := nf_grow h hC he
  have c := growS_le he
  have d := hC.fin
  constructor <;> omega
theorem rowOk_few {es : List Ed} {n k : Nat} (h : RowOk es n k) : tot es ≤ 2 * k := few_tot h.few h.len
/-- what is known behind row 17 -/
structure WhH (K : PySem.W.Frag) (CE CP : Addr) (H : Hp) (lw o1 p1 lm : Addr) (c1 c3 : List Addr) (e1 e3 C1 : List Ed) (n m1 : Nat) : Prop where
  w : RowH K CE H lw (c1 ++ c3) (e1 ++ e3)
  r : RowH K CE H o1 c1 e1
  k : RowOk e1 n 5
  n10 : n ≤ 10
  f3 : Fits e3 (siz e1 n)
  w3 : Few e3
  l3 : e3.length = 2
  pt : PtH K CP H p1 C1 m1
  nf : NF e1 C1 m1
  mx : LsH H lm (MKS (n + 3))
theorem EdsH.right {H : Hp} : ∀ {cs ds : List Addr} {es fs : List Ed}, cs.length = es.length → EdsH K CE H (cs ++ ds) (es ++ fs) → EdsH K CE H ds fs
  | [], _, [], _, _, h => h
  | a :: cs, _, b :: es, _, hl, h => EdsH.right (by simpa using hl) h.2
  | [], _, b :: es, _, hl, _ => by cases hl
  | a :: cs, _, [], _, hl, _ => by cases hl
end
end P5

end
section
set_option Elab.async false
set_option linter.all false
set_option maxRecDepth 100000
set_option maxHeartbeats 4000000
/-! patches of two hands: what all do, and what is left -/
namespace P5
open PySem PySem.Spec PyProof.Rows L2
theorem sub_len : ∀ {S L : List Ed}, S.Nodup → (∀ x ∈ S, x ∈ L) → S.length ≤ L.length ∧ tot S ≤ tot L
  | [], _, _, _ => ⟨Nat.zero_le _, Nat.zero_le _⟩
  | x :: S, L, h, hm => by
    rw [List.nodup_cons] at h
    have hx := hm x List.mem_cons_self
    have pm := List.perm_cons_erase hx
    have ih := sub_len (L := L.erase x) h.2 fun y hy => (List.mem_erase_of_ne (fun (z : y = x) => h.1 (z ▸ hy))).mpr (hm y (List.mem_cons_of_mem _ hy))
    have l1 := pm.length_eq
    have l2 : tot L = tot (x :: L.erase x) := by
      unfold tot
      exact (pm.map _).sum_nat
    have t1 : ∀ X : List Ed, tot (x :: X) = x.ws.length + tot X := fun X => by unfold tot; rw [List.map_cons, List.sum_cons]
    rw [t1] at l2 ⊢
    rw [List.length_cons] at l1 ⊢
    omega
theorem tot_one {C : List Ed} {e : Ed} (h : e ∈ C) : e.ws.length ≤ tot C := by
  induction C with
  | nil => cases h
  | cons x C ih =>
    have t1 : tot (x :: C) = x.ws.length + tot C := by unfold tot; rw [List.map_cons, List.sum_cons]
    rcases List.mem_cons.mp h with z | z
    · subst z; omega
    · have := ih z; omega
/-- changes that go together are, as one, those of a patch -/
theorem one_ok {R : List Ed} {s n : Nat} (hR : Row 0 R) (hE : endC 0 R ≤ n) (hn : n ≤ 200) (hl : R.length ≤ 200) (ht : tot R ≤ 200) (hw : ∀ e ∈ R, ∀ x ∈ e.ws, x ∈ MRK) : PtOk (asOne R) n where
  apt := asOne_apt hR
  fin := by rw [asOne_end]; exact hE
  ok := fun e he => by
    have h1 := (asOne_apt hR).row.mem e he
    rw [asOne_end] at h1
    refine ⟨h1.2.1.1, fun x hx => ?_, ?_, by omega⟩
    · obtain ⟨d, h2, h3⟩ := asOne_mem he hx
      exact hw d h2 x h3
    · have := tot_one he
      rw [asOne_tot] at this
      omega
  sm := hn
  few := Nat.le_trans asOne_len hl
theorem uni_row {S : List Ed} (hS : S.Pairwise Bf) (hN : ∀ x ∈ S, Ne x) : Row 0 S := pw_row (fun x hx => ⟨Nat.zero_le _, hN x hx⟩) hS
theorem uni_ok {S L : List Ed} {n : Nat} (hS : S.Pairwise Bf) (hm : ∀ x ∈ S, x ∈ L) (hL : ∀ x ∈ L, Ne x ∧ x.b ≤ n ∧ ∀ z ∈ x.ws, z ∈ MRK) (hn : n ≤ 200) (hl : L.length ≤ 200) (ht : tot L ≤ 200) : PtOk (asOne S) n := by
  obtain ⟨h1, h2⟩ := sub_len (pw_nodup hS) hm
  exact one_ok (s := 0) (uni_row hS fun x hx => (hL x (hm x hx)).1) (end_le (fun x hx => (hL x (hm x hx)).2.1) (Nat.zero_le _)) hn (by omega) (by omega) fun e he => (hL e (hm e he)).2.2
/-- two patches that go together -/
structure Tg (C D : List Ed) (m k : Nat) : Prop where
  c : PtOk C m
  d : PtOk D k
  go : ∀ e ∈ C, ∀ f ∈ D, Go e f
theorem Tg.symm {C D : List Ed} {m k : Nat} (h : Tg C D m k) : Tg D C k m := ⟨h.d, h.c, fun e he f hf => by
  rcases h.go f hf e he with z | ⟨z, z2⟩
  · exact .inl z.symm
  · exact .inr ⟨z.symm, fun q => z2 ⟨q.1.symm, q.2.symm⟩⟩⟩
theorem PtOk.ne {C : List Ed} {m : Nat} (h : PtOk C m) {e : Ed} (he : e ∈ C) : Ne e ∧ e.b ≤ m := by
  have z := h.apt.row.mem e he
  exact ⟨z.2.1, Nat.le_trans z.2.2 h.fin⟩
theorem Tg.with_ {C D : List Ed} {m k : Nat} (h : Tg C D m k) : ∀ e ∈ D.filter (fun e => decide (e ∉ C)), With C e ∧ e.b ≤ max m k := fun e he => by
  obtain ⟨h1, h2⟩ := List.mem_filter.mp he
  have h3 : e ∉ C := of_decide_eq_true h2
  have ne := h.d.ne h1
  refine ⟨⟨ne.1, fun x hx => ?_⟩, by omega⟩
  exact (h.go x hx e h1).bf (h.c.ne hx).1.1 ne.1.1 fun z => h3 (z ▸ hx)
theorem Tg.rest {C D : List Ed} {m k j : Nat} (h : Tg C D m k) (hj : (j : Int) = max m k + growC C) (hn : j ≤ 200) (hl : D.length ≤ 200) (ht : tot D ≤ 200) : Row 0 (rest0 C D) ∧ PtOk (asOne (rest0 C D)) j := by
  have hp : (D.filter (fun e => decide (e ∉ C))).Pairwise Bf := (apt_pw h.d.apt).sublist List.filter_sublist
  have hr : Row 0 (rest0 C D) := rest_row h.c.apt hp (fun e he => (h.with_ e he).1) fun e he => gBe_ge h.c.apt
  have hCl : ∀ x ∈ C, x.b ≤ max m k := fun x hx => by have := (h.c.ne hx).2; omega
  have eE : endC 0 (rest0 C D) ≤ j := rest_end h.c.apt (L := max m k) hCl h.with_ (by omega) (by omega)
  have lF : (D.filter (fun e => decide (e ∉ C))).length ≤ D.length := List.length_filter_le _ _
  have tF : tot (rest0 C D) ≤ tot D := by
    have e1 : tot (rest0 C D) = tot (D.filter (fun e => decide (e ∉ C))) := by
      unfold tot rest0
      rw [List.map_map]
      rfl
    rw [e1]
    exact (sub_len (pw_nodup hp) fun x hx => (List.mem_filter.mp hx).1).2
  refine ⟨hr, one_ok (s := 0) hr eE hn (by unfold rest0; rw [List.length_map]; omega) (by omega) fun e he x hx => ?_⟩
  obtain ⟨f, hf, ef⟩ := List.mem_map.mp he
  rw [← ef] at hx
  exact (h.d.ok f (List.mem_filter.mp hf).1).mrk x hx
/-- one patch, and behind it what is left of the other one -/
theorem Tg.run {C D S : List Ed} {m k : Nat} {l : List Str} (h : Tg C D m k) (hS : S.Pairwise Bf) (hm : ∀ x, x ∈ S ↔ x ∈ C ∨ x ∈ D) (hl : max m k ≤ l.length) {j : Nat} (hj : (j : Int) = max m k + growC C) (hD : D.length ≤ 200) (ht : tot D ≤ 200) (hn : j ≤ 200) :
    apC (asOne (rest0 C D)) 0 (apC C 0 l) = apC (asOne S) 0 l := by
  have hp : (D.filter (fun e => decide (e ∉ C))).Pairwise Bf := (apt_pw h.d.apt).sublist List.filter_sublist
  have hN : ∀ x ∈ S, Ne x := fun x hx => by
    rcases (hm x).mp hx with z | z
    · exact (h.c.ne z).1
    · exact (h.d.ne z).1
  rw [asOne_apC (h.rest hj hn hD ht).1, asOne_apC (uni_row hS hN)]
  refine rest_run h.c.apt (fun x hx => by have := (h.c.ne hx).2; omega) hp (fun e he => ⟨(h.with_ e he).1, by have := (h.with_ e he).2; omega⟩) hS fun x => ?_
  rw [hm x, List.mem_filter, decide_eq_true_eq]
  by_cases z : x ∈ C
  · simp [z]
  · simp [z]
/-- what behind tells is all -/
theorem Tg.behind {C D S F : List Ed} {m k j i : Nat} (h : Tg C D m k) (hS : S.Pairwise Bf) (hm : ∀ x, x ∈ S ↔ x ∈ C ∨ x ∈ D) (hj : (j : Int) = max m k + growC C) (hn : j ≤ 200) (hl : C.length + D.length ≤ 200) (ht : tot C + tot D ≤ 200) (hs : max m k ≤ 200)
    (oF : PtOk F i) (hi : ∀ n : Nat, i ≤ n ↔ m ≤ n ∧ (j : Int) ≤ n + growC C) (hr : ∀ x : List Str, i ≤ x.length → apC F 0 x = apC (asOne (rest0 C D)) 0 (apC C 0 x)) : F = asOne S ∧ i = max m k := by
  have ei : i = max m k := by
    have h1 := (hi (max m k)).mpr ⟨by omega, by omega⟩
    have h2 := (hi i).mp (Nat.le_refl _)
    omega
  have oS : PtOk (asOne S) (max m k) := uni_ok (L := C ++ D) hS (fun x hx => List.mem_append.mpr ((hm x).mp hx)) (fun x hx => by
    rcases List.mem_append.mp hx with z | z
    · have := h.c.ne z; exact ⟨this.1, by omega, (h.c.ok x z).mrk⟩
    · have := h.d.ne z; exact ⟨this.1, by omega, (h.d.ok x z).mrk⟩) hs (by rw [List.length_append]; omega) (by rw [tot_app]; omega)
  refine ⟨apC_uniq (n := i) oF.apt oS.apt oF.fin (by rw [ei]; exact oS.fin) fun l hl2 => ?_, ei⟩
  rw [hr l hl2, h.run hS hm (by omega) hj (by omega) (by omega) hn]
/-- whether two changes go together -/
def goB (e f : Ed) : Bool := decide (e = f) || ((decide (e.b ≤ f.a) || decide (f.b ≤ e.a)) && !(decide (e.a = f.a) && decide (e.b = f.b)))
theorem goB_iff {e f : Ed} : goB e f = true ↔ Go e f := by
  unfold goB Go
  rw [Bool.or_eq_true, Bool.and_eq_true, Bool.or_eq_true, Bool.not_eq_true', Bool.and_eq_false_iff, decide_eq_true_eq, decide_eq_true_eq, decide_eq_true_eq, decide_eq_false_iff_not, decide_eq_false_iff_not]
  constructor
  · rintro (h | ⟨h, h2⟩)
    · exact .inl h
    · exact .inr ⟨h, fun z => h2.elim (fun q => q z.1) fun q => q z.2⟩
  · rintro (h | ⟨h, h2⟩)
    · exact .inl h
    · refine .inr ⟨h, ?_⟩
      by_cases z : e.a = f.a
      · exact .inr fun q => h2 ⟨z, q⟩
      · exact .inl z
/-- the law's own words for the same -/
def fitE (e f : Ed) : Bool := decide (e = f) || (if (decide (e.a = e.b) && decide (f.a = f.b)) = true then decide (e.a ≠ f.a) else decide (e.b ≤ f.a) || decide (f.b ≤ e.a))
theorem fit_go {e f : Ed} (he : e.a ≤ e.b) (hf : f.a ≤ f.b) : fitE e f = goB e f := by
  unfold fitE goB
  by_cases h : e = f
  · simp [h]
  simp only [h, decide_false, Bool.false_or]
  by_cases h1 : e.a = e.b ∧ f.a = f.b
  · simp only [h1.1, h1.2, decide_true, Bool.and_self, if_true]
    by_cases h2 : e.b = f.b
    · simp [h2]
    · have h3 : e.b ≤ f.b ∨ f.b ≤ e.b := by omega
      have h4 : (decide (e.b ≤ f.b) || decide (f.b ≤ e.b)) = true := by rw [Bool.or_eq_true, decide_eq_true_eq, decide_eq_true_eq]; exact h3
      simp [h2, h4]
  · have e1 : (decide (e.a = e.b) && decide (f.a = f.b)) = false := by
      rw [Bool.and_eq_false_iff, decide_eq_false_iff_not, decide_eq_false_iff_not]
      by_cases z : e.a = e.b
      · exact .inr fun q => h1 ⟨z, q⟩
      · exact .inl z
    rw [e1]
    simp only [Bool.false_eq_true, if_false]
    by_cases h2 : e.a = f.a ∧ e.b = f.b
    · have a1 : ¬ e.b ≤ f.a := by omega
      have a2 : ¬ f.b ≤ e.a := by omega
      simp only [a1, a2, decide_false, Bool.or_self, Bool.false_and]
    · have e2 : (decide (e.a = f.a) && decide (e.b = f.b)) = false := by
        rw [Bool.and_eq_false_iff, decide_eq_false_iff_not, decide_eq_false_iff_not]
        by_cases z : e.a = f.a
        · exact .inr fun q => h2 ⟨z, q⟩
        · exact .inl z
      rw [e2, Bool.not_false, Bool.and_true]
/-- one change behind one other -/
theorem one_rest {e f : Ed} (he : Ne e) (hf : Ne f) (h : Go e f) (hn : e ≠ f) : asOne (rest0 [f] [e]) = [shE [f] e] ∧ gBe [f] e = (if f.b ≤ e.a then grow f else 0) ∧ (f.b ≤ e.a ∨ e.b ≤ f.a) := by
  refine ⟨?_, ?_, ?_⟩
  · unfold rest0
    rw [List.filter_cons_of_pos (by rw [decide_eq_true_eq, List.mem_singleton]; exact hn)]
    rfl
  · unfold gBe
    by_cases z : f.b ≤ e.a
    · rw [List.filter_cons_of_pos (by rw [decide_eq_true_eq]; exact z), if_pos z]
      show grow f + 0 = grow f
      omega
    · rw [List.filter_cons_of_neg (by rw [decide_eq_true_eq]; exact z), if_neg z]
      rfl
  · rcases h with q | q
    · exact absurd q hn
    · exact q.1.symm
end P5

end
section
set_option Elab.async false
set_option linter.all false
set_option maxRecDepth 100000
set_option maxHeartbeats 4000000
namespace P5
open PySem PySem.Spec PyProof.Rows L2
/-! ### pieces: what edits leave of any words -/
inductive Pc
  | kp (a : Nat) (b : Option Nat)
  | pt (ws : List Str)
def pden : Pc → List Str → List Str
  | .kp a none, l => l.drop a
  | .kp a (some b), l => (l.take b).drop a
  | .pt ws, _ => ws
def den : List Pc → List Str → List Str
  | [], _ => []
  | p :: r, l => pden p l ++ den r l
theorem den_app (f g : List Pc) (l : List Str) : den (f ++ g) l = den f l ++ den g l := by
  induction f with
  | nil => rfl
  | cons p f ih => show pden p l ++ den (f ++ g) l = pden p l ++ den f l ++ den g l; rw [ih, List.append_assoc]
/-- finite pieces between two places -/
inductive Fin : Nat → List Pc → Nat → Prop
  | nil {s t : Nat} : s ≤ t → Fin s [] t
  | pt {s t : Nat} {ws : List Str} {r : List Pc} : Fin s r t → Fin s (.pt ws :: r) t
  | kp {s t a b : Nat} {r : List Pc} : s ≤ a → a ≤ b → Fin b r t → Fin s (.kp a (some b) :: r) t
/-- pieces of all words from a place on; the last one begins at L at the latest -/
inductive WFp (L : Nat) : Nat → List Pc → Prop
  | last {s a : Nat} : s ≤ a → a ≤ L → WFp L s [.kp a none]
  | pt {s : Nat} {ws : List Str} {r : List Pc} : WFp L s r → WFp L s (.pt ws :: r)
  | kp {s a b : Nat} {r : List Pc} : s ≤ a → a ≤ b → b ≤ L → WFp L b r → WFp L s (.kp a (some b) :: r)
theorem WFp.mono {L L' s : Nat} {r : List Pc} (h : WFp L s r) (hl : L ≤ L') : WFp L' s r := by
  induction h with
  | last h1 h2 => exact .last h1 (by omega)
  | pt _ ih => exact .pt ih
  | kp h1 h2 h3 _ ih => exact .kp h1 h2 (by omega) ih
theorem WFp.low {L s s' : Nat} {r : List Pc} (h : WFp L s r) (hs : s' ≤ s) : WFp L s' r := by
  induction h generalizing s' with
  | last h1 h2 => exact .last (by omega) h2
  | pt _ ih => exact .pt (ih hs)
  | kp h1 h2 h3 h4 _ => exact .kp (by omega) h2 h3 h4
theorem Fin.wfp {L s t : Nat} {f r : List Pc} (h : Fin s f t) (hr : WFp L t r) (ht : t ≤ L) : WFp L s (f ++ r) := by
  induction h with
  | nil h1 => exact hr.low h1
  | pt _ ih => exact .pt (ih hr ht)
  | kp h1 h2 h3 ih =>
    have z := ih hr ht
    have hb : ∀ {s t : Nat} {f : List Pc}, Fin s f t → s ≤ t := fun h => by
      induction h with
      | nil h => exact h
      | pt _ ih => exact ih
      | kp h1 h2 _ ih => omega
    exact .kp h1 h2 (by have := hb h3; omega) z
theorem Fin.le {s t : Nat} {f : List Pc} (h : Fin s f t) : s ≤ t := by
  induction h with
  | nil h => exact h
  | pt _ ih => exact ih
  | kp h1 h2 _ ih => omega
theorem WFp.ne {L s : Nat} {r : List Pc} (h : WFp L s r) : r ≠ [] := by cases h <;> exact fun z => nomatch z
/-- cut at a number of words -/
def cutP : List Pc → Nat → List Pc × List Pc
  | [], _ => ([], [])
  | .pt ws :: r, n => if n < ws.length then ([.pt (ws.take n)], .pt (ws.drop n) :: r) else ((.pt ws :: (cutP r (n - ws.length)).1), (cutP r (n - ws.length)).2)
  | .kp a none :: r, n => ([.kp a (some (a + n))], .kp (a + n) none :: r)
  | .kp a (some b) :: r, n => if n < b - a then ([.kp a (some (a + n))], .kp (a + n) (some b) :: r) else ((.kp a (some b) :: (cutP r (n - (b - a))).1), (cutP r (n - (b - a))).2)
theorem pden_len {a b : Nat} {l : List Str} (h : b ≤ l.length) : (pden (.kp a (some b)) l).length = b - a := by
  show ((l.take b).drop a).length = b - a
  rw [List.length_drop, List.length_take]
  omega
/-- what a cut gives -/
structure CutOk (L s : Nat) (ps : List Pc) (n : Nat) (f b : List Pc) : Prop where
  mid : ∃ t, Fin s f t ∧ WFp L t b ∧ t ≤ L
  fr : ∀ l : List Str, L ≤ l.length → den f l = (den ps l).take n
  bk : ∀ l : List Str, L ≤ l.length → den b l = (den ps l).drop n
theorem cutP_ok {L s : Nat} {ps : List Pc} (h : WFp L s ps) : ∀ {n : Nat}, (∀ l : List Str, l.length = L → n ≤ (den ps l).length) → CutOk L s ps n (cutP ps n).1 (cutP ps n).2 := by
  induction h with
  | @last s a h1 h2 =>
    intro n hn
    have hl : a + n ≤ L := by
      have := hn (List.replicate L ("" : Str)) (by rw [List.length_replicate])
      simp [den, pden] at this
      omega
    refine ⟨⟨a + n, .kp h1 (by omega) (.nil (by omega)), .last (Nat.le_refl _) hl, hl⟩, fun l hl => ?_, fun l hl => ?_⟩
    · show (l.take (a + n)).drop a ++ [] = (l.drop a ++ []).take n
      rw [List.append_nil, List.append_nil, List.drop_take, Nat.add_sub_cancel_left]
    · show l.drop (a + n) ++ [] = (l.drop a ++ []).drop n
      rw [List.append_nil, List.append_nil, List.drop_drop]
  | @pt s ws r hr ih =>
    intro n hn
    by_cases c : n < ws.length
    · have e : cutP (.pt ws :: r) n = ([.pt (ws.take n)], .pt (ws.drop n) :: r) := by rw [cutP, if_pos c]
      rw [e]
      have lowL : ∀ {s : Nat} {r : List Pc}, WFp L s r → s ≤ L := fun h => by
        induction h with
        | last h1 h2 => omega
        | pt _ ih => exact ih
        | kp h1 h2 h3 _ _ => omega
      refine ⟨⟨s, .pt (.nil (Nat.le_refl _)), .pt hr, lowL hr⟩, fun l hl => ?_, fun l hl => ?_⟩
      · show ws.take n ++ [] = (ws ++ den r l).take n
        rw [List.append_nil, List.take_append_of_le_length (by omega)]
      · show ws.drop n ++ den r l = (ws ++ den r l).drop n
        rw [List.drop_append_of_le_length (by omega)]
    · have e : cutP (.pt ws :: r) n = ((.pt ws :: (cutP r (n - ws.length)).1), (cutP r (n - ws.length)).2) := by rw [cutP, if_neg c]
      rw [e]
      obtain ⟨⟨t, k1, k2, k3⟩, k4, k5⟩ := ih (n := n - ws.length) (fun l hl => by
        have := hn l hl
        have e2 : den (.pt ws :: r) l = ws ++ den r l := rfl
        rw [e2, List.length_append] at this
        omega)
      refine ⟨⟨t, .pt k1, k2, k3⟩, fun l hl => ?_, fun l hl => ?_⟩
      · show ws ++ den (cutP r (n - ws.length)).1 l = (ws ++ den r l).take n
        rw [k4 l hl, List.take_append, List.take_of_length_le (l := ws) (by omega)]
      · show den (cutP r (n - ws.length)).2 l = (ws ++ den r l).drop n
        rw [k5 l hl, List.drop_append, List.drop_of_length_le (l := ws) (by omega), List.nil_append]
  | @kp s a b r h1 h2 h3 hr ih =>
    intro n hn
    by_cases c : n < b - a
    · have e : cutP (.kp a (some b) :: r) n = ([.kp a (some (a + n))], .kp (a + n) (some b) :: r) := by rw [cutP, if_pos c]
      rw [e]
      refine ⟨⟨a + n, .kp h1 (by omega) (.nil (Nat.le_refl _)), .kp (Nat.le_refl _) (by omega) h3 hr, by omega⟩, fun l hl => ?_, fun l hl => ?_⟩
      · show (l.take (a + n)).drop a ++ [] = ((l.take b).drop a ++ den r l).take n
        rw [List.append_nil, List.take_append_of_le_length (by rw [List.length_drop, List.length_take]; omega), List.drop_take, List.drop_take, List.take_take]
        congr 1
        omega
      · show (l.take b).drop (a + n) ++ den r l = ((l.take b).drop a ++ den r l).drop n
        rw [List.drop_append_of_le_length (by rw [List.length_drop, List.length_take]; omega), List.drop_drop]
    · have e : cutP (.kp a (some b) :: r) n = ((.kp a (some b) :: (cutP r (n - (b - a))).1), (cutP r (n - (b - a))).2) := by rw [cutP, if_neg c]
      rw [e]
      have hd : ∀ l : List Str, L ≤ l.length → ((l.take b).drop a).length = b - a := fun l hl => pden_len (a := a) (b := b) (by omega)
      obtain ⟨⟨t, k1, k2, k3⟩, k4, k5⟩ := ih (n := n - (b - a)) (fun l hl => by
        have := hn l hl
        have e2 : den (.kp a (some b) :: r) l = (l.take b).drop a ++ den r l := rfl
        rw [e2, List.length_append, hd l (by omega)] at this
        omega)
      refine ⟨⟨t, .kp h1 h2 k1, k2, k3⟩, fun l hl => ?_, fun l hl => ?_⟩
      · show (l.take b).drop a ++ den (cutP r (n - (b - a))).1 l = ((l.take b).drop a ++ den r l).take n
        rw [k4 l hl, List.take_append, hd l hl, List.take_of_length_le (l := (l.take b).drop a) (by rw [hd l hl]; omega)]
      · show den (cutP r (n - (b - a))).2 l = ((l.take b).drop a ++ den r l).drop n
        rw [k5 l hl, List.drop_append, hd l hl, List.drop_of_length_le (l := (l.take b).drop a) (by rw [hd l hl]; omega), List.nil_append]
/-- words put in, of pieces -/
def ptot : List Pc → Nat
  | [] => 0
  | .kp _ _ :: r => ptot r
  | .pt ws :: r => ws.length + ptot r
theorem ptot_app (f g : List Pc) : ptot (f ++ g) = ptot f + ptot g := by
  induction f with
  | nil => exact (Nat.zero_add _).symm
  | cons p f ih =>
    cases p with
    | kp a b => exact ih
    | pt ws => show ws.length + ptot (f ++ g) = ws.length + ptot f + ptot g; omega
def pmk (ps : List Pc) : Prop := ∀ ws, Pc.pt ws ∈ ps → ∀ x ∈ ws, x ∈ MRK
theorem pmk.app {f g : List Pc} (h1 : pmk f) (h2 : pmk g) : pmk (f ++ g) := fun ws hw => (List.mem_append.mp hw).elim (h1 ws) (h2 ws)
theorem cutP_tot : ∀ (ps : List Pc) (n : Nat), ptot (cutP ps n).1 + ptot (cutP ps n).2 = ptot ps
  | [], _ => rfl
  | .pt ws :: r, n => by
    by_cases c : n < ws.length
    · rw [cutP, if_pos c]
      show (ws.take n).length + 0 + ((ws.drop n).length + ptot r) = ws.length + ptot r
      rw [List.length_take, List.length_drop]
      omega
    · have ih := cutP_tot r (n - ws.length)
      rw [cutP, if_neg c]
      show ws.length + ptot (cutP r (n - ws.length)).1 + ptot (cutP r (n - ws.length)).2 = ws.length + ptot r
      omega
  | .kp a none :: r, n => by show 0 + ptot r = ptot r; omega
  | .kp a (some b) :: r, n => by
    by_cases c : n < b - a
    · rw [cutP, if_pos c]
      show 0 + ptot r = ptot r
      omega
    · have ih := cutP_tot r (n - (b - a))
      rw [cutP, if_neg c]
      exact ih
theorem cutP_cnt : ∀ (ps : List Pc) (n : Nat), (cutP ps n).1.length + (cutP ps n).2.length ≤ ps.length + 1
  | [], _ => Nat.zero_le _
  | .pt ws :: r, n => by
    by_cases c : n < ws.length
    · rw [cutP, if_pos c]
      show 1 + (r.length + 1) ≤ r.length + 1 + 1
      omega
    · have ih := cutP_cnt r (n - ws.length)
      rw [cutP, if_neg c]
      show (cutP r (n - ws.length)).1.length + 1 + (cutP r (n - ws.length)).2.length ≤ r.length + 1 + 1
      omega
  | .kp a none :: r, n => by show 1 + (r.length + 1) ≤ r.length + 1 + 1; omega
  | .kp a (some b) :: r, n => by
    by_cases c : n < b - a
    · rw [cutP, if_pos c]
      show 1 + (r.length + 1) ≤ r.length + 1 + 1
      omega
    · have ih := cutP_cnt r (n - (b - a))
      rw [cutP, if_neg c]
      show (cutP r (n - (b - a))).1.length + 1 + (cutP r (n - (b - a))).2.length ≤ r.length + 1 + 1
      omega
theorem cutP_mk : ∀ {ps : List Pc} {n : Nat}, pmk ps → pmk (cutP ps n).1 ∧ pmk (cutP ps n).2
  | [], _, h => ⟨h, h⟩
  | .pt ws :: r, n, h => by
    have hr : pmk r := fun w hw => h w (List.mem_cons_of_mem _ hw)
    have hw := h ws List.mem_cons_self
    by_cases c : n < ws.length
    · rw [cutP, if_pos c]
      refine ⟨fun w hw' x hx => ?_, fun w hw' x hx => ?_⟩
      · cases List.mem_singleton.mp hw'
        exact hw x (List.mem_of_mem_take hx)
      · rcases List.mem_cons.mp hw' with z | z
        · cases z
          exact hw x (List.mem_of_mem_drop hx)
        · exact hr w z x hx
    · obtain ⟨i1, i2⟩ := cutP_mk (n := n - ws.length) hr
      rw [cutP, if_neg c]
      refine ⟨fun w hw' x hx => ?_, i2⟩
      rcases List.mem_cons.mp hw' with z | z
      · cases z
        exact hw x hx
      · exact i1 w z x hx
  | .kp a none :: r, n, h => by
    have hr : pmk r := fun w hw => h w (List.mem_cons_of_mem _ hw)
    refine ⟨fun w hw' => ?_, fun w hw' => ?_⟩
    · cases List.mem_singleton.mp hw'
    · rcases List.mem_cons.mp hw' with z | z
      · cases z
      · exact hr w z
  | .kp a (some b) :: r, n, h => by
    have hr : pmk r := fun w hw => h w (List.mem_cons_of_mem _ hw)
    by_cases c : n < b - a
    · rw [cutP, if_pos c]
      refine ⟨fun w hw' => ?_, fun w hw' => ?_⟩
      · cases List.mem_singleton.mp hw'
      · rcases List.mem_cons.mp hw' with z | z
        · cases z
        · exact hr w z
    · obtain ⟨i1, i2⟩ := cutP_mk (n := n - (b - a)) hr
      rw [cutP, if_neg c]
      refine ⟨fun w hw' => ?_, i2⟩
      rcases List.mem_cons.mp hw' with z | z
      · cases z
      · exact i1 w z
/-- an edit of pieces -/
def edP (ps : List Pc) (e : Ed) : List Pc := (cutP ps e.a).1 ++ [Pc.pt e.ws] ++ (cutP (cutP ps e.a).2 (e.b - e.a)).2
/-- pieces that do F to all words of L or more -/
structure PInv (L : Nat) (ps : List Pc) (F : List Str → List Str) (cnt sum : Nat) : Prop where
  wf : WFp L 0 ps
  den : ∀ l : List Str, L ≤ l.length → den ps l = F l
  cnt : ps.length ≤ cnt
  tot : ptot ps ≤ sum
  mks : pmk ps
theorem PInv.mono {L L' : Nat} {ps : List Pc} {F : List Str → List Str} {c s : Nat} (h : PInv L ps F c s) (hl : L ≤ L') : PInv L' ps F c s := ⟨h.wf.mono hl, fun l q => h.den l (by omega), h.cnt, h.tot, h.mks⟩
theorem PInv.edit {L : Nat} {ps : List Pc} {F : List Str → List Str} {c s : Nat} {e : Ed} (h : PInv L ps F c s) (he : e.a ≤ e.b) (hm : ∀ x ∈ e.ws, x ∈ MRK) (hf : ∀ l : List Str, l.length = L → e.b ≤ (F l).length) :
    PInv L (edP ps e) (fun l => app e (F l)) (c + 3) (s + e.ws.length) := by
  obtain ⟨⟨t, k1, k2, k3⟩, k4, k5⟩ := cutP_ok (n := e.a) h.wf (fun l hl => by have := hf l hl; rw [h.den l (by omega)]; omega)
  obtain ⟨⟨t2, j1, j2, j3⟩, j4, j5⟩ := cutP_ok (n := e.b - e.a) k2 (fun l hl => by have := hf l hl; rw [k5 l (by omega), h.den l (by omega), List.length_drop]; omega)
  have m1 := cutP_mk (n := e.a) h.mks
  have m2 := cutP_mk (n := e.b - e.a) m1.2
  have t1 := cutP_tot ps e.a
  have t2' := cutP_tot (cutP ps e.a).2 (e.b - e.a)
  have c1 := cutP_cnt ps e.a
  have c2 := cutP_cnt (cutP ps e.a).2 (e.b - e.a)
  have hc := h.cnt
  have ht := h.tot
  refine ⟨?_, fun l hl => ?_, ?_, ?_, ?_⟩
  · show WFp L 0 ((cutP ps e.a).1 ++ [Pc.pt e.ws] ++ (cutP (cutP ps e.a).2 (e.b - e.a)).2)
    rw [List.append_assoc]
    exact k1.wfp (.pt (j2.low j1.le)) k3
  · show P5.den ((cutP ps e.a).1 ++ [Pc.pt e.ws] ++ (cutP (cutP ps e.a).2 (e.b - e.a)).2) l = app e (F l)
    rw [den_app, den_app, k4 l hl, j5 l hl, k5 l hl, h.den l hl, List.drop_drop]
    show (F l).take e.a ++ (e.ws ++ []) ++ _ = _
    rw [List.append_nil, show e.a + (e.b - e.a) = e.b from by omega]
    rfl
  · show ((cutP ps e.a).1 ++ [Pc.pt e.ws] ++ (cutP (cutP ps e.a).2 (e.b - e.a)).2).length ≤ c + 3
    rw [List.length_append, List.length_append, List.length_singleton]
    omega
  · show ptot ((cutP ps e.a).1 ++ [Pc.pt e.ws] ++ (cutP (cutP ps e.a).2 (e.b - e.a)).2) ≤ s + e.ws.length
    rw [ptot_app, ptot_app]
    show ptot (cutP ps e.a).1 + (e.ws.length + 0) + _ ≤ _
    omega
  · refine (m1.1.app fun w hw => ?_).app m2.2
    cases List.mem_singleton.mp hw
    exact hm
theorem PInv.start : PInv 0 [.kp 0 none] id 1 0 := ⟨.last (Nat.le_refl _) (Nat.le_refl _), fun l _ => by show l.drop 0 ++ [] = l; simp, Nat.le_refl _, Nat.le_refl _, fun w hw => by cases List.mem_singleton.mp hw⟩
/-- the changes of pieces -/
def chg (at_ : Nat) (ws : List Str) : List Pc → List Ed
  | [] => []
  | .pt w :: r => chg at_ (ws ++ w) r
  | .kp a none :: _ => if at_ < a ∨ ws ≠ [] then [⟨at_, a, ws⟩] else []
  | .kp a (some b) :: r => if a = b then chg at_ ws r else if at_ < a ∨ ws ≠ [] then ⟨at_, a, ws⟩ :: chg b [] r else chg b [] r
theorem apC_skip {C : List Ed} {a b : Nat} {l : List Str} (h : Apt false b C) (hab : a ≤ b) (hb : b ≤ l.length) : apC C a (l.drop a) = (l.take b).drop a ++ apC C b (l.drop b) := by
  cases h with
  | nil =>
    show l.drop a = (l.take b).drop a ++ l.drop b
    rw [List.drop_take, show l.drop b = (l.drop a).drop (b - a) from by rw [List.drop_drop]; congr 1; omega, List.take_append_drop]
  | @cons _ _ e C h1 h2 h3 h4 h5 =>
    show (l.drop a).take (e.a - a) ++ (e.ws ++ apC C e.b ((l.drop a).drop (e.b - a))) = (l.take b).drop a ++ ((l.drop b).take (e.a - b) ++ (e.ws ++ apC C e.b ((l.drop b).drop (e.b - b))))
    rw [List.drop_drop, List.drop_drop, show a + (e.b - a) = b + (e.b - b) from by omega, ← List.append_assoc ((l.take b).drop a)]
    congr 1
    rw [List.drop_take, show e.a - a = (b - a) + (e.a - b) from by omega, List.take_add, List.drop_drop, show a + (b - a) = b from by omega]
theorem chg_ok {L : Nat} : ∀ {ps : List Pc} {s at_ : Nat} {ws : List Str}, WFp L s ps → at_ ≤ s →
    Apt false at_ (chg at_ ws ps) ∧ endC at_ (chg at_ ws ps) ≤ L ∧ ∀ l : List Str, L ≤ l.length → apC (chg at_ ws ps) at_ (l.drop at_) = ws ++ den ps l
  | _, _, at_, ws, .last (a := a) h1 h2, hs => by
    by_cases c : at_ < a ∨ ws ≠ []
    · have e : chg at_ ws [.kp a none] = [⟨at_, a, ws⟩] := by rw [chg, if_pos c]
      rw [e]
      refine ⟨.cons (Nat.le_refl _) (fun z => nomatch z) (by show at_ ≤ a; omega) c .nil, h2, fun l hl => ?_⟩
      show (l.drop at_).take (at_ - at_) ++ (ws ++ (l.drop at_).drop (a - at_)) = ws ++ (l.drop a ++ [])
      rw [Nat.sub_self, List.take_zero, List.nil_append, List.drop_drop, List.append_nil, show at_ + (a - at_) = a from by omega]
    · have e : chg at_ ws [.kp a none] = [] := by rw [chg, if_neg c]
      rw [e]
      have ew : ws = [] := Classical.not_not.mp fun z => c (.inr z)
      have ea : at_ = a := by have : ¬ at_ < a := fun z => c (.inl z); omega
      subst ew ea
      refine ⟨.nil, h2, fun l hl => ?_⟩
      show l.drop at_ = [] ++ (l.drop at_ ++ [])
      rw [List.append_nil, List.nil_append]
  | _, s, at_, ws, .pt (ws := w) (r := r) hr, hs => by
    obtain ⟨i1, i2, i3⟩ := chg_ok (ws := ws ++ w) hr hs
    refine ⟨i1, i2, fun l hl => ?_⟩
    show apC (chg at_ (ws ++ w) r) at_ (l.drop at_) = ws ++ (w ++ den r l)
    rw [i3 l hl, List.append_assoc]
  | _, s, at_, ws, .kp (a := a) (b := b) (r := r) h1 h2 h3 hr, hs => by
    by_cases c0 : a = b
    · have e : chg at_ ws (.kp a (some b) :: r) = chg at_ ws r := by rw [chg, if_pos c0]
      rw [e]
      obtain ⟨i1, i2, i3⟩ := chg_ok (ws := ws) hr (show at_ ≤ b by omega)
      refine ⟨i1, i2, fun l hl => ?_⟩
      rw [i3 l hl]
      show ws ++ den r l = ws ++ ((l.take b).drop a ++ den r l)
      rw [c0, List.drop_of_length_le (l := l.take b) (by rw [List.length_take]; omega), List.nil_append]
    · obtain ⟨i1, i2, i3⟩ := chg_ok (at_ := b) (ws := []) hr (Nat.le_refl _)
      have tight : Apt true a (chg b [] r) := by
        cases hC : chg b [] r with
        | nil => exact .nil
        | cons e C =>
          rw [hC] at i1
          cases i1 with
          | cons g1 g2 g3 g4 g5 => exact .cons (by omega) (fun _ => by omega) g3 g4 g5
      have run : ∀ l : List Str, L ≤ l.length → apC (chg b [] r) a (l.drop a) = (l.take b).drop a ++ den r l := fun l hl => by
        rw [apC_skip i1 h2 (by omega), i3 l hl, List.nil_append]
      by_cases c : at_ < a ∨ ws ≠ []
      · have e : chg at_ ws (.kp a (some b) :: r) = ⟨at_, a, ws⟩ :: chg b [] r := by rw [chg, if_neg c0, if_pos c]
        rw [e]
        refine ⟨.cons (Nat.le_refl _) (fun z => nomatch z) (by show at_ ≤ a; omega) c tight, ?_, fun l hl => ?_⟩
        · rw [endC_cons]
          show endC a (chg b [] r) ≤ L
          cases hC : chg b [] r with
          | nil => show a ≤ L; omega
          | cons e C => rw [hC] at i2; exact i2
        · show (l.drop at_).take (at_ - at_) ++ (ws ++ apC (chg b [] r) a ((l.drop at_).drop (a - at_))) = ws ++ ((l.take b).drop a ++ den r l)
          rw [Nat.sub_self, List.take_zero, List.nil_append, List.drop_drop, show at_ + (a - at_) = a from by omega, run l hl]
      · have e : chg at_ ws (.kp a (some b) :: r) = chg b [] r := by rw [chg, if_neg c0, if_neg c]
        rw [e]
        have ew : ws = [] := Classical.not_not.mp fun z => c (.inr z)
        have ea : at_ = a := by have : ¬ at_ < a := fun z => c (.inl z); omega
        subst ew ea
        refine ⟨tight.loose, ?_, fun l hl => ?_⟩
        · cases hC : chg b [] r with
          | nil => show at_ ≤ L; omega
          | cons e C => rw [hC] at i2; exact i2
        · rw [run l hl]; rfl
theorem chg_few : ∀ (ps : List Pc) (at_ : Nat) (ws : List Str), (chg at_ ws ps).length ≤ ps.length
  | [], _, _ => Nat.zero_le _
  | .pt w :: r, at_, ws => Nat.le_succ_of_le (chg_few r at_ (ws ++ w))
  | .kp a none :: r, at_, ws => by
    rw [chg]
    split
    · exact Nat.succ_le_succ (Nat.zero_le _)
    · exact Nat.zero_le _
  | .kp a (some b) :: r, at_, ws => by
    have i1 := chg_few r at_ ws
    have i2 := chg_few r b []
    rw [chg]
    split
    · exact Nat.le_succ_of_le i1
    · split
      · exact Nat.succ_le_succ i2
      · exact Nat.le_succ_of_le i2
theorem chg_ws : ∀ (ps : List Pc) (at_ : Nat) (ws : List Str), tot (chg at_ ws ps) ≤ ws.length + ptot ps
  | [], _, _ => Nat.zero_le _
  | .pt w :: r, at_, ws => by
    have := chg_ws r at_ (ws ++ w)
    rw [List.length_append] at this
    show tot (chg at_ (ws ++ w) r) ≤ ws.length + (w.length + ptot r)
    omega
  | .kp a none :: r, at_, ws => by
    rw [chg]
    split
    · show ws.length + 0 ≤ ws.length + ptot r
      omega
    · exact Nat.zero_le _
  | .kp a (some b) :: r, at_, ws => by
    have i1 := chg_ws r at_ ws
    have i2 := chg_ws r b []
    rw [chg]
    show _ ≤ ws.length + ptot r
    simp only [List.length_nil] at i2
    split
    · exact i1
    · split
      · show ws.length + tot (chg b [] r) ≤ _
        omega
      · omega
theorem chg_mk : ∀ {ps : List Pc} {at_ : Nat} {ws : List Str}, pmk ps → (∀ x ∈ ws, x ∈ MRK) → ∀ e ∈ chg at_ ws ps, ∀ x ∈ e.ws, x ∈ MRK
  | [], _, _, _, _, e, he => by cases he
  | .pt w :: r, at_, ws, h, hw, e, he => by
    refine chg_mk (ps := r) (at_ := at_) (ws := ws ++ w) (fun w hw => h w (List.mem_cons_of_mem _ hw)) (fun x hx => ?_) e he
    rcases List.mem_append.mp hx with z | z
    · exact hw x z
    · exact h w List.mem_cons_self x z
  | .kp a none :: r, at_, ws, h, hw, e, he => by
    rw [chg] at he
    split at he
    · cases List.mem_singleton.mp he
      exact hw
    · cases he
  | .kp a (some b) :: r, at_, ws, h, hw, e, he => by
    have hr : pmk r := fun w hw => h w (List.mem_cons_of_mem _ hw)
    rw [chg] at he
    split at he
    · exact chg_mk hr hw e he
    · split at he
      · rcases List.mem_cons.mp he with z | z
        · rw [z]; exact hw
        · exact chg_mk (ws := []) hr (fun x hx => nomatch hx) e z
      · exact chg_mk (ws := []) hr (fun x hx => nomatch hx) e he
theorem tot_mem : ∀ {C : List Ed} {e : Ed}, e ∈ C → e.ws.length ≤ tot C
  | [], e, h => by cases h
  | d :: C, e, h => by
    rcases List.mem_cons.mp h with z | z
    · rw [z]; exact Nat.le_add_right _ _
    · have := tot_mem z
      show e.ws.length ≤ d.ws.length + tot C
      omega
theorem Apt.facts : ∀ {C : List Ed} {t : Bool} {s : Nat} {e : Ed}, Apt t s C → e ∈ C → e.a ≤ e.b ∧ e.b ≤ endC s C
  | [], _, _, e, _, h => by cases h
  | d :: C, _, _, e, .cons h1 h2 h3 h4 h5, h => by
    rcases List.mem_cons.mp h with z | z
    · rw [z, endC_cons]; exact ⟨h3, h5.le_end⟩
    · exact ⟨(h5.facts z).1, (h5.facts z).2⟩
/-- the patch of pieces -/
theorem PInv.patch {L : Nat} {ps : List Pc} {F : List Str → List Str} {c s : Nat} (h : PInv L ps F c s) (hc : c ≤ 200) (hs : s ≤ 200) (hL : L ≤ 200) : PtOk (chg 0 [] ps) L ∧ ∀ l : List Str, L ≤ l.length → apC (chg 0 [] ps) 0 l = F l := by
  obtain ⟨i1, i2, i3⟩ := chg_ok (at_ := 0) (ws := []) h.wf (Nat.le_refl _)
  have hcnt := h.cnt
  have htot := h.tot
  have few := chg_few ps 0 []
  have ht := chg_ws ps 0 []
  simp only [List.length_nil] at ht
  refine ⟨⟨i1, i2, fun e he => ?_, hL, by omega⟩, fun l hl => ?_⟩
  · obtain ⟨f1, f2⟩ := i1.facts he
    have := tot_mem he
    exact ⟨f1, chg_mk (ws := []) h.mks (fun x hx => nomatch hx) e he, by omega, by omega⟩
  · have := i3 l hl
    rw [List.drop_zero, List.nil_append, h.den l hl] at this
    exact this
/-- the pieces of changes -/
def pcsC (s : Nat) : List Ed → List Pc
  | [] => [.kp s none]
  | e :: C => .kp s (some e.a) :: .pt e.ws :: pcsC e.b C
theorem pcsC_ok {L : Nat} : ∀ {C : List Ed} {t : Bool} {s : Nat}, Apt t s C → endC s C ≤ L → WFp L s (pcsC s C) ∧ ∀ l : List Str, L ≤ l.length → den (pcsC s C) l = apC C s (l.drop s)
  | [], _, s, _, hE => ⟨.last (Nat.le_refl _) hE, fun l hl => by show l.drop s ++ [] = l.drop s; rw [List.append_nil]⟩
  | e :: C, _, s, .cons h1 _ h3 _ h5, hE => by
    have hz := h5.le_end
    rw [endC_cons] at hE
    obtain ⟨i1, i2⟩ := pcsC_ok h5 hE
    refine ⟨.kp (Nat.le_refl _) h1 (by omega) (.pt (i1.low h3)), fun l hl => ?_⟩
    show (l.take e.a).drop s ++ (e.ws ++ den (pcsC e.b C) l) = (l.drop s).take (e.a - s) ++ (e.ws ++ apC C e.b ((l.drop s).drop (e.b - s)))
    rw [i2 l hl, List.drop_take, List.drop_drop, show s + (e.b - s) = e.b from by omega]
theorem pcsC_len : ∀ (C : List Ed) (s : Nat), (pcsC s C).length = 2 * C.length + 1
  | [], _ => rfl
  | e :: C, s => by show (pcsC e.b C).length + 1 + 1 = 2 * (C.length + 1) + 1; rw [pcsC_len C e.b]; omega
theorem pcsC_tot : ∀ (C : List Ed) (s : Nat), ptot (pcsC s C) = tot C
  | [], _ => rfl
  | e :: C, s => by show e.ws.length + ptot (pcsC e.b C) = e.ws.length + tot C; rw [pcsC_tot C e.b]
theorem pcsC_mk : ∀ {C : List Ed} {s : Nat}, (∀ e ∈ C, e.Ok) → pmk (pcsC s C)
  | [], s, _ => fun w hw => by cases List.mem_singleton.mp hw
  | e :: C, s, h => fun w hw => by
    rcases List.mem_cons.mp hw with z | z
    · cases z
    · rcases List.mem_cons.mp z with z | z
      · cases z; exact (h e List.mem_cons_self).mrk
      · exact pcsC_mk (fun x hx => h x (List.mem_cons_of_mem _ hx)) w z
theorem PInv.ofC {C : List Ed} {m : Nat} (h : PtOk C m) : PInv m (pcsC 0 C) (fun l => apC C 0 l) (2 * C.length + 1) (P5.tot C) := by
  obtain ⟨i1, i2⟩ := pcsC_ok h.apt h.fin
  exact ⟨i1, fun l hl => by rw [i2 l hl, List.drop_zero], Nat.le_of_eq (pcsC_len C 0), Nat.le_of_eq (pcsC_tot C 0), pcsC_mk h.ok⟩
/-- changes, done as edits from the last one on -/
theorem app_pre {e : Ed} {x y : List Str} (h : e.b ≤ x.length) (he : e.a ≤ e.b) : app e (x ++ y) = app e x ++ y := by
  unfold app
  rw [List.take_append_of_le_length (by omega), List.drop_append_of_le_length h, List.append_assoc, List.append_assoc]
  simp
def sh (s : Nat) (e : Ed) : Ed := ⟨e.a - s, e.b - s, e.ws⟩
theorem done_app2 (es fs : List Ed) (l : List Str) : done (es ++ fs) l = done fs (done es l) := by
  unfold done
  rw [List.foldl_append]
theorem rev_ok : ∀ {C : List Ed} {t : Bool} {s : Nat}, Apt t s C → ∀ (p l : List Str), p.length = s → endC s C ≤ s + l.length → done C.reverse (p ++ l) = p ++ apC C s l
  | [], _, s, _, p, l, _, _ => rfl
  | e :: C, _, s, .cons h1 _ h3 _ h5, p, l, hp, hE => by
    have hz := h5.le_end
    rw [endC_cons] at hE
    have e1 : p ++ l = (p ++ l.take (e.b - s)) ++ l.drop (e.b - s) := by rw [List.append_assoc, List.take_append_drop]
    have ih := rev_ok h5 (p ++ l.take (e.b - s)) (l.drop (e.b - s)) (by rw [List.length_append, List.length_take]; omega) (by rw [List.length_drop]; omega)
    rw [List.reverse_cons, done_app2, e1, ih]
    show app e ((p ++ l.take (e.b - s)) ++ apC C e.b (l.drop (e.b - s))) = p ++ (l.take (e.a - s) ++ (e.ws ++ apC C e.b (l.drop (e.b - s))))
    rw [app_pre (by rw [List.length_append, List.length_take]; omega) h3]
    unfold app
    rw [List.drop_of_length_le (by rw [List.length_append, List.length_take]; omega), List.append_nil, List.take_append, List.take_of_length_le (l := p) (by omega), List.take_take, hp, Nat.min_eq_left (by omega)]
    simp only [List.append_assoc]
/-- so many words stand while changes are done from the last one on -/
theorem rev_fits : ∀ {C : List Ed} {t : Bool} {s : Nat}, Apt t s C → ∀ {n : Nat}, endC s C ≤ n → Fits C.reverse n
  | [], _, _, _, _, _ => trivial
  | e :: C, _, s, .cons h1 _ h3 _ h5, n, hE => by
    have hz := h5.le_end
    rw [endC_cons] at hE
    rw [List.reverse_cons]
    refine (rev_fits h5 hE).snoc ?_
    have low : ∀ {C : List Ed} {t : Bool} {s : Nat}, Apt t s C → ∀ {n : Nat}, endC s C ≤ n → s ≤ siz C.reverse n := fun {C} => by
      induction C with
      | nil => intro t s _ n hE; exact hE
      | cons d C ih =>
        intro t s hA n hE
        cases hA with
        | cons g1 g2 g3 g4 g5 =>
          rw [endC_cons] at hE
          have := ih g5 hE
          rw [List.reverse_cons, siz_snoc]
          omega
    exact low h5 hE
theorem Fits.app_iff2 : ∀ {es fs : List Ed} {n : Nat}, Fits (es ++ fs) n ↔ Fits es n ∧ Fits fs (siz es n)
  | [], fs, n => ⟨fun h => ⟨trivial, h⟩, fun h => h.2⟩
  | e :: es, fs, n => ⟨fun h => ⟨⟨h.1, (Fits.app_iff2.mp h.2).1⟩, (Fits.app_iff2.mp h.2).2⟩, fun h => ⟨h.1.1, Fits.app_iff2.mpr ⟨h.1.2, h.2⟩⟩⟩
/-- while edits are done: least and growth -/
structure Run (es : List Ed) (L : Nat) (g : Int) : Prop where
  fit : ∀ n : Nat, Fits es n ↔ L ≤ n
  siz : ∀ n : Nat, Fits es n → (siz es n : Int) = n + g
theorem Run.nil : Run [] 0 0 := ⟨fun n => ⟨fun _ => Nat.zero_le _, fun _ => trivial⟩, fun n _ => by show (n : Int) = n + 0; omega⟩
theorem Run.snoc {es : List Ed} {L : Nat} {g : Int} {e : Ed} (h : Run es L g) (he : e.a ≤ e.b) {L' : Nat} (hL : (L' : Int) = max (L : Int) (e.b - g)) : Run (es ++ [e]) L' (g + grow e) := by
  refine ⟨fun n => ?_, fun n hf => ?_⟩
  · rw [Fits.app_iff2]
    constructor
    · rintro ⟨h1, h2, _⟩
      have := (h.fit n).mp h1
      have := h.siz n h1
      omega
    · intro hn
      have h1 := (h.fit n).mpr (by omega)
      have := h.siz n h1
      exact ⟨h1, by omega, trivial⟩
  · obtain ⟨h1, h2, _⟩ := Fits.app_iff2.mp hf
    have := h.siz n h1
    have eg : grow e = (e.ws.length : Int) - ((e.b : Int) - (e.a : Int)) := rfl
    rw [siz_snoc]
    omega
theorem Run.lst {es : List Ed} {L : Nat} {g : Int} (h : Run es L g) : Lst es L := ⟨(h.fit L).mpr (Nat.le_refl _), fun n hn => (h.fit n).mp hn⟩
theorem siz_done : ∀ {es : List Ed} {l : List Str}, (∀ e ∈ es, e.a ≤ e.b) → Fits es l.length → (done es l).length = siz es l.length
  | [], l, _, _ => rfl
  | e :: es, l, h, hf => by
    have h1 := h e List.mem_cons_self
    have hs : (app e l).length = l.length + e.ws.length - (e.b - e.a) := by have := app_len hf.1 h1; omega
    have ih := siz_done (es := es) (l := app e l) (fun x hx => h x (List.mem_cons_of_mem _ hx)) (by rw [hs]; exact hf.2)
    show (done es (app e l)).length = siz es (l.length + e.ws.length - (e.b - e.a))
    rw [ih, hs]
end P5

end
section
set_option Elab.async false
set_option linter.all false
set_option maxRecDepth 100000
set_option maxHeartbeats 4000000
/-! loops over tuples and lists while an exception is handled -/
namespace HL
open PySem PySem.Spec PyProof.Rows L2 HotX L2H
section
variable {prog : Program} {w : World} {A : Around} {E : Value → Shared → Prop} {s : Shared}
/-- the handled exception is none of two members -/
theorem hot_ne {x1 j : Addr} {o : Obj} {fs : Array Value} (hot : HotAt A x1 s.heap) (ho : s.heap.get? j = some o) (hd : o.data = .fields fs) (hz : fs.size ≤ 2) : x1 ≠ j := fun e => by
  obtain ⟨_, o1, v1, g1, e1, k1⟩ := hot
  rw [e, ho] at g1; cases g1
  rw [hd] at e1; cases e1
  rw [Array.getElem?_eq_none (by omega)] at k1; cases k1
theorem tup_end {j t x1 : Addr} {i : Nat} {ys : Array Value} {Q : Option Value → Shared → Prop} (hot : HotAt A x1 s.heap) (hj : s.heap.IsTupleIter j t i) (ht : s.heap.IsTuple t ys) (hx : ys[i]? = none)
    (q : ∀ h2, Heap.ExtBut j s.heap h2 → Q none { s with heap := h2 }) : wpAny (model prog w) A (pyNext (.ref j)) Q E s := by
  obtain ⟨ob, hb, hc, hd⟩ := id hj
  obtain ⟨ot, hot2, _, nt, hdt⟩ := ht
  have hne := hot_ne hot hb hd (by simp)
  obtain ⟨hh, o1, v1, g1, e1, k1⟩ := hot
  unfold pyNext
  refine wpAny_bind (wpAny_attempt (wpAny_callSpecial?_slot (name := Str.ofString "__next__") hj.typeIs F.slot_tuple_iterator_next (wpAny_call_entry F.slot_tuple_iterator_next hj.typeIs F.entry_tuple_iterator_next ?_ (F.args_tuple_iterator_next_1 _))))
  show wpAny _ _ (field (.ref j) 0 >>= _) _ _ s
  refine wpAny_bind (wpAny_field hb hd (x := .ref t) rfl ?_)
  show wpAny _ _ (if (Value.ref t == Value.none) = true then _ else _) _ _ s
  rw [if_neg (show ¬ (Value.ref t == Value.none) = true by exact Bool.false_ne_true)]
  show wpAny _ _ (field (.ref j) 1 >>= _) _ _ s
  refine wpAny_bind (wpAny_field hb hd (x := .int i 0) rfl ?_)
  show wpAny _ _ (seqItems? (.ref t) >>= _) _ _ s
  refine wpAny_bind (wpAny_seqItems hot2 hdt ?_); simp only [Int.toNat_natCast, hx]
  refine wpAny_bind (wpAny_rule (wpAny_bind (wpAny_setField hb hd (by simp) ?_))); show wpAny _ _ (newExc (.type "StopIteration") [] >>= _) _ _ _
  have g2 : (s.heap.update j (Obj.mapFields (·.setIfInBounds 0 .none))).get? x1 = some o1 := by rw [Heap.get?_update_other _ _ hne.symm]; exact g1
  have eb : Heap.ExtBut j s.heap (s.heap.update j (Obj.mapFields (·.setIfInBounds 0 .none))) := (Heap.SameBut.update ..).extBut
  generalize s.heap.update j (Obj.mapFields (·.setIfInBounds 0 .none)) = h9 at *
  refine wpAny_bind ?_; simp only [newExc, newTuple]
  refine wpAny_bind (wpAny_newObj_type ?_ (by size_fits)); refine wpAny_bind (m := firstArgMember _ _) (wpAny_of_eq (a := Value.none) (by first | rfl | (simp only [firstArgMember]; rfl)) ?_)
  refine wpAny_newObj_type ?_ (by size_fits)
  refine raiseNew_hot ⟨hh, o1, v1, Heap.get?_push_of_some _ (Heap.get?_push_of_some _ g2), e1, k1⟩ (Nat.ne_of_lt (Heap.lt_size (Heap.get?_push_of_some _ g2))) (Heap.get?_push_size _ rfl) rfl (by first | (simp; done) | (simp; omega) | (simp only [Array.size_append]; simp; omega)) ?_
  refine wpAny_bind (wpAny_isInstance (T := "StopIteration") (b := true) ⟨_, Heap.get?_update_self _ (Heap.get?_push_size _ rfl) rfl, rfl⟩ isSubtype_stop (wpAny_pure (q _ fun b o nb e => ?_)))
  have e3 := eb b o nb e
  rw [Heap.get?_update_other _ _ (Nat.ne_of_gt (Heap.lt_size (Heap.get?_push_of_some _ e3)))]; exact Heap.get?_push_of_some _ (Heap.get?_push_of_some _ e3)
theorem list_end {j t x1 : Addr} {i : Nat} {ys : Array Value} {Q : Option Value → Shared → Prop} (hot : HotAt A x1 s.heap) (hj : s.heap.IsListIter j t i) (ht : s.heap.IsList t ys) (hx : ys[i]? = none)
    (q : ∀ h2, Heap.ExtBut j s.heap h2 → Q none { s with heap := h2 }) : wpAny (model prog w) A (pyNext (.ref j)) Q E s := by
  obtain ⟨ob, hb, hc, hd⟩ := id hj
  obtain ⟨ot, hot2, _, nt, hdt⟩ := ht
  have hne := hot_ne hot hb hd (by simp)
  obtain ⟨hh, o1, v1, g1, e1, k1⟩ := hot
  unfold pyNext
  refine wpAny_bind (wpAny_attempt (wpAny_callSpecial?_slot (name := Str.ofString "__next__") hj.typeIs slot_listiter_next (wpAny_call_entry slot_listiter_next hj.typeIs entry_listiter_next ?_ (args_listiter_next _))))
  show wpAny _ _ (field (.ref j) 0 >>= _) _ _ s
  refine wpAny_bind (wpAny_field hb hd (x := .ref t) rfl ?_)
  show wpAny _ _ (if (Value.ref t == Value.none) = true then _ else _) _ _ s
  rw [if_neg (show ¬ (Value.ref t == Value.none) = true by exact Bool.false_ne_true)]
  show wpAny _ _ (field (.ref j) 1 >>= _) _ _ s
  refine wpAny_bind (wpAny_field hb hd (x := .int i 0) rfl ?_)
  show wpAny _ _ (seqItems? (.ref t) >>= _) _ _ s
  refine wpAny_bind (wpAny_seqItems hot2 hdt ?_); simp only [Int.toNat_natCast, hx]
  refine wpAny_bind (wpAny_rule (wpAny_bind (wpAny_setField hb hd (by simp) ?_))); show wpAny _ _ (newExc (.type "StopIteration") [] >>= _) _ _ _
  have g2 : (s.heap.update j (Obj.mapFields (·.setIfInBounds 0 .none))).get? x1 = some o1 := by rw [Heap.get?_update_other _ _ hne.symm]; exact g1
  have eb : Heap.ExtBut j s.heap (s.heap.update j (Obj.mapFields (·.setIfInBounds 0 .none))) := (Heap.SameBut.update ..).extBut
  generalize s.heap.update j (Obj.mapFields (·.setIfInBounds 0 .none)) = h9 at *
  refine wpAny_bind ?_; simp only [newExc, newTuple]
  refine wpAny_bind (wpAny_newObj_type ?_ (by size_fits)); refine wpAny_bind (m := firstArgMember _ _) (wpAny_of_eq (a := Value.none) (by first | rfl | (simp only [firstArgMember]; rfl)) ?_)
  refine wpAny_newObj_type ?_ (by size_fits)
  refine raiseNew_hot ⟨hh, o1, v1, Heap.get?_push_of_some _ (Heap.get?_push_of_some _ g2), e1, k1⟩ (Nat.ne_of_lt (Heap.lt_size (Heap.get?_push_of_some _ g2))) (Heap.get?_push_size _ rfl) rfl (by first | (simp; done) | (simp; omega) | (simp only [Array.size_append]; simp; omega)) ?_
  refine wpAny_bind (wpAny_isInstance (T := "StopIteration") (b := true) ⟨_, Heap.get?_update_self _ (Heap.get?_push_size _ rfl) rfl, rfl⟩ isSubtype_stop (wpAny_pure (q _ fun b o nb e => ?_)))
  have e3 := eb b o nb e
  rw [Heap.get?_update_other _ _ (Nat.ne_of_gt (Heap.lt_size (Heap.get?_push_of_some _ e3)))]; exact Heap.get?_push_of_some _ (Heap.get?_push_of_some _ e3)
theorem HotAt.keep {x1 : Addr} {h h2 : Heap} (hot : HotAt A x1 h) (k : ∀ o, h.get? x1 = some o → h2.get? x1 = some o) : HotAt A x1 h2 := by
  obtain ⟨hh, o, v, g, e, c⟩ := hot
  exact ⟨hh, o, v, k o g, e, c⟩
/-- a tuple is taken apart -/
theorem items_hot {t x1 : Addr} {ys : Array Value} {Q : List Value → Shared → Prop} (hot : HotAt A x1 s.heap) (ht : IsTup s.heap t ys) (q : ∀ h2, Heap.ExtBut s.heap.objs.size s.heap h2 → Q ys.toList { s with heap := h2 }) :
    wpAny (model prog w) A (unpackItems (.ref t) ys.size none) Q E s := by
  have nt : t ≠ s.heap.objs.size := by obtain ⟨o, e, _⟩ := ht; exact Nat.ne_of_lt (Heap.lt_size e)
  have nx : x1 ≠ s.heap.objs.size := by obtain ⟨_, o, _, e, _⟩ := hot; exact Nat.ne_of_lt (Heap.lt_size e)
  unfold unpackItems notIterableAtAll
  refine wpAny_bind (wpAny_bind (wpAny_specialOf ht.typeIs slot_tuple_iter.lookup (wpAny_pure ?_))); simp only [Bool.false_eq_true, if_false]
  refine wpAny_bind (wpAny_holding (iter_tuple ht (wpAny_bind (wpAny_holding (draw_tuple nt ys.size 0 _ _ ⟨_, Heap.get?_push_size _ rfl, rfl, rfl⟩ (ht.push _) (by omega) fun h3 i3 b3 => ?_)))))
  rw [show List.take ys.size (List.drop 0 ys.toList) = ys.toList from by rw [List.drop_zero]; exact List.take_of_length_le (by simp), if_neg (by simp)]
  have t3 : IsTup h3 t ys := (ht.push _).extBut b3.extBut nt
  have x3 : HotAt A x1 h3 := HotAt.keep hot fun o e => b3.extBut x1 o nx (Heap.get?_push_of_some _ e)
  refine wpAny_bind (wpAny_holding (tup_end (s := { s with heap := h3 }) x3 i3 t3 (by simp) fun h4 e4 => ?_)); simp only [Option.isSome_none, Bool.false_eq_true, if_false]
  exact wpAny_pure (q h4 fun b o nb e => e4 b o nb (b3.extBut b o nb (Heap.get?_push_of_some _ e)))
end
section
variable {P : Program} {w : World} {K : PySem.W.Frag} {tg : Expr}
theorem one_of {b i : Addr} {Z : Prop} (h : b ∈ [i]) (f : b = i → Z) : Z := f (by simpa using h)
theorem turn_tupH (a i0 : Addr) : TurnH P w K tg (Itt K a) [i0] i0 (fun i h => h.IsTupleIter i0 a i) :=
  { mem := List.mem_cons_self
    obj := fun i h st b hb => one_of hb fun e => by
      subst e
      obtain ⟨o, g, c, d⟩ := st
      exact ⟨o, g, fun v z => by rw [d] at z; cases z⟩
    keep := fun i h h2 st k => st.at fun o e => k i0 List.mem_cons_self o e
    item := fun X hP hw hK hc i pins s σ H E I hf st hg => by
      subst hP hw hK
      obtain ⟨xs, x, hq, hx⟩ := hg
      obtain ⟨its, rv, p, hz⟩ := I.tuple hq
      obtain ⟨u, hu, ru⟩ := rv.get hx
      obtain ⟨f0, f1, f2, f3, f4, f5⟩ := hf i0 List.mem_cons_self
      refine wpAny_pyNext_tuple_item st (show s.heap.IsTuple a its.toArray from p) (x := u) (by simpa using hu) fun h2 st2 sb => ?_
      have I1 : Inv X pins σ H { s with heap := h2 } := I.turned (t' := s.toks) (fun b o nb e => (sb.2 b nb).trans e) f0 f1 f3 f4 f5
      obtain ⟨o, g, c, d⟩ := id st2
      exact ⟨u, rfl, go_of (s := { s with heap := h2 }) g c d (by decide) ⟨x, H, I1, ru, ⟨rfl, fun ys hy => by rw [I.tuple_inj hy hq]; exact hx⟩, st2, fun b hb => (hf b hb).1⟩⟩
    done := fun X hP hw hK hc i pins s σ H E I hf st hg => by
      subst hP hw hK
      obtain ⟨xs, hq, hx⟩ := hg
      obtain ⟨its, rv, p, hz⟩ := I.tuple hq
      obtain ⟨f0, f1, f2, f3, f4, f5⟩ := hf i0 List.mem_cons_self
      have hl := rv.length
      obtain ⟨x1, hot⟩ := hc.at I
      exact tup_end hot st (show s.heap.IsTuple a its.toArray from p) (by simp; omega) fun h2 eb => ⟨rfl, I.turned (t' := s.toks) (fun b o nb e => eb b o nb e) f0 f1 f3 f4 f5⟩
    self := fun _ _ _ _ _ st h => wpAny_pyIter_tupleiter st h }
theorem turn_listH (a i0 : Addr) : TurnH P w K tg (Itl K a) [i0] i0 (fun i h => h.IsListIter i0 a i) :=
  { mem := List.mem_cons_self
    obj := fun i h st b hb => one_of hb fun e => by
      subst e
      obtain ⟨o, g, c, d⟩ := st
      exact ⟨o, g, fun v z => by rw [d] at z; cases z⟩
    keep := fun i h h2 st k => st.at fun o e => k i0 List.mem_cons_self o e
    item := fun X hP hw hK hc i pins s σ H E I hf st hg => by
      subst hP hw hK
      obtain ⟨xs, x, hq, hx⟩ := hg
      obtain ⟨its, rv, p, hz⟩ := I.list hq
      obtain ⟨u, hu, ru⟩ := rv.get hx
      obtain ⟨f0, f1, f2, f3, f4, f5⟩ := hf i0 List.mem_cons_self
      refine wpAny_pyNext_list_item st p.isList (x := u) (by simpa using hu) fun h2 st2 sb => ?_
      have I1 : Inv X pins σ H { s with heap := h2 } := I.turned (t' := s.toks) (fun b o nb e => (sb.2 b nb).trans e) f0 f1 f3 f4 f5
      obtain ⟨o, g, c, d⟩ := id st2
      exact ⟨u, rfl, go_of (s := { s with heap := h2 }) g c d (by decide) ⟨x, H, I1, ru, ⟨rfl, fun ys hy => by rw [I.list_inj hy hq]; exact hx⟩, st2, fun b hb => (hf b hb).1⟩⟩
    done := fun X hP hw hK hc i pins s σ H E I hf st hg => by
      subst hP hw hK
      obtain ⟨xs, hq, hx⟩ := hg
      obtain ⟨its, rv, p, hz⟩ := I.list hq
      obtain ⟨f0, f1, f2, f3, f4, f5⟩ := hf i0 List.mem_cons_self
      have hl := rv.length
      obtain ⟨x1, hot⟩ := hc.at I
      exact list_end hot st p.isList (by simp; omega) fun h2 eb => ⟨rfl, I.turned (t' := s.toks) (fun b o nb e => eb b o nb e) f0 f1 f3 f4 f5⟩
    self := fun _ _ _ _ _ st h => wpAny_pyIter_listiter st h }
end
section
variable {X : Cx} {tg : Expr}
theorem pi_tupH {l : Expr} {tl : TE} (hl : PE X l tl) : PIH X tg l (iTup X.K tl) :=
  ⟨fun pins s σ H R I h => thn (hl.run pins s σ H _ I h) fun v s1 z => by
    obtain ⟨x, H1, I1, r1, a, e, ⟨xs, hq⟩, q⟩ := z
    subst e
    cases r1
    obtain ⟨its, rv, p, hz⟩ := I1.tuple hq
    refine wpAny_pyIter_tuple (show s1.heap.IsTuple a its.toArray from p) ⟨s1.heap.objs.size, [s1.heap.objs.size], _, _, H1, rfl, I1.kept (t' := s1.toks) fun b o e => Heap.get?_push_of_some _ e, turn_tupH a _, ⟨_, Heap.get?_push_size _ rfl, rfl, rfl⟩, fun b hb => one_of hb fun e => ?_, q⟩
    subst e
    exact I1.fpOk (Nat.le_refl _) (I1.hok.fresh (Nat.le_refl _))⟩
theorem pi_listH {l : Expr} {tl : TE} (hl : PE X l tl) : PIH X tg l (iList X.K tl) :=
  ⟨fun pins s σ H R I h => thn (hl.run pins s σ H _ I h) fun v s1 z => by
    obtain ⟨x, H1, I1, r1, a, e, ⟨xs, hq⟩, q⟩ := z
    subst e
    cases r1
    obtain ⟨its, rv, p, hz⟩ := I1.list hq
    refine wpAny_pyIter_list p.isList ⟨s1.heap.objs.size, [s1.heap.objs.size], _, _, H1, rfl, I1.kept (t' := s1.toks) fun b o e => Heap.get?_push_of_some _ e, turn_listH a _, ⟨_, Heap.get?_push_size _ rfl, rfl, rfl⟩, fun b hb => one_of hb fun e => ?_, q⟩
    subst e
    exact I1.fpOk (Nat.le_refl _) (I1.hok.fresh (Nat.le_refl _))⟩
/-- a, b, .. = a tuple -/
theorem pg_tupH {es : List Expr} {k : Nat} {t : TGs} {n : Nat} {pos : Pos} (hc : HotC X) (h : PGs X es t) (hn : (assignEach es X.env).length = n := by rfl) (hst : (assignEach es X.env).findIdx? (·.1) = none := by rfl) : PG X (.Tuple es k pos) (gTup X.K n t) :=
  ⟨fun pins s σ H v u Q I r hw => by
    obtain ⟨a, xs, e1, hq, hl, hw⟩ := hw
    subst e1
    cases r
    obtain ⟨its, rv, ht, hz⟩ := I.tuple hq
    obtain ⟨x1, hot⟩ := hc.at I
    rw [assign_Tuple]
    refine wpAny_bind (wpAny_standAt ?_)
    unfold unpack
    rw [show (assignEach es X.env).length = its.toArray.size from by simp [hn, ← hl, rv.length], hst]
    refine wpAny_bind (wpAny_holding (items_hot hot ht fun h2 hx => ?_))
    have I1 : Inv X pins σ H { s with heap := h2 } := I.kept (t' := s.toks) fun b o e => hx b o (Nat.ne_of_lt (Heap.lt_size e)) e
    exact h.run pins _ σ H xs _ Q I1 (by simpa using rv) hw⟩
end
end HL

end
section
set_option Elab.async false
set_option linter.all false
set_option maxRecDepth 100000
set_option maxHeartbeats 4000000
namespace P5
open PySem PySem.Spec PySem.SeqAt PyProof.Rows L2
/-! ### lists of values that stand for something, one by one -/
def RelL {α : Type} (R : V → α → Prop) : List V → List α → Prop
  | [], [] => True
  | v :: vs, x :: xs => R v x ∧ RelL R vs xs
  | _, _ => False
namespace RelL
variable {α : Type} {R R' : V → α → Prop}
theorem imp (f : ∀ v x, R v x → R' v x) : ∀ {vs : List V} {xs : List α}, RelL R vs xs → RelL R' vs xs
  | [], [], _ => trivial
  | _ :: _, _ :: _, h => ⟨f _ _ h.1, imp f h.2⟩
  | [], _ :: _, h => h.elim
  | _ :: _, [], h => h.elim
theorem len : ∀ {vs : List V} {xs : List α}, RelL R vs xs → vs.length = xs.length
  | [], [], _ => rfl
  | _ :: _, _ :: _, h => congrArg (· + 1) (len h.2)
  | [], _ :: _, h => h.elim
  | _ :: _, [], h => h.elim
theorem get : ∀ {vs : List V} {xs : List α} {i : Nat} {v : V}, RelL R vs xs → vs[i]? = some v → ∃ x, xs[i]? = some x ∧ R v x
  | v :: vs, x :: xs, 0, _, h, q => by
    cases q
    exact ⟨x, rfl, h.1⟩
  | v :: vs, x :: xs, i + 1, v', h, q => by
    obtain ⟨e', h1, h2⟩ := get (i := i) h.2 (by simpa using q)
    exact ⟨e', by simpa using h1, h2⟩
  | [], [], i, _, _, q => by simp at q
  | [], _ :: _, _, _, h, _ => h.elim
  | _ :: _, [], _, _, h, _ => h.elim
theorem take : ∀ {vs : List V} {xs : List α} (n : Nat), RelL R vs xs → RelL R (vs.take n) (xs.take n)
  | _, _, 0, _ => by rw [List.take_zero, List.take_zero]; trivial
  | [], [], n + 1, _ => trivial
  | _ :: _, _ :: _, n + 1, h => ⟨h.1, take n h.2⟩
  | [], _ :: _, _ + 1, h => h.elim
  | _ :: _, [], _ + 1, h => h.elim
theorem drop : ∀ {vs : List V} {xs : List α} (n : Nat), RelL R vs xs → RelL R (vs.drop n) (xs.drop n)
  | _, _, 0, h => by rw [List.drop_zero, List.drop_zero]; exact h
  | [], [], n + 1, _ => trivial
  | _ :: _, _ :: _, n + 1, h => drop n h.2
  | [], _ :: _, _ + 1, h => h.elim
  | _ :: _, [], _ + 1, h => h.elim
theorem app : ∀ {vs ws : List V} {xs ys : List α}, RelL R vs xs → RelL R ws ys → RelL R (vs ++ ws) (xs ++ ys)
  | [], _, [], _, _, h => h
  | _ :: _, _, _ :: _, _, h, q => ⟨h.1, app h.2 q⟩
  | [], _, _ :: _, _, h, _ => h.elim
  | _ :: _, _, [], _, h, _ => h.elim
theorem one {v : V} {x : α} (h : R v x) : RelL R [v] [x] := ⟨h, trivial⟩
theorem rev : ∀ {vs : List V} {xs : List α}, RelL R vs xs → RelL R vs.reverse xs.reverse
  | [], [], _ => trivial
  | _ :: _, _ :: _, h => by
    rw [List.reverse_cons, List.reverse_cons]
    exact app (rev h.2) (one h.1)
  | [], _ :: _, h => h.elim
  | _ :: _, [], h => h.elim
end RelL
/-! ### pieces in the heap -/
def bV : Option Nat → V
  | none => .non
  | some b => .int b
def PcV (K : PySem.W.Frag) (H : Hp) (v : V) : Pc → Prop
  | .kp a b => ∃ x t, v = .ref x ∧ SqT K H x [.int a, bV b, .ref t] ∧ SqT K H t [] ∧ ∀ b', b = some b' → a ≤ b'
  | .pt ws => ∃ x t, v = .ref x ∧ SqT K H x [.non, .non, .ref t] ∧ SqT K H t (ws.map V.str)
def PcsV (K : PySem.W.Frag) (H : Hp) : List V → List Pc → Prop := RelL (PcV K H)
theorem PcV.same {K : PySem.W.Frag} {H H' : Hp} (s : Same H H') {v : V} {p : Pc} (h : PcV K H v p) : PcV K H' v p := by
  cases p with
  | kp a b => obtain ⟨x, t, h1, h2, h3, h4⟩ := h; exact ⟨x, t, h1, Same.tup s h2, Same.tup s h3, h4⟩
  | pt ws => obtain ⟨x, t, h1, h2, h3⟩ := h; exact ⟨x, t, h1, Same.tup s h2, Same.tup s h3⟩
theorem PcsV.same {K : PySem.W.Frag} {H H' : Hp} (s : Same H H') {vs : List V} {ps : List Pc} (h : PcsV K H vs ps) : PcsV K H' vs ps := RelL.imp (fun _ _ q => q.same s) h
/-- a piece's places and words as values -/
def pV0 : Pc → V
  | .kp a _ => .int a
  | .pt _ => .non
def pV1 : Pc → V
  | .kp _ b => bV b
  | .pt _ => .non
def pWs : Pc → List Str
  | .kp _ _ => []
  | .pt ws => ws
theorem PcV.open {K : PySem.W.Frag} {H : Hp} {v : V} {p : Pc} (h : PcV K H v p) : ∃ x t, v = .ref x ∧ SqT K H x [pV0 p, pV1 p, .ref t] ∧ SqT K H t ((pWs p).map V.str) := by
  cases p with
  | kp a b => obtain ⟨x, t, h1, h2, h3, h4⟩ := h; exact ⟨x, t, h1, h2, h3⟩
  | pt ws => obtain ⟨x, t, h1, h2, h3⟩ := h; exact ⟨x, t, h1, h2, h3⟩
section
variable {P : Program} {w : World} {K : PySem.W.Frag} {mg : Str → Option Value} {base : Heap} {aN aS CE : Addr}
abbrev sCut : Stmt := tp 22
abbrev NCut : List Str := ["pieces", "place", "front", "left", "number", "piece", "first", "last", "words"]
theorem scCut : FnScope NCut ["pieces", "place"] (defScope sCut) := ⟨rfl, rfl, rfl, by decide +kernel, rfl, by decide +kernel, by decide +kernel⟩
def spCut (K : PySem.W.Frag) : Sp := fun vs H Q _ => ∃ (l : Addr) (pv : List V) (ps : List Pc) (n : Nat), vs = [.ref l, .int n] ∧ SqL K H l pv ∧ PcsV K H pv ps ∧ ps.length ≤ 500 ∧
  ∀ H' r f b fv bv, Same H H' → H' r = some (.tup [.ref f, .ref b]) → H' f = some (.lst fv) → H' b = some (.lst bv) → PcsV K H' fv (cutP ps n).1 → PcsV K H' bv (cutP ps n).2 → Q (.ref r) H'
/-- what the law's module has -/
structure BN (mg : Str → Option Value) : Prop where
  len : mg "len" = none
  enum : mg "enumerate" = none
  tup : mg "tuple" = none
  max : mg "max" = none
  lst : mg "list" = none
  isi : mg "isinstance" = none
  all : mg "all" = none
  sum : mg "sum" = none
theorem same_put {H H' : Hp} {p : Addr} {o : HO} (hn : H p = none) (s : Same H H') : Same H (upd H' p o) := fun b u q => by
  rw [upd_ne (ne_of_none q hn)]
  exact s b u q
theorem PcV.put {H : Hp} {p : Addr} {ys zs : List V} (hp : H p = some (.lst ys)) {v : V} {c : Pc} (h : PcV K H v c) : PcV K (upd H p (.lst zs)) v c := by
  cases c with
  | kp a b => obtain ⟨x, t, h1, h2, h3, h4⟩ := h; exact ⟨x, t, h1, SqT.put hp h2, SqT.put hp h3, h4⟩
  | pt ws => obtain ⟨x, t, h1, h2, h3⟩ := h; exact ⟨x, t, h1, SqT.put hp h2, SqT.put hp h3⟩
theorem noPart {σ : L2.St} {H : Hp} {Q : Option Int → Hp → Prop} (h : Q none H) : tNoPart σ H Q := h
theorem slA_of {H : Hp} {a : Addr} {xs : List V} {lo hi : Option Int} {Q : VK} (hS : SqT K H a xs) (q : ∀ H' p, Same H H' → SqT K H' p (cutV xs lo hi) → Q (.ref p) H') : rSlA K (.ref a) lo hi H Q := by
  refine ⟨a, xs, rfl, hS, fun ⟨w1, w2⟩ => q H a (Same.refl _) ?_, fun _ p hp => q _ p (Same.new hp _) (SqT.of upd_same)⟩
  have e : cutV xs lo hi = xs := by
    unfold cutV
    rw [w1, w2, List.drop_zero, Nat.sub_zero, List.take_length]
  rw [e]
  exact hS
theorem catA_of {H : Hp} {a b : Addr} {xs ys : List V} {Q : VK} (hS : SqT K H a xs) (hT : SqT K H b ys) (hl : xs.length + ys.length ≤ sizeLine) (q : ∀ H' p, Same H H' → SqT K H' p (xs ++ ys) → Q (.ref p) H') : rCatA K (.ref a) (.ref b) H Q := by
  refine ⟨a, b, xs, ys, rfl, rfl, hS, hT, hl, fun e => q H b (Same.refl _) (by rw [e]; exact hT), fun _ e => q H a (Same.refl _) (by rw [e, List.append_nil]; exact hS), fun _ _ p hp => q _ p (Same.new hp _) (SqT.of upd_same)⟩
theorem kat_drop {α : Type} {l : List α} {i : Nat} {x : α} (h : l[i]? = some x) : i < l.length ∧ l.drop i = x :: l.drop (i + 1) := by
  have hi : i < l.length := by
    by_cases z : i < l.length
    · exact z
    · rw [List.getElem?_eq_none (by omega)] at h
      cases h
  refine ⟨hi, ?_⟩
  rw [List.getElem?_eq_getElem hi] at h
  rw [List.drop_eq_getElem_cons hi, Option.some.inj h]
theorem ok_cut {f : Addr} {fd : FuncData} (F : Fun K "cut" "cut" sCut f fd) (B : BN mg) : FnOk P w K mg base CX0 1 f fd ["pieces", "place"] (spCut K) := by
  refine F.ok scCut (fun vs H Q E h => ?_) (fun cdv A outer s H vs Q E hr h => ?_)
  · obtain ⟨_, _, _, _, rfl, _⟩ := h
    rfl
  obtain ⟨l, pv0, ps, n, rfl, hS, hP, hl, q⟩ := h
  refine ⟨_, pss_cons (ps_set (i := 2) scCut.nd rfl (Or.inl rfl) (pe_lst pa_nil)) (pss_cons (ps_set (i := 3) scCut.nd rfl (Or.inl rfl) (pv 1))
    (pss_cons (ps_for PassesOwn.never rfl (pi_enum rfl B.enum (pa_cons (pv 0) pa_nil)) (pg_tup rfl (pgs_cons (pg_name (i := 4) scCut.nd rfl (Or.inl rfl)) (pgs_cons (pg_name (i := 5) scCut.nd rfl (Or.inl rfl)) pgs_nil)))
      (pss_cons (ps_asg (pv 5) (pg_tup rfl (pgs_cons (pg_name (i := 6) scCut.nd rfl (Or.inl rfl)) (pgs_cons (pg_name (i := 7) scCut.nd rfl (Or.inl rfl)) (pgs_cons (pg_name (i := 8) scCut.nd rfl (Or.inl rfl)) pgs_nil)))))
      (pss_cons (ps_if (PW.pt (pw_and (pt_cmp (pc_isN (pv 6))) (pw_and1 (pt_cmpR op_gt (pe_callB call_len_seq rfl B.len PySem.boot_len (pa_cons (pv 8) pa_nil)) (pv 3) (nomark _)))))
        (pss_one (ps_ret (pe_tup (pa_cons (pe_op op_cat (pv 2) (pe_lst (pa_cons (pe_tup (pa_cons pe_non (pa_cons pe_non (pa_cons (pe_slice (r := rSlA K) sl_tupA (pv 8) po_none (po_some (pv 3))) pa_nil)))) pa_nil)))
          (pa_cons (pe_op op_cat (pe_lst (pa_cons (pe_tup (pa_cons pe_non (pa_cons pe_non (pa_cons (pe_slice (r := rSlA K) sl_tupA (pv 8) (po_some (pv 3)) po_none) pa_nil)))) pa_nil)) (pe_slice (r := rSlL K) sl_list (pv 0) (po_some (pe_op op_add (pv 4) pe_int)) po_none)) pa_nil))))) pss_nil)
      (pss_cons (ps_if (PW.pt (pw_and (pt_cmp (pc_notN (pv 6))) (pw_and1 (PW.pt (pw_or (pt_cmp (pc_isN (pv 7))) (pw_or1 (pt_cmpR op_gt (pe_op op_sub (pv 7) (pv 6)) (pv 3) (nomark _))))))))
        (pss_one (ps_ret (pe_tup (pa_cons (pe_op op_cat (pv 2) (pe_lst (pa_cons (pe_tup (pa_cons (pv 6) (pa_cons (pe_op op_add (pv 6) (pv 3)) (pa_cons (pe_tup pa_nil) pa_nil)))) pa_nil)))
          (pa_cons (pe_op op_cat (pe_lst (pa_cons (pe_tup (pa_cons (pe_op op_add (pv 6) (pv 3)) (pa_cons (pv 7) (pa_cons (pe_tup pa_nil) pa_nil)))) pa_nil)) (pe_slice (r := rSlL K) sl_list (pv 0) (po_some (pe_op op_add (pv 4) pe_int)) po_none)) pa_nil))))) pss_nil)
      (pss_cons (ps_expr (pe_bm PySem.F.plainAttrs_list PySem.F.slot_list_append PySem.F.type_list_append mt_append (pv 2) (pa_cons (pv 5) pa_nil)))
      (pss_one (ps_aug (i := 3) scCut.nd rfl (Or.inl rfl) (pe_ifExp (pt_cmp (pc_isN (pv 6))) (pe_callB call_len_seq rfl B.len PySem.boot_len (pa_cons (pv 8) pa_nil)) (pe_op op_sub (pv 7) (pv 6))) ip_sub)))))))
    (pss_one (ps_ret (pe_tup (pa_cons (pv 2) (pa_cons (pe_lst pa_nil) pa_nil))))))), ?_⟩
  refine ⟨by show 0 ≤ sizeLine; decide, fun F0 hF0 => ?_⟩
  have s0 := Same.new hF0 (.lst [])
  refine ⟨_, rfl, ?_⟩
  refine ⟨_, rfl, l, _, rfl, s0.seq hS, ?_⟩
  have hlen := hP.len
  refine for_it (walk_enum (K := K) (a := l) (xs := pv0)) (fun i σ H' => Same H H' ∧ ∃ (k : Nat) (v4 v5 v6 v7 v8 : Option V), H' F0 = some (.lst (pv0.take i)) ∧ cutP ps n = (ps.take i ++ (cutP (ps.drop i) k).1, (cutP (ps.drop i) k).2) ∧ σ = [some (.ref l), some (.int n), some (.ref F0), some (.int k), v4, v5, v6, v7, v8])
    ⟨s0, n, none, none, none, none, none, upd_same, rfl, rfl⟩ (fun i σ H' _ ⟨s, _⟩ => s.seq hS) ?_ ?_
  · rintro i x σ H1 H2 hi ⟨s1, k, v4, v5, v6, v7, v8, hF, hC, rfl⟩ ⟨T, x1, x2, rfl, hT, rfl, h1, h2⟩
    cases h1
    replace h2 : pv0[i]? = some x2 := h2
    obtain ⟨p, hp, hPc⟩ := hP.get h2
    obtain ⟨hil, hdr⟩ := kat_drop hp
    have hC0 := hC
    rw [hdr] at hC
    have s2 := Same.new hT (.tup [V.int (i : Nat), x2])
    have c2 : upd H1 T (.tup [V.int (i : Nat), x2]) T = some (.tup [V.int (i : Nat), x2]) := upd_same
    have hF2 := s2 _ _ hF
    generalize upd H1 T (.tup [V.int (i : Nat), x2]) = H2 at *
    have s12 := s1.trans s2
    have hS2 := s12.seq hS
    have hP2 := hP.same s12
    have hn0 : ∀ {o : HO} {H' : Hp}, Same H H' → Same H (upd H' F0 o) := fun s => same_put hF0 s
    have sz : ∀ {n : Nat}, n ≤ 1000 → n ≤ sizeLine := fun h => small_le h
    have hpl : pv0.length ≤ 500 := by omega
    -- the answer, once both new pieces stand
    have fin : ∀ {H3 : Hp} {p2 q2 q3 f0 : Addr} {pa pb : Pc}, Same H2 H3 → PcV K H3 (.ref p2) pa → PcV K H3 (.ref q2) pb → cutP ps n = (ps.take i ++ [pa], pb :: ps.drop (i + 1)) →
        H3 f0 = some (.lst (pv0.take i ++ [.ref p2])) → H3 q3 = some (.lst [.ref q2]) →
        ∃ a xs, V.ref l = .ref a ∧ SqL K H3 a xs ∧ ∀ p, H3 p = none → rCat (.ref q3) (.ref p) (upd H3 p (.lst (cutV xs (some ((i : Int) + 1)) none))) fun b0 H5 => [V.ref f0, b0].length ≤ sizeLine ∧ ∀ r, H5 r = none → Q (.ref r) (upd H5 r (.tup [.ref f0, b0])) := fun {H3 p2 q2 q3 f0 pa pb} s3 ha hb hC' hf hq => by
      refine ⟨l, pv0, rfl, s3.seq hS2, fun p hp => ?_⟩
      have s4 := Same.new hp (.lst (cutV pv0 (some ((i : Int) + 1)) none))
      have c4 : upd H3 p (.lst (cutV pv0 (some ((i : Int) + 1)) none)) p = some (.lst (pv0.drop (i + 1))) := by
        rw [upd_same, show ((i : Int) + 1) = ((i + 1 : Nat) : Int) from by omega, cut_from _ _ (by omega)]
      generalize upd H3 p (.lst (cutV pv0 (some ((i : Int) + 1)) none)) = H4 at *
      refine ⟨q3, p, _, _, rfl, rfl, s4 _ _ hq, c4, sz (by rw [List.length_drop, List.length_singleton]; omega), fun b0 hb0 => ⟨by show 2 ≤ sizeLine; decide, fun r hr => ?_⟩⟩
      have s5 := Same.new hb0 (.lst ([V.ref q2] ++ pv0.drop (i + 1)))
      have c5 : upd H4 b0 (.lst ([V.ref q2] ++ pv0.drop (i + 1))) b0 = some (.lst ([V.ref q2] ++ pv0.drop (i + 1))) := upd_same
      generalize upd H4 b0 (.lst ([V.ref q2] ++ pv0.drop (i + 1))) = H5 at *
      have s6 := Same.new hr (.tup [.ref f0, .ref b0])
      have s36 := (s4.trans s5).trans s6
      refine q _ r f0 b0 _ _ (s12.trans (s3.trans s36)) upd_same (s36 _ _ hf) (s6 _ _ c5) ?_ ?_
      · rw [hC']
        exact RelL.app (RelL.take _ (hP2.same (s3.trans s36))) (RelL.one (ha.same s36))
      · rw [hC']
        exact RelL.app (xs := [pb]) (RelL.one (hb.same s36)) (RelL.drop _ (hP2.same (s3.trans s36)))
    refine ⟨T, _, rfl, SqT.of c2, rfl, _, _, rfl, _, _, rfl, rfl, ?_⟩
    have more : ∀ {v6' v7' v8' : Option V} {z : Int} {k' : Nat}, z = k' → H2 F0 = some (.lst (pv0.take i)) → cutP ps n = (ps.take (i + 1) ++ (cutP (ps.drop (i + 1)) k').1, (cutP (ps.drop (i + 1)) k').2) →
        Same H (upd H2 F0 (.lst (pv0.take i ++ [x2]))) ∧ ∃ (k : Nat) (v4 v5 v6 v7 v8 : Option V), upd H2 F0 (.lst (pv0.take i ++ [x2])) F0 = some (.lst (pv0.take (i + 1))) ∧ cutP ps n = (ps.take (i + 1) ++ (cutP (ps.drop (i + 1)) k).1, (cutP (ps.drop (i + 1)) k).2) ∧
          [some (.ref l), some (.int n), some (.ref F0), some (.int z), some (.int (i : Nat)), some x2, v6', v7', v8'] = [some (.ref l), some (.int n), some (.ref F0), some (.int k), v4, v5, v6, v7, v8] := fun {v6' v7' v8' z k'} e hF' hC' => by
      subst e
      exact ⟨hn0 s12, k', _, _, _, _, _, by rw [upd_same, take_more h2], hC', rfl⟩
    cases p with
    | pt ws =>
      obtain ⟨x, t, rfl, hx, ht⟩ := hPc
      have hx2 := Same.tup s12 hx
      have ht2 := Same.tup s12 ht
      have hwl : (ws.map V.str).length = ws.length := List.length_map ..
      refine ⟨_, rfl, x, _, rfl, hx2, rfl, _, _, rfl, _, _, rfl, _, _, rfl, rfl, ?_⟩
      refine ⟨_, rfl, _, rfl, iteTT (decide_eq_true rfl) ⟨_, rfl, t, _, rfl, .inr ht2, _, rfl, _, _, rfl, rfl, _, rfl, ?_⟩⟩
      by_cases c : k < ws.length
      · refine iteTT (decide_eq_true (by rw [hwl]; omega)) ?_
        rw [cutP, if_pos c] at hC
        refine ⟨_, rfl, _, rfl, _, rfl, k, rfl, slA_of ht2 fun H3 p1 s3 hp1 => ⟨by show 3 ≤ sizeLine; decide, fun p2 hp2 => ⟨by show 1 ≤ sizeLine; decide, fun p3 hp3 => ?_⟩⟩⟩
        rw [cut_to _ _ (by omega), ← List.map_take] at hp1
        have s4 := Same.new hp2 (.tup [.non, .non, .ref p1])
        have c4 : upd H3 p2 (.tup [.non, .non, .ref p1]) p2 = some (.tup [.non, .non, .ref p1]) := upd_same
        generalize upd H3 p2 (.tup [.non, .non, .ref p1]) = H4 at *
        have s5 := Same.new hp3 (.lst [.ref p2])
        have c5 : upd H4 p3 (.lst [.ref p2]) p3 = some (.lst [.ref p2]) := upd_same
        generalize upd H4 p3 (.lst [.ref p2]) = H5 at *
        have s25 := (s3.trans s4).trans s5
        have A5 : PcV K H5 (.ref p2) (.pt (ws.take k)) := ⟨p2, p1, rfl, SqT.of (s5 _ _ c4), Same.tup (s4.trans s5) hp1⟩
        refine ⟨F0, p3, _, _, rfl, rfl, s25 _ _ hF2, c5, sz (by rw [List.length_take, List.length_singleton]; omega), fun f0 hf0 => ?_⟩
        have s6 := Same.new hf0 (.lst (pv0.take i ++ [.ref p2]))
        have c6 : upd H5 f0 (.lst (pv0.take i ++ [.ref p2])) f0 = some (.lst (pv0.take i ++ [.ref p2])) := upd_same
        generalize upd H5 f0 (.lst (pv0.take i ++ [.ref p2])) = H6 at *
        have s26 := s25.trans s6
        refine ⟨_, rfl, _, rfl, k, rfl, noPart (slA_of (Same.tup s26 ht2) fun H7 q1 s7 hq1 => ⟨by show 3 ≤ sizeLine; decide, fun q2 hq2 => ⟨by show 1 ≤ sizeLine; decide, fun q3 hq3 => ?_⟩⟩)⟩
        rw [cut_from _ _ (by omega), ← List.map_drop] at hq1
        have s8 := Same.new hq2 (.tup [.non, .non, .ref q1])
        have c8 : upd H7 q2 (.tup [.non, .non, .ref q1]) q2 = some (.tup [.non, .non, .ref q1]) := upd_same
        generalize upd H7 q2 (.tup [.non, .non, .ref q1]) = H8 at *
        have s9 := Same.new hq3 (.lst [.ref q2])
        have c9 : upd H8 q3 (.lst [.ref q2]) q3 = some (.lst [.ref q2]) := upd_same
        generalize upd H8 q3 (.lst [.ref q2]) = H9 at *
        have s79 := (s7.trans s8).trans s9
        have B5 : PcV K H9 (.ref q2) (.pt (ws.drop k)) := ⟨q2, q1, rfl, SqT.of (s9 _ _ c8), Same.tup (s8.trans s9) hq1⟩
        exact ⟨_, rfl, _, rfl, _, _, rfl, rfl, _, rfl, noPart (fin (s26.trans s79) (A5.same (s6.trans s79)) B5 hC (s79 _ _ c6) c9)⟩
      · refine iteFF (decide_eq_false (by rw [hwl]; omega)) ?_
        rw [cutP, if_neg c] at hC
        refine ⟨_, rfl, _, rfl, iteFF rfl (iteFF rfl ?_)⟩
        refine ⟨_, rfl, .inl ⟨rfl, _, .inl (.inl hF2)⟩, _, rfl, F0, _, _, rfl, rfl, hF2, sz (by rw [List.length_take]; omega), ?_⟩
        have hF3 : upd H2 F0 (.lst (pv0.take i ++ [.ref x])) F0 = some (.lst (pv0.take i ++ [.ref x])) := upd_same
        refine ⟨_, rfl, _, rfl, _, rfl, iteTT (decide_eq_true rfl) ⟨_, rfl, t, _, rfl, .inr (SqT.put hF2 ht2), ?_⟩⟩
        refine ⟨_, _, rfl, rfl, ?_⟩
        exact more (k' := k - ws.length) (by show (k : Int) - ((ws.map V.str).length : Int) = _; rw [hwl]; omega) hF2 (by rw [hC, take_more hp, List.append_assoc]; rfl)
    | kp a b =>
      obtain ⟨x, t, rfl, hx, ht, hle⟩ := hPc
      have hx2 := Same.tup s12 hx
      have ht2 := Same.tup s12 ht
      refine ⟨_, rfl, x, _, rfl, hx2, rfl, _, _, rfl, _, _, rfl, _, _, rfl, rfl, ?_⟩
      refine ⟨_, rfl, _, rfl, iteFF (decide_eq_false fun z => nomatch z) (iteFF rfl ?_)⟩
      refine ⟨_, rfl, _, rfl, iteTT (by rw [decide_eq_false (fun z => nomatch z)]; rfl) ?_⟩
      refine or_one (c := b = none) (d := k < b.getD 0 - a) (fun Q' q' => ⟨_, rfl, _, rfl, ?_⟩) (fun hb Q' q' => ?_) ?_
      · cases b with
        | none => exact q'
        | some b => exact q'
      · cases b with
        | none => exact absurd rfl hb
        | some b =>
          have := hle b rfl
          refine ⟨_, rfl, _, rfl, _, _, rfl, rfl, _, rfl, _, _, rfl, rfl, _, rfl, ?_⟩
          rw [show decide (k < (some b).getD 0 - a) = decide ((k : Int) < (b : Int) - (a : Int)) from decide_eq_decide.mpr ⟨fun z => by simp at z; omega, fun z => by simp; omega⟩] at q'
          exact q'
      by_cases c : b = none ∨ k < b.getD 0 - a
      · refine iteTT (decide_eq_true c) ?_
        have hC2 : cutP ps n = (ps.take i ++ [.kp a (some (a + k))], .kp (a + k) b :: ps.drop (i + 1)) := by
          cases b with
          | none => exact hC
          | some b =>
            rw [cutP, if_pos (show k < b - a from c.elim (fun z => nomatch z) fun z => z)] at hC
            exact hC
        refine ⟨_, rfl, _, rfl, _, rfl, _, rfl, _, _, rfl, rfl, by show 0 ≤ sizeLine; decide, fun p1 hp1 => ⟨by show 3 ≤ sizeLine; decide, fun p2 hp2 => ⟨by show 1 ≤ sizeLine; decide, fun p3 hp3 => ?_⟩⟩⟩
        have s3 := Same.new hp1 (.tup [])
        have c3 : upd H2 p1 (.tup []) p1 = some (.tup []) := upd_same
        generalize upd H2 p1 (.tup []) = H3 at *
        have s4 := Same.new hp2 (.tup [.int a, .int ((a : Int) + (k : Int)), .ref p1])
        have c4 : upd H3 p2 (.tup [.int a, .int ((a : Int) + (k : Int)), .ref p1]) p2 = some (.tup [.int a, .int ((a : Int) + (k : Int)), .ref p1]) := upd_same
        generalize upd H3 p2 (.tup [.int a, .int ((a : Int) + (k : Int)), .ref p1]) = H4 at *
        have s5 := Same.new hp3 (.lst [.ref p2])
        have c5 : upd H4 p3 (.lst [.ref p2]) p3 = some (.lst [.ref p2]) := upd_same
        generalize upd H4 p3 (.lst [.ref p2]) = H5 at *
        have s25 := (s3.trans s4).trans s5
        have A5 : PcV K H5 (.ref p2) (.kp a (some (a + k))) := ⟨p2, p1, rfl, SqT.of (s5 _ _ c4), SqT.of ((s4.trans s5) _ _ c3), fun b' e => by cases e; omega⟩
        refine ⟨F0, p3, _, _, rfl, rfl, s25 _ _ hF2, c5, sz (by rw [List.length_take, List.length_singleton]; omega), fun f0 hf0 => ?_⟩
        have s6 := Same.new hf0 (.lst (pv0.take i ++ [.ref p2]))
        have c6 : upd H5 f0 (.lst (pv0.take i ++ [.ref p2])) f0 = some (.lst (pv0.take i ++ [.ref p2])) := upd_same
        generalize upd H5 f0 (.lst (pv0.take i ++ [.ref p2])) = H6 at *
        have s26 := s25.trans s6
        refine ⟨_, rfl, _, rfl, _, _, rfl, rfl, _, rfl, by show 0 ≤ sizeLine; decide, fun q1 hq1 => ⟨by show 3 ≤ sizeLine; decide, fun q2 hq2 => ⟨by show 1 ≤ sizeLine; decide, fun q3 hq3 => ?_⟩⟩⟩
        have s7 := Same.new hq1 (.tup [])
        have c7 : upd H6 q1 (.tup []) q1 = some (.tup []) := upd_same
        generalize upd H6 q1 (.tup []) = H7 at *
        have s8 := Same.new hq2 (.tup [.int ((a : Int) + (k : Int)), bV b, .ref q1])
        have c8 : upd H7 q2 (.tup [.int ((a : Int) + (k : Int)), bV b, .ref q1]) q2 = some (.tup [.int ((a : Int) + (k : Int)), bV b, .ref q1]) := upd_same
        generalize upd H7 q2 (.tup [.int ((a : Int) + (k : Int)), bV b, .ref q1]) = H8 at *
        have s9 := Same.new hq3 (.lst [.ref q2])
        have c9 : upd H8 q3 (.lst [.ref q2]) q3 = some (.lst [.ref q2]) := upd_same
        generalize upd H8 q3 (.lst [.ref q2]) = H9 at *
        have s79 := (s7.trans s8).trans s9
        have B5 : PcV K H9 (.ref q2) (.kp (a + k) b) := ⟨q2, q1, rfl, SqT.of (s9 _ _ c8), SqT.of ((s8.trans s9) _ _ c7), fun b' e => by
          have := hle b' e
          subst e
          have z : k < b' - a := c.elim (fun z => nomatch z) fun z => z
          omega⟩
        exact ⟨_, rfl, _, rfl, _, _, rfl, rfl, _, rfl, noPart (fin (s26.trans s79) (A5.same (s6.trans s79)) B5 hC2 (s79 _ _ c6) c9)⟩
      · refine iteFF (decide_eq_false c) ?_
        obtain ⟨b, rfl⟩ : ∃ b', b = some b' := by
          cases b with
          | none => exact absurd (Or.inl rfl) c
          | some b => exact ⟨b, rfl⟩
        have c2 : ¬ k < b - a := fun z => c (.inr z)
        have := hle b rfl
        rw [cutP, if_neg c2] at hC
        refine ⟨_, rfl, .inl ⟨rfl, _, .inl (.inl hF2)⟩, _, rfl, F0, _, _, rfl, rfl, hF2, sz (by rw [List.length_take]; omega), ?_⟩
        refine ⟨_, rfl, _, rfl, _, rfl, iteFF (decide_eq_false fun z => nomatch z) ⟨_, rfl, _, rfl, _, _, rfl, rfl, ?_⟩⟩
        refine ⟨_, _, rfl, rfl, ?_⟩
        exact more (k' := k - (b - a)) (by show (k : Int) - ((b : Int) - (a : Int)) = _; omega) hF2 (by rw [hC, take_more hp, List.append_assoc]; rfl)
  · rintro σ H1 ⟨s1, k, v4, v5, v6, v7, v8, hF, hC, rfl⟩
    refine ⟨_, rfl, by show 0 ≤ sizeLine; decide, fun B0 hB0 => ⟨by show 2 ≤ sizeLine; decide, fun r hr => ?_⟩⟩
    rw [List.drop_of_length_le (by omega), List.take_of_length_le (by omega)] at hC
    have e1 : (cutP ps n).1 = ps := by rw [hC]; show ps ++ [] = ps; rw [List.append_nil]
    have e2 : (cutP ps n).2 = [] := by rw [hC]; rfl
    have sB := Same.new hB0 (.lst [])
    have sR := Same.new hr (.tup [.ref F0, .ref B0])
    have sBR := sB.trans sR
    rw [List.take_of_length_le (by omega)] at hF
    refine q _ r F0 B0 pv0 [] (s1.trans sBR) upd_same (sBR _ _ hF) (sR _ _ upd_same) ?_ ?_
    · rw [e1]; exact hP.same (s1.trans sBR)
    · rw [e2]; trivial
end
end P5

end
section
set_option Elab.async false
set_option linter.all false
set_option maxRecDepth 100000
set_option maxHeartbeats 4000000
namespace P5
open PySem PySem.Spec PySem.SeqAt PyProof.Rows L2
section
variable {P : Program} {w : World} {K : PySem.W.Frag} {mg : Str → Option Value} {base : Heap} {aN aS CE : Addr}
abbrev sUncut : Stmt := tp 19
theorem scUncut : FnScope [] [] (defScope sUncut) := ⟨rfl, rfl, rfl, by decide +kernel, rfl, by decide +kernel, by decide +kernel⟩
def spUncut (K : PySem.W.Frag) : Sp := fun vs H Q _ => vs = [] ∧ ∀ H' l v, Same H H' → H' l = some (.lst [v]) → PcV K H' v (.kp 0 none) → Q (.ref l) H'
abbrev sEdited : Stmt := tp 21
abbrev NEd : List Str := ["pieces", "first", "last", "words", "front", "rest", "_", "back"]
theorem scEdited : FnScope NEd ["pieces", "first", "last", "words"] (defScope sEdited) := ⟨rfl, rfl, rfl, by decide +kernel, rfl, by decide +kernel, by decide +kernel⟩
def spEdited (K : PySem.W.Frag) : Sp := fun vs H Q _ => ∃ (l t : Addr) (pv : List V) (ps : List Pc) (e : Ed), vs = [.ref l, .int e.a, .int e.b, .ref t] ∧ SqL K H l pv ∧ PcsV K H pv ps ∧ SqT K H t (e.ws.map V.str) ∧ e.a ≤ e.b ∧ ps.length ≤ 490 ∧
  ∀ H' l' pv', Same H H' → H' l' = some (.lst pv') → PcsV K H' pv' (edP ps e) → Q (.ref l') H'
theorem ok_edited {f fC : Addr} {fd fdC : FuncData} (F : Fun K "edited" "edited" sEdited f fd) (B : BN mg)
    (G : FnOk P w K mg base CX0 1 fC fdC ["pieces", "place"] (spCut K)) (b1 : Binds K fdC ["pieces", "place"] []) (k1 : PySem.W.keepIn K (.ref fC) = true) (m1 : mg "cut" = some (.ref fC)) : FnOk P w K mg base CX0 2 f fd ["pieces", "first", "last", "words"] (spEdited K) := by
  refine F.ok scEdited (fun vs H Q E h => ?_) (fun cdv A outer s H vs Q E hr h => ?_)
  · obtain ⟨_, _, _, _, _, rfl, _⟩ := h
    rfl
  obtain ⟨l, t, pv0, ps, e, rfl, hS, hP, hT, he, hl, q⟩ := h
  refine ⟨_, pss_cons (ps_asg (pe_call G hr rfl m1 k1 b1 .nil pass0 (pa_cons (pv 0) (pa_cons (pv 1) pa_nil))) (pg_tup rfl (pgs_cons (pg_name (i := 4) scEdited.nd rfl (Or.inl rfl)) (pgs_cons (pg_name (i := 5) scEdited.nd rfl (Or.inl rfl)) pgs_nil))))
    (pss_cons (ps_asg (pe_call G hr rfl m1 k1 b1 .nil pass0 (pa_cons (pv 5) (pa_cons (pe_op op_sub (pv 2) (pv 1)) pa_nil))) (pg_tup rfl (pgs_cons (pg_name (i := 6) scEdited.nd rfl (Or.inl rfl)) (pgs_cons (pg_name (i := 7) scEdited.nd rfl (Or.inl rfl)) pgs_nil))))
    (pss_one (ps_ret (pe_op op_cat (pe_op op_cat (pv 4) (pe_lst (pa_cons (pe_tup (pa_cons pe_non (pa_cons pe_non (pa_cons (pe_callTy call_tuple_of rfl B.tup (by decide +kernel) (pa_cons (pv 3) pa_nil)) pa_nil)))) pa_nil))) (pv 7))))), ?_⟩
  have hlen := hP.len
  have c1 := cutP_cnt ps e.a
  have c2 := cutP_cnt (cutP ps e.a).2 (e.b - e.a)
  refine ⟨_, rfl, _, rfl, l, pv0, ps, e.a, rfl, hS, hP, by omega, fun H1 r f0 b0 fv bv s1 hr1 hf1 hb1 hfv hbv => ?_⟩
  refine ⟨r, _, rfl, SqT.of hr1, rfl, _, _, rfl, _, _, rfl, rfl, ?_⟩
  refine ⟨_, rfl, _, rfl, _, rfl, _, _, rfl, rfl, b0, bv, (cutP ps e.a).2, e.b - e.a, congrArg (fun z : Int => [V.ref b0, V.int z]) (by omega), SqL.of hb1, hbv, by omega, fun H2 r2 f2 b2 fv2 bv2 s2 hr2 hf2 hb2 hfv2 hbv2 => ?_⟩
  refine ⟨r2, _, rfl, SqT.of hr2, rfl, _, _, rfl, _, _, rfl, rfl, ?_⟩
  have s12 := s1.trans s2
  have hT2 := Same.tup s12 hT
  refine ⟨_, rfl, _, rfl, t, _, rfl, .inr ⟨hT2, by show 3 ≤ sizeLine; decide, fun p2 hp2 => ⟨by show 1 ≤ sizeLine; decide, fun p3 hp3 => ?_⟩⟩⟩
  have s4 := Same.new hp2 (.tup [.non, .non, .ref t])
  have c4 : upd H2 p2 (.tup [.non, .non, .ref t]) p2 = some (.tup [.non, .non, .ref t]) := upd_same
  generalize upd H2 p2 (.tup [.non, .non, .ref t]) = H4 at *
  have s5 := Same.new hp3 (.lst [.ref p2])
  have c5 : upd H4 p3 (.lst [.ref p2]) p3 = some (.lst [.ref p2]) := upd_same
  generalize upd H4 p3 (.lst [.ref p2]) = H5 at *
  have s45 := s4.trans s5
  have A5 : PcV K H5 (.ref p2) (.pt e.ws) := ⟨p2, t, rfl, SqT.of (s5 _ _ c4), Same.tup s45 hT2⟩
  have l1 := hfv.len
  have l2 := hbv2.len
  have sz : ∀ {n : Nat}, n ≤ 1000 → n ≤ sizeLine := fun h => small_le h
  refine ⟨f0, p3, _, _, rfl, rfl, (s2.trans s45) _ _ hf1, c5, sz (by rw [List.length_singleton]; omega), fun f3 hf3 => ?_⟩
  have s6 := Same.new hf3 (.lst (fv ++ [.ref p2]))
  have c6 : upd H5 f3 (.lst (fv ++ [.ref p2])) f3 = some (.lst (fv ++ [.ref p2])) := upd_same
  generalize upd H5 f3 (.lst (fv ++ [.ref p2])) = H6 at *
  refine ⟨_, rfl, f3, b2, _, _, rfl, rfl, c6, (s45.trans s6) _ _ hb2, sz (by rw [List.length_append, List.length_singleton]; omega), fun f4 hf4 => ?_⟩
  have s7 := Same.new hf4 (.lst (fv ++ [.ref p2] ++ bv2))
  refine q _ f4 _ ((s12.trans s45).trans (s6.trans s7)) upd_same ?_
  exact RelL.app (RelL.app (hfv.same ((s2.trans s45).trans (s6.trans s7))) (RelL.one (A5.same (s6.trans s7)))) (hbv2.same (s45.trans (s6.trans s7)))
end
end P5

end
section
set_option Elab.async false
set_option linter.all false
set_option maxRecDepth 100000
set_option maxHeartbeats 4000000
namespace P5
open PySem PySem.Spec PySem.SeqAt PyProof.Rows L2
theorem chs_rel {K : PySem.W.Frag} {H : Hp} : ∀ {vs : List V} {es : List Ed}, ChsV K H vs es ↔ RelL (ChV K H) vs es
  | [], [] => Iff.rfl
  | v :: vs, e :: es => ⟨fun h => ⟨h.1, chs_rel.mp h.2⟩, fun h => ⟨h.1, chs_rel.mpr h.2⟩⟩
  | [], e :: es => Iff.rfl
  | v :: vs, [] => Iff.rfl
theorem last_end {L : Nat} : ∀ {ps : List Pc} {s i a : Nat}, WFp L s ps → ps[i]? = some (.kp a none) → ps.drop (i + 1) = []
  | _, _, 0, _, .last _ _, _ => rfl
  | _, _, i + 1, _, .last _ _, h => by simp at h
  | _, _, 0, _, .pt _, h => by simp at h
  | _, _, i + 1, _, .pt (r := r) hr, h => last_end (ps := r) (i := i) hr (by simpa using h)
  | _, _, 0, _, .kp _ _ _ _, h => by simp at h
  | _, _, i + 1, _, .kp (r := r) _ _ _ hr, h => last_end (ps := r) (i := i) hr (by simpa using h)
theorem seqIf {c : TT} {t u v : TS} {D : Ends} {σ : L2.St} {H : Hp} (h : c σ H fun b H1 => if b = true then t { D with nx := v D } σ H1 else u { D with nx := v D } σ H1) : tSeq (tIfS c t u) v D σ H := h
def chgN : Option Nat → List Pc → List Ed
  | none, _ => []
  | some b, r => chg b [] r
theorem ptot_cons (p : Pc) (r : List Pc) : ptot (p :: r) = (pWs p).length + ptot r := by
  cases p with
  | kp a b => exact (Nat.zero_add _).symm
  | pt ws => rfl
section
variable {P : Program} {w : World} {K : PySem.W.Frag} {mg : Str → Option Value} {base : Heap} {aN aS CE : Addr}
theorem ChV.put {H : Hp} {p : Addr} {ys zs : List V} (hp : H p = some (.lst ys)) {v : V} {e : Ed} (h : ChV K H v e) : ChV K (upd H p (.lst zs)) v e := by
  obtain ⟨a, t, h1, h2, h3⟩ := h
  exact ⟨a, t, h1, SqT.put hp h2, SqT.put hp h3⟩
theorem ChV.same {H H' : Hp} (s : Same H H') {v : V} {e : Ed} (h : ChV K H v e) : ChV K H' v e := h.imp fun _ _ q => Same.tup s q
abbrev sChg : Stmt := tp 23
abbrev NChg : List Str := ["pieces", "changes", "at", "words", "first", "last", "more"]
theorem scChg : FnScope NChg ["pieces"] (defScope sChg) := ⟨rfl, rfl, rfl, by decide +kernel, rfl, by decide +kernel, by decide +kernel⟩
def spChg (K : PySem.W.Frag) : Sp := fun vs H Q _ => ∃ (l : Addr) (pv : List V) (ps : List Pc) (L : Nat), vs = [.ref l] ∧ SqL K H l pv ∧ PcsV K H pv ps ∧ WFp L 0 ps ∧ ps.length ≤ 500 ∧ ptot ps ≤ 500 ∧
  ∀ H' t cv, Same H H' → SqT K H' t cv → ChsV K H' cv (chg 0 [] ps) → Q (.ref t) H'
/-- where the walk through pieces stands -/
def ChI (K : PySem.W.Frag) (ps : List Pc) (i : Nat) (H : Hp) (D : List Ed) (v2 v3 : Option V) : Prop :=
  (∃ (s : Nat) (ws : List Str) (wt : Addr), v2 = some (.int s) ∧ v3 = some (.ref wt) ∧ SqT K H wt (ws.map V.str) ∧ chg 0 [] ps = D ++ chg s ws (ps.drop i) ∧ ws.length + ptot (ps.drop i) ≤ 500) ∨ (ps.drop i = [] ∧ D = chg 0 [] ps)
theorem ok_chg {f : Addr} {fd : FuncData} (F : Fun K "changes_of" "changes_of" sChg f fd) (B : BN mg) : FnOk P w K mg base CX0 1 f fd ["pieces"] (spChg K) := by
  refine F.ok scChg (fun vs H Q E h => ?_) (fun cdv A outer s H vs Q E hr h => ?_)
  · obtain ⟨_, _, _, _, rfl, _⟩ := h
    rfl
  obtain ⟨l, pv0, ps, L, rfl, hS, hP, hW, hl, ht, q⟩ := h
  refine ⟨_, pss_cons (ps_set (i := 1) scChg.nd rfl (Or.inl rfl) (pe_lst pa_nil)) (pss_cons (ps_set (i := 2) scChg.nd rfl (Or.inl rfl) pe_int) (pss_cons (ps_set (i := 3) scChg.nd rfl (Or.inl rfl) (pe_tup pa_nil))
    (pss_cons (ps_for PassesOwn.never rfl (pi_list (pv 0)) (pg_tup rfl (pgs_cons (pg_name (i := 4) scChg.nd rfl (Or.inl rfl)) (pgs_cons (pg_name (i := 5) scChg.nd rfl (Or.inl rfl)) (pgs_cons (pg_name (i := 6) scChg.nd rfl (Or.inl rfl)) pgs_nil))))
      (pss_cons (ps_set (i := 3) scChg.nd rfl (Or.inl rfl) (pe_op (r := rCatA K) op_catA (pv 3) (pv 6)))
      (pss_one (ps_if (PW.pt (pw_and (pt_cmp (pc_notN (pv 4))) (pw_and1 (pt_cmpR op_ne (pv 4) (pv 5) (nomark _)))))
        (pss_cons (ps_if (PW.pt (pw_or (pt_cmpR op_lt (pv 2) (pv 4) (nomark _)) (pw_or1 (pt_truth (pv 3) (by intro _; rfl)))))
          (pss_one (ps_expr (pe_bm PySem.F.plainAttrs_list PySem.F.slot_list_append PySem.F.type_list_append mt_append (pv 1) (pa_cons (pe_tup (pa_cons (pv 2) (pa_cons (pv 4) (pa_cons (pv 3) pa_nil)))) pa_nil)))) pss_nil)
        (pss_cons (ps_set (i := 2) scChg.nd rfl (Or.inl rfl) (pv 5)) (pss_one (ps_set (i := 3) scChg.nd rfl (Or.inl rfl) (pe_tup pa_nil))))) pss_nil))))
    (pss_one (ps_ret (pe_callTy call_tuple_of rfl B.tup (by decide +kernel) (pa_cons (pv 1) pa_nil))))))), ?_⟩
  have sz : ∀ {n : Nat}, n ≤ 1000 → n ≤ sizeLine := fun h => small_le h
  have hlen := hP.len
  refine ⟨by show 0 ≤ sizeLine; decide, fun F0 hF0 => ?_⟩
  have s0 := Same.new hF0 (.lst [])
  have hF00 : upd H F0 (.lst []) F0 = some (.lst []) := upd_same
  generalize upd H F0 (.lst []) = H0 at *
  refine ⟨by show 0 ≤ sizeLine; decide, fun w0 hw0 => ?_⟩
  have s1 := Same.new hw0 (.tup [])
  have hw00 : upd H0 w0 (.tup []) w0 = some (.tup []) := upd_same
  have hF01 := s1 _ _ hF00
  generalize upd H0 w0 (.tup []) = H1 at *
  have s01 := s0.trans s1
  refine ⟨_, rfl, l, rfl, ⟨_, s01.seq hS⟩, ?_⟩
  refine for_list (xs := pv0) (fun i σ H' => Same H H' ∧ ∃ (D : List Ed) (dv : List V) (v2 v3 v4 v5 v6 : Option V), H' F0 = some (.lst dv) ∧ RelL (ChV K H') dv D ∧ D.length ≤ i ∧ ChI K ps i H' D v2 v3 ∧ σ = [some (.ref l), some (.ref F0), v2, v3, v4, v5, v6])
    ⟨s01, [], [], _, _, none, none, none, hF01, trivial, Nat.le_refl _, .inl ⟨0, [], w0, rfl, rfl, SqT.of hw00, rfl, by simpa using ht⟩, rfl⟩ (fun i σ H' _ ⟨s, _⟩ => s.seq hS) ?_ ?_
  · rintro i x σ H2 hx ⟨s2, D, dv, v2, v3, v4, v5, v6, hF, hD, hDl, hI, rfl⟩
    obtain ⟨p, hp, hPc⟩ := hP.get hx
    obtain ⟨hil, hdr⟩ := kat_drop hp
    have hdl := hD.len
    rcases hI with ⟨s, ws, wt, rfl, rfl, hwt, hC, hsz⟩ | ⟨hz, _⟩
    · rw [hdr] at hC hsz
      rw [ptot_cons] at hsz
      obtain ⟨xa, t, rfl, hxa, hta⟩ := hPc.open
      refine ⟨xa, _, rfl, Same.tup s2 hxa, rfl, _, _, rfl, _, _, rfl, _, _, rfl, rfl, ?_⟩
      refine ⟨_, rfl, _, rfl, catA_of hwt (Same.tup s2 hta) (sz (by rw [List.length_map, List.length_map]; omega)) fun H3 w3 s3 hw3 => ?_⟩
      rw [← List.map_append] at hw3
      have s23 := s2.trans s3
      have hF3 := s3 _ _ hF
      have hD3 := RelL.imp (fun _ _ z => ChV.same s3 z) hD
      cases p with
      | pt w1 =>
        refine ⟨_, rfl, _, rfl, iteFF rfl (iteFF rfl ?_)⟩
        exact ⟨s23, D, dv, _, _, _, _, _, hF3, hD3, by omega, .inl ⟨s, ws ++ w1, w3, rfl, rfl, hw3, hC, by rw [List.length_append]; have : (pWs (.pt w1)).length = w1.length := rfl; omega⟩, rfl⟩
      | kp a b =>
        have hw3' : SqT K H3 w3 (ws.map V.str) := by
          have z : ws ++ pWs (.kp a b) = ws := List.append_nil ws
          rw [z] at hw3
          exact hw3
        have hsz2 : ws.length + ptot (ps.drop (i + 1)) ≤ 500 := by have : (pWs (.kp a b)).length = 0 := rfl; omega
        refine ⟨_, rfl, _, rfl, iteTT rfl ⟨_, rfl, _, rfl, ?_⟩⟩
        have hsc : scal (.int a) (bV b) = true := by cases b <;> rfl
        refine ⟨hsc, _, rfl, ?_⟩
        by_cases cab : b = some a
        · subst cab
          refine iteFF (by show (!decide (V.int a = V.int a)) = false; rw [decide_eq_true rfl]; rfl) ?_
          rw [chg, if_pos rfl] at hC
          exact ⟨s23, D, dv, _, _, _, _, _, hF3, hD3, by omega, .inl ⟨s, ws, w3, rfl, rfl, hw3', hC, hsz2⟩, rfl⟩
        · refine iteTT (by
            show (!decide (V.int a = bV b)) = true
            rw [decide_eq_false]
            · rfl
            · intro z
              cases b with
              | none => cases z
              | some b =>
                have : (a : Int) = (b : Int) := V.int.inj z
                exact cab (by rw [show b = a from by omega])) ?_
          -- the way on: with changes D'
          have next : ∀ {D' : List Ed} {dv' : List V} {H4 : Hp} {v4' v5' v6' : Option V}, Same H3 H4 ∨ Same H H4 → Same H H4 → H4 F0 = some (.lst dv') → RelL (ChV K H4) dv' D' → D'.length ≤ i + 1 →
              (chg 0 [] ps = D' ++ chgN b (ps.drop (i + 1))) →
              ∀ w5, H4 w5 = none → Same H (upd H4 w5 (.tup [])) ∧ ∃ (D : List Ed) (dv : List V) (v2 v3 v4 v5 v6 : Option V), upd H4 w5 (.tup []) F0 = some (.lst dv) ∧ RelL (ChV K (upd H4 w5 (.tup []))) dv D ∧ D.length ≤ i + 1 ∧ ChI K ps (i + 1) (upd H4 w5 (.tup [])) D v2 v3 ∧
                [some (V.ref l), some (.ref F0), some (bV b), some (.ref w5), v4', v5', v6'] = [some (.ref l), some (.ref F0), v2, v3, v4, v5, v6] := fun {D' dv' H4 v4' v5' v6'} _ s4 hF4 hD4 hl4 hC4 w5 hw5 => by
            have s5 := Same.new hw5 (.tup [])
            refine ⟨s4.trans s5, D', dv', _, _, _, _, _, s5 _ _ hF4, RelL.imp (fun _ _ z => ChV.same s5 z) hD4, hl4, ?_, rfl⟩
            cases b with
            | none => exact .inr ⟨last_end hW hp, by rw [hC4]; exact (List.append_nil _).symm⟩
            | some b => exact .inl ⟨b, [], w5, rfl, rfl, SqT.of upd_same, hC4, by simp only [List.length_nil]; omega⟩
          refine seqIf ?_
          refine or_one (c := s < a) (d := ws ≠ []) (fun Q' q' => ⟨_, rfl, _, rfl, _, _, rfl, rfl, _, rfl, ?_⟩) (fun _ Q' q' => ⟨_, rfl, _, .inr (.inl ⟨_, hw3', rfl⟩), ?_⟩) ?_
          · rw [show decide ((s : Int) < (a : Int)) = decide (s < a) from decide_eq_decide.mpr (by omega)]
            exact q'
          · rw [show (!(ws.map V.str).isEmpty) = decide (ws ≠ []) from by cases ws <;> rfl]
            exact q'
          have hCC : chg s ws (.kp a b :: ps.drop (i + 1)) = (if s < a ∨ ws ≠ [] then [⟨s, a, ws⟩] else []) ++ chgN b (ps.drop (i + 1)) := by
            cases b with
            | none =>
              rw [chg]
              exact (List.append_nil _).symm
            | some b =>
              have c3 : ¬ a = b := fun z => cab (by rw [z])
              rw [chg, if_neg c3]
              by_cases c : s < a ∨ ws ≠ []
              · rw [if_pos c, if_pos c]; rfl
              · rw [if_neg c, if_neg c]; rfl
          by_cases c : s < a ∨ ws ≠ []
          · refine iteTT (decide_eq_true c) ?_
            rw [hCC, if_pos c, ← List.append_assoc] at hC
            refine ⟨_, rfl, .inl ⟨rfl, _, .inl (.inl hF3)⟩, _, rfl, _, rfl, _, rfl, by show 3 ≤ sizeLine; decide, fun T hT => ?_⟩
            have s4 := Same.new hT (.tup [.int s, pV0 (.kp a b), .ref w3])
            have c4 : upd H3 T (.tup [.int s, pV0 (.kp a b), .ref w3]) T = some (.tup [.int s, pV0 (.kp a b), .ref w3]) := upd_same
            have hF4 := s4 _ _ hF3
            have hw4 := Same.tup s4 hw3'
            have hD4 := RelL.imp (fun _ _ z => ChV.same s4 z) hD3
            generalize upd H3 T (.tup [.int s, pV0 (.kp a b), .ref w3]) = H4 at *
            have A4 : ChV K H4 (.ref T) ⟨s, a, ws⟩ := ⟨T, w3, rfl, SqT.of c4, hw4⟩
            refine ⟨F0, dv, .ref T, rfl, rfl, hF4, Nat.lt_of_lt_of_le (by omega : dv.length < 1000) (sz (Nat.le_refl _)), ?_⟩
            refine ⟨_, rfl, by show 0 ≤ sizeLine; decide, ?_⟩
            exact next (.inr (same_put hF0 (s23.trans s4))) (same_put hF0 (s23.trans s4)) upd_same (RelL.app (RelL.imp (fun _ _ z => ChV.put hF4 z) hD4) (RelL.one (A4.put hF4))) (by rw [List.length_append, List.length_singleton]; omega) hC
          · refine iteFF (decide_eq_false c) ?_
            rw [hCC, if_neg c, List.nil_append] at hC
            refine ⟨_, rfl, by show 0 ≤ sizeLine; decide, ?_⟩
            exact next (.inr s23) s23 hF3 hD3 (by omega) hC
    · rw [hdr] at hz
      cases hz
  · rintro σ H2 ⟨s2, D, dv, v2, v3, v4, v5, v6, hF, hD, hDl, hI, rfl⟩
    have hDC : D = chg 0 [] ps := by
      rcases hI with ⟨s, ws, wt, rfl, rfl, hwt, hC, hsz⟩ | ⟨_, h⟩
      · rw [List.drop_of_length_le (by omega), chg, List.append_nil] at hC
        exact hC.symm
      · exact h
    subst hDC
    refine ⟨_, rfl, F0, dv, rfl, .inl ⟨SqL.of hF, fun t ht => ?_⟩⟩
    have s3 := Same.new ht (.tup dv)
    exact q _ t dv (s2.trans s3) (SqT.of upd_same) (chs_rel.mpr (RelL.imp (fun _ _ z => ChV.same s3 z) hD))
end
end P5

end
section
set_option Elab.async false
set_option linter.all false
set_option maxRecDepth 100000
set_option maxHeartbeats 4000000
/-! t[::-1] of a tuple -/
namespace P5
open PySem PySem.Spec PyProof.Rows L2 HT
section
variable {prog : Program} {w : World} {A : Around} {E : Value → Shared → Prop} {s : Shared}
theorem pick_rev (xs : Array Value) : ((List.range xs.size).filterMap fun (k : Nat) => xs[(((xs.size : Int) - 1) + (k : Int) * (-1)).toNat]?).toArray = xs.toList.reverse.toArray := by
  have e : (fun (k : Nat) => xs[(((xs.size : Int) - 1) + (k : Int) * (-1)).toNat]?) = (fun m => xs[m]?) ∘ fun k => xs.size - 1 - k := by
    funext k
    show xs[(((xs.size : Int) - 1) + (k : Int) * (-1)).toNat]? = xs[xs.size - 1 - k]?
    rw [show (((xs.size : Int) - 1) + (k : Int) * (-1)).toNat = xs.size - 1 - k from by omega]
  rw [e, ← List.filterMap_map, PySem.W.krv_range, List.filterMap_reverse, PySem.W.krv_all]
theorem sliceApplied_rev {sl : Addr} {vs : Value} {n : Nat} {Q : Int × Int × Nat → Shared → Prop} (hs : s.heap.IsSliceOf sl .none .none vs) (ps : IsPart vs (some (-1)))
    (h : Q ((n : Int) - 1, -1, n) s) : wpAny (model prog w) A (Builtin.Slice.sliceApplied (.ref sl) (pure (n : Int))) Q E s := by
  obtain ⟨os, hos, hcs, hds⟩ := id hs
  unfold Builtin.Slice.sliceApplied Builtin.Slice.sliceFields
  refine wpAny_bind (wpAny_bind (wpAny_field hos hds (x := .none) rfl (wpAny_bind (wpAny_field hos hds (x := .none) rfl (wpAny_bind (wpAny_field hos hds (x := vs) rfl (wpAny_pure ?_)))))))
  refine wpAny_bind (slicePart_ ps ?_)
  show wpAny _ _ (if ((-1 : Int) == 0) = true then _ else _) _ _ s
  rw [if_neg (by decide)]
  refine wpAny_bind (slicePart_none (wpAny_bind (slicePart_none (wpAny_bind (wpAny_pure ?_)))))
  show wpAny _ _ (match Builtin.Slice.sliceAdjust none none (-1) (n : Int) with | (lo, hi) => pure (lo, (-1 : Int), Builtin.Slice.slicePlaces lo hi (-1))) _ _ s
  have e : Builtin.Slice.sliceAdjust none none (-1) (n : Int) = ((n : Int) - 1, -1) := rfl
  rw [e]
  show wpAny _ _ (pure ((n : Int) - 1, (-1 : Int), Builtin.Slice.slicePlaces ((n : Int) - 1) (-1) (-1))) _ _ s
  have e2 : Builtin.Slice.slicePlaces ((n : Int) - 1) (-1) (-1) = n := by
    unfold Builtin.Slice.slicePlaces
    have h1 : ¬ ((-1 : Int) > 0) := by omega
    simp only [h1, if_false]
    split
    · show (((n : Int) - 1 - -1 - 1) / 1 + 1).toNat = n
      rw [Int.ediv_one]
      omega
    · omega
  rw [e2]
  exact wpAny_pure h
theorem getItem_tuple_rev {t sl : Addr} {items : Array Value} {vs : Value} {Q : Value → Shared → Prop} (ht : IsTup s.heap t items) (hs : s.heap.IsSliceOf sl .none .none vs) (ps : IsPart vs (some (-1)))
    (h : Q (.ref s.heap.objs.size) { s with heap := s.heap.push { cls := .type "tuple", data := .seq items.toList.reverse.toArray } })
    (hsz : items.size ≤ sizeLine) : wpAny (model prog w) A (getItem (.ref t) (.ref sl)) Q E s := by
  have htake : sizeOk (.seq items.toList.reverse.toArray) := by
    show items.toList.reverse.toArray.size ≤ sizeLine
    simpa using hsz
  obtain ⟨os, hos, hcs, hds⟩ := id hs
  have hTs : s.TypeIs (.ref sl) "slice" := ⟨os, hos, hcs⟩
  unfold getItem
  try with_reducible refine wpAny_holding ?_
  first | refine wpAny_bind (wpAny_pure ?_) | skip
  refine wpAny_bind (wpAny_sequenceKey ht.typeIs (by decide) ?_)
  refine wpAny_bind (wpAny_callSpecial?_slot (name := Str.ofString "__getitem__") ht.typeIs PyProof.Rows.slot_tuple_getitem
    (wpAny_call_entry PyProof.Rows.slot_tuple_getitem ht.typeIs entry_tuple_getitem ?_ (args_tuple_getitem _ _)))
  show wpAny _ _ (Builtin.Tuple.tupleItemsOf (.ref t) >>= _) _ _ s
  refine wpAny_bind (tupleItemsOf_ ht ?_)
  refine wpAny_bind (wpAny_typeOf hTs ?_)
  rw [if_pos (by decide)]
  refine wpAny_bind (sliceApplied_rev hs ps ?_)
  have hno : ¬ ((((items.size : Int) - 1) == 0 && (-1 : Int) == 1 && items.size == items.size) = true) := by
    intro q
    rw [Bool.and_eq_true, Bool.and_eq_true] at q
    exact absurd q.1.2 (by decide)
  show wpAny _ _ (if (((items.size : Int) - 1) == 0 && (-1 : Int) == 1 && items.size == items.size) = true then _ else _) _ _ s
  rw [if_neg hno, pick_rev]
  first
    | exact wpAny_bind (m := Builtin.Tuple.tupleExact _) (wpAny_newObj_type (wpAny_pure ⟨_, rfl, wpAny_pure h⟩) htake)
    | exact wpAny_bind (m := Builtin.Tuple.tupleExact _) (wpAny_newObj_type (wpAny_bind (wpAny_pure (wpAny_pure ⟨_, rfl, wpAny_pure h⟩))) htake)
    | exact wpAny_bind (wpAny_bind (m := Builtin.Tuple.tupleExact _) (wpAny_newObj_type (wpAny_pure (wpAny_pure ⟨_, rfl, wpAny_pure h⟩)) htake))
    | exact wpAny_bind (wpAny_bind (m := Builtin.Tuple.tupleExact _) (wpAny_newObj_type (wpAny_pure ⟨_, rfl, wpAny_pure h⟩) htake))
end
section
variable {X : Cx}
def tRevT (K : PySem.W.Frag) (te : TE) : TE := fun σ H Q => te σ H fun x H1 => ∃ a xs, x = .ref a ∧ SqT K H1 a xs ∧ ∀ p, H1 p = none → Q (.ref p) (upd H1 p (.tup xs.reverse))
theorem pe_revT {e : Expr} {te : TE} {k : Nat} {p1 p2 p3 pos : Pos} (he : PE X e te) : PE X (.Subscript e (.Slice none none (some (.UnaryOp .USub (.Constant (.int 1) k p1) p2)) p3) pos) (tRevT X.K te) := by
  refine ⟨fun pins s σ H Q I h => ?_⟩
  refine Subscript_ (thn (he.run pins s σ H _ I h) fun v s1 ⟨x, H1, I1, r1, q1⟩ => ?_)
  obtain ⟨a, xs, ex, hx, q⟩ := q1
  subst ex
  cases r1
  have hst : PO X (some (.UnaryOp .USub (.Constant (.int 1) k p1) p2)) (tPart (tUn (rU fun i => .int (-i)) (tC (.int 1)))) := po_some (pe_un un_neg pe_int)
  refine wpAny_Slice (thn (po_none.run pins s1 σ H1 (fun o H2 => o = none ∧ H2 = H1) I1 ⟨rfl, rfl⟩) fun vl s2 ⟨l, H2, I2, pl, el, e2⟩ => ?_)
  subst el e2
  refine thn (po_none.run pins s2 σ H2 (fun o H3 => o = none ∧ H3 = H2) I2 ⟨rfl, rfl⟩) fun vu s3 ⟨u, H3, I3, pu, eu, e3⟩ => ?_
  subst eu e3
  refine thn (hst.run pins s3 σ H3 (fun o H4 => o = some (-1) ∧ H4 = H3) I3 ⟨1, rfl, -1, rfl, rfl, rfl⟩) fun vs s4 ⟨o, H4, I4, ps, eo, e4⟩ => ?_
  subst eo e4
  cases pl
  cases pu
  have I5 : Inv X pins σ H4 { s4 with heap := s4.heap.push { cls := .type "slice", data := .fields #[.none, .none, vs] } } := I4.kept (t' := s4.toks) fun b ob q => Heap.get?_push_of_some _ q
  obtain ⟨its, r, ht, hz⟩ := I5.tuple hx
  have hlen := r.length
  show wpAny (model X.prog X.w) X.A (subscriptTail e (.Slice none none (some (.UnaryOp .USub (.Constant (.int 1) k p1) p2)) p3) (.ref a) (.ref s4.heap.objs.size)) (EP X pins σ Q) X.xe { s4 with heap := s4.heap.push { cls := .type "slice", data := .fields #[.none, .none, vs] } }
  refine tail_any (ops := [.ref a, .ref s4.heap.objs.size]) ht.typeIs (PyProof.Rows.slot_tuple_getitem.lookup) ?_ (by with_unfolding_all rfl)
  refine getItem_tuple_rev ht (Heap.IsSliceOf.new _ .none .none vs) ps ?_ (by rw [List.size_toArray]; omega)
  refine ⟨.ref _, _, I5.laid (t' := s4.toks) (o := .tup xs.reverse) (fun b ob q => Heap.get?_push_of_some _ q) (Nat.le_refl _) ?_, rfl, q _ (I5.hok.fresh (Nat.le_refl _))⟩
  exact ⟨by rw [List.length_reverse]; exact hz, _, r.reverse, IsTup.new _ _⟩
end
end P5

end
section
set_option Elab.async false
set_option linter.all false
set_option maxRecDepth 100000
set_option maxHeartbeats 4000000
/-! list(x), x of a class whose __iter__ gives iter(a tuple) and that has an own __len__ -/
namespace P5
open PySem PySem.Spec PyProof.Rows L2
/-- at j an iterator of the tuple at t, i taken -/
def ItT (t j : Addr) (i : Nat) : HO := .ext fun h => h.IsTupleIter j t i
/-- at j an object -/
def ItS (j : Addr) : HO := .ext fun h => ∃ o, h.get? j = some o
section
variable {P : Program} {w : World} {prog : Program} {A : Around} {E : Value → Shared → Prop} {s : Shared} {H : Hp} {h : Heap} {t j : Addr} {i : Nat}
theorem itT_ok (e : h.IsTupleIter j t i) : ObjOk P w H h j (ItT t j i) := ⟨e, let ⟨o, q, _⟩ := e; ⟨o, q⟩, fun h1 h2 q k => q.at fun o z => k o z⟩
theorem itS_ok (e : ∃ o, h.get? j = some o) : ObjOk P w H h j (ItS j) := ⟨e, e, fun h1 h2 q k => let ⟨o, z⟩ := q; ⟨o, k o z⟩⟩
theorem call_iter_tup {ys : Array Value} {Q : Value → Shared → Prop} (ht : s.heap.IsTuple t ys) (q : Q (.ref s.heap.objs.size) { s with heap := s.heap.push { cls := .type "tuple_iterator", data := .fields #[.ref t, .int 0 0] } }) :
    wpAny (model prog w) A (call (.builtin "iter") [.ref t]) Q E s := by
  refine Calls.call_function_entry (by decide +kernel) (by decide +kernel) PySem.W.kdk_entry_iter (PySem.W.kdk_args_iter _) ?_
  unfold Builtin.«iter»
  refine wpAny_bind (m := someArgs "iter" 1 2 _) (wpAny_of_eq (a := [Value.ref t]) (by first | rfl | kernel_rfl!) ?_)
  show wpAny _ _ (pyIter (.ref t) >>= _) _ _ _
  exact wpAny_bind (wpAny_pyIter_tuple ht (wpAny_pure ⟨_, rfl, q⟩))
theorem tup_last {ys : Array Value} {Q : Option Value → Shared → Prop} (hh : A.handled = none) (hj : s.heap.IsTupleIter j t i) (ht : s.heap.IsTuple t ys) (hx : ys[i]? = none)
    (q : ∀ h2, Heap.ExtBut j s.heap h2 → (∃ o, h2.get? j = some o) → Q none { s with heap := h2 }) : wpAny (model prog w) A (pyNext (.ref j)) Q E s := by
  obtain ⟨ob, hb, hc, hd⟩ := id hj
  obtain ⟨ot, gt, _, nt, hdt⟩ := ht
  unfold pyNext
  refine wpAny_bind (wpAny_attempt (wpAny_callSpecial?_slot (name := Str.ofString "__next__") hj.typeIs F.slot_tuple_iterator_next (wpAny_call_entry F.slot_tuple_iterator_next hj.typeIs F.entry_tuple_iterator_next ?_ (F.args_tuple_iterator_next_1 _))))
  show wpAny _ _ (field (.ref j) 0 >>= _) _ _ s
  refine wpAny_bind (wpAny_field hb hd (x := .ref t) rfl ?_)
  show wpAny _ _ (if (Value.ref t == Value.none) = true then _ else _) _ _ s
  rw [if_neg (show ¬ (Value.ref t == Value.none) = true by exact Bool.false_ne_true)]
  show wpAny _ _ (field (.ref j) 1 >>= _) _ _ s
  refine wpAny_bind (wpAny_field hb hd (x := .int i 0) rfl ?_)
  show wpAny _ _ (seqItems? (.ref t) >>= _) _ _ s
  refine wpAny_bind (wpAny_seqItems gt hdt ?_); simp only [Int.toNat_natCast, hx]
  refine wpAny_bind (wpAny_rule (wpAny_bind (wpAny_setField hb hd (by simp) ?_))); show wpAny _ _ (newExc (.type "StopIteration") [] >>= _) _ _ _
  have g2 : ∃ o, (s.heap.update j (Obj.mapFields (·.setIfInBounds 0 .none))).get? j = some o := ⟨_, Heap.get?_update_self _ hb (Obj.isFreed_of_fields (Obj.data_mapFields hd _))⟩
  have eb : Heap.ExtBut j s.heap (s.heap.update j (Obj.mapFields (·.setIfInBounds 0 .none))) := (Heap.SameBut.update ..).extBut
  generalize s.heap.update j (Obj.mapFields (·.setIfInBounds 0 .none)) = h9 at *
  refine wpAny_bind ?_; simp only [newExc, newTuple]
  refine wpAny_bind (wpAny_newObj_type ?_ (by size_fits)); refine wpAny_bind (m := firstArgMember _ _) (wpAny_of_eq (a := Value.none) (by first | rfl | (simp only [firstArgMember]; rfl)) ?_)
  refine wpAny_newObj_type ?_ (by size_fits); simp only [raiseNew]
  refine wpAny_bind (wpAny_handled ?_); rw [show A.in1.handled = none from hh]
  refine wpAny_bind (wpAny_pure (wpAny_throw ?_)); refine wpAny_bind (wpAny_isInstance (T := "StopIteration") (b := true) ⟨_, Heap.get?_push_size _ rfl, rfl⟩ isSubtype_stop ?_)
  obtain ⟨o9, g9⟩ := g2
  exact wpAny_pure (q _ ((eb.push _).push _) ⟨o9, Heap.get?_push_of_some _ (Heap.get?_push_of_some _ g9)⟩)
end
section
variable {X : Cx} {pins : List (Addr × Obj)} {σ : L2.St}
/-- the list at q takes what the iterator at j gives -/
theorem tup_loop {A1 : Around} {q j t : Addr} {xs : List V} {Rs : Result → Shared → Prop} {H0 : Hp} (hh : A1.handled = none) (hjq : j ≠ q) (hz : xs.length ≤ 1000) (hT : SqT X.K H0 t xs) (nq : H0 q = none) (nj : H0 j = none)
    (done : ∀ H s, Inv X pins σ H s → (∀ b, b ≠ j → b ≠ q → H b = H0 b) → H q = some (.lst xs) → Rs (.ok (.ret .none)) s) :
    ∀ (k i : Nat) (H : Hp) (s : Shared), k + i = xs.length → Inv X pins σ H s → (∀ b, b ≠ j → b ≠ q → H b = H0 b) → H q = some (.lst (xs.take i)) → H j = some (ItT t j i) → codeAny (model X.prog X.w) A1 (.builtin "list.extend.loop" ⟨[.ref q, .ref j, .none], []⟩) Rs s := by
  intro k
  induction k with
  | zero =>
    intro i H s hk I hs hq hj
    refine codeAny_builtin PySem.F.entry_extend_loop ?_
    rw [Around.under_plainId PySem.F.plain_extend_loop _]
    show wpAny _ A1.in1 (pyNext (.ref j) >>= _) _ _ s
    have s0 : Same H0 H := fun b o e => by rw [hs b (fun z => by rw [z, nj] at e; cases e) (fun z => by rw [z, nq] at e; cases e)]; exact e
    obtain ⟨its, rv, p, _⟩ := I.tuple (Same.tup s0 hT)
    have hl := rv.length
    refine wpAny_bind (tup_last hh (I.hok j _ hj).1 (show s.heap.IsTuple t its.toArray from p) (by simp; omega) fun h2 eb ex => wpAny_pure ?_)
    have I2 := I.write (x := j) (e := j) (o := ItS j) (t' := s.toks) (by rw [hj]; trivial) (.inl rfl) (fun b o nb e => eb b o nb e) ex (itS_ok ex)
    refine done _ _ I2 (fun b h1 h2 => by rw [upd_ne h1]; exact hs b h1 h2) ?_
    rw [upd_ne hjq.symm, hq, List.take_of_length_le (by omega)]
  | succ k ih =>
    intro i H s hk I hs hq hj
    refine codeAny_builtin PySem.F.entry_extend_loop ?_
    rw [Around.under_plainId PySem.F.plain_extend_loop _]
    show wpAny _ A1.in1 (pyNext (.ref j) >>= _) _ _ s
    have s0 : Same H0 H := fun b o e => by rw [hs b (fun z => by rw [z, nj] at e; cases e) (fun z => by rw [z, nq] at e; cases e)]; exact e
    obtain ⟨its, rv, p, _⟩ := I.tuple (Same.tup s0 hT)
    have hl := rv.length
    have hx : xs[i]? = some (xs[i]'(by omega)) := List.getElem?_eq_getElem (by omega)
    obtain ⟨u, hu, ru⟩ := rv.get hx
    refine wpAny_bind (wpAny_pyNext_tuple_item (I.hok j _ hj).1 (show s.heap.IsTuple t its.toArray from p) (x := u) (by simpa using hu) fun h2 t2 sb => ?_)
    obtain ⟨o2, g2, _⟩ := id t2
    have I2 := I.write (x := j) (e := j) (o := ItT t j (i + 1)) (t' := s.toks) (by rw [hj]; trivial) (.inl rfl) (fun b o nb e => (sb.2 b nb).trans e) ⟨o2, g2⟩ (itT_ok t2)
    have hq2 : upd H j (ItT t j (i + 1)) q = some (.lst (xs.take i)) := by rw [upd_ne hjq.symm]; exact hq
    show wpAny _ A1.in1 (updateSeq q (·.push u) >>= _) _ _ _
    obtain ⟨z, is, c, r2, hl2, e⟩ := I2.lstM hq2
    have hl3 := r2.length
    rw [List.length_take] at hl3
    refine wpAny_bind (wpAny_updateSeq e rfl (wpAny_pure ⟨plainId_quiet PySem.F.plain_extend_loop _, ?_⟩) (by rw [List.size_toArray, sizeLine_eq]; omega) (by show (is.toArray.push u).size ≤ sizeLine + 1; rw [Array.size_push, List.size_toArray, sizeLine_eq]; omega))
    have I3 := I2.lset (f := (·.push u)) (its' := is ++ [u]) (ys := xs.take i ++ [xs[i]'(by omega)]) (t' := s.toks) hq2 e (by simp) (r2.append (.cons ru .nil)) (by rw [List.length_append, List.length_take, List.length_singleton, sizeLine_eq]; omega)
    refine ih (i + 1) _ _ (by omega) I3 (fun b h1 h2 => by rw [upd_ne h2, upd_ne h1]; exact hs b h1 h2) ?_ ?_
    · rw [upd_same, take_more hx]
    · rw [upd_ne hjq, upd_same]
end
end P5

end
section
set_option Elab.async false
set_option linter.all false
set_option maxRecDepth 100000
set_option maxHeartbeats 4000000
namespace P5
open PySem PySem.Spec PyProof.Rows L2
/-- __iter__ of a patch -/
def spPIter (K : PySem.W.Frag) (CP : Addr) : Sp := fun vs H Q _ => ∃ (p dx t : Addr) (cs : List V) (m : Nat), vs = [.ref p] ∧ H p = some (.ins CP dx (PtFs t m)) ∧ SqT K H t cs ∧ ∀ j, H j = none → Q (.ref j) (upd H j (ItT t j 0))
section
variable {X : Cx} {pins : List (Addr × Obj)} {σ : L2.St} {H : Hp} {s : Shared} {CP fi fl : Addr} {fdi fdl : FuncData} {k : Nat}
/-- the hint of a patch's length -/
theorem hint_pt {A : Around} {E : Value → Shared → Prop} {Q : Bool → Shared → Prop} {p : Addr} {C : List Ed} {m : Nat} (hln : PySem.W.findIn X.K (.ref CP) "__len__" = some (some (.ref fl))) (hlf : PySem.W.isFn X.K (.ref fl) = true) (FL : FnOk X.prog X.w X.K X.mg X.base CX0 k fl fdl ["self"] (spPLen X.K CP)) (bL : L2.Binds X.K fdl ["self"] [])
    (hr : Room k A.in1) (e0 : Env0 X.prog X.w X.K X.mg X.base A.in1 X.stack s H) (I : Inv X pins σ H s) (q1 : PtH X.K CP H p C m) (q : ∀ b s', Inv X pins σ H s' → Q b s') : wpAny (model X.prog X.w) A (Builtin.List.listLengthHint (.ref p)) Q E s := by
  obtain ⟨ox, od, J⟩ := insI_at I q1.ins
  obtain ⟨mm, hF⟩ := I.fr
  obtain ⟨dx, t, vs, hp, hT, hV, hO⟩ := id q1
  have hfew := hO.few
  unfold Builtin.List.listLengthHint
  refine wpAny_bind (wpAny_bind (J.type.here ((PySem.W.looks_findIn I.kIn hln).here ?_)))
  refine PySem.W.KFB.if_not rfl ?_
  refine PySem.W.KFB.if_so rfl ?_
  refine wpAny_bind (wpAny_rule ?_)
  refine wpAny_bind (wpAny_attempt (PySem.W.len_K hF I.ok.mod.kin J hln hlf ?_))
  refine wpAny_mono (call_own (us := [.ref p]) (vs := [.ref p]) (Q := fun v H' => v = .int C.length ∧ H' = H) FL hr bL I e0 (.cons rfl .nil) ⟨p, C, m, rfl, q1, rfl, rfl⟩) (fun z s' hz => ?_) fun _ _ e => e
  obtain ⟨v', H', I', rz, rfl, rfl⟩ := hz
  obtain ⟨t', rfl⟩ : ∃ t', z = Value.int C.length t' := rz
  refine ⟨⟨by omega, by omega⟩, ?_⟩
  have I2 : Inv X pins σ H' { s' with toks := s'.toks + 1 } := I'.tok _
  refine wpAny_bind (wpAny_of_eq (a := some (C.length : Int)) rfl ?_)
  refine PySem.W.KFB.if_not ?_ (wpAny_pure (q _ _ I2))
  show decide (((C.length : Int).toNat) > sizeLine) = false
  rw [sizeLine_eq]
  exact decide_eq_false (by omega)
/-- list(a patch) -/
theorem call_listP (hc : X.calm = true) (hit : PySem.W.findIn X.K (.ref CP) "__iter__" = some (some (.ref fi))) (hif : PySem.W.isFn X.K (.ref fi) = true) (FI : FnOk X.prog X.w X.K X.mg X.base CX0 k fi fdi ["self"] (spPIter X.K CP)) (bI : L2.Binds X.K fdi ["self"] [])
    (hln : PySem.W.findIn X.K (.ref CP) "__len__" = some (some (.ref fl))) (hlf : PySem.W.isFn X.K (.ref fl) = true) (FL : FnOk X.prog X.w X.K X.mg X.base CX0 k fl fdl ["self"] (spPLen X.K CP)) (bL : L2.Binds X.K fdl ["self"] [])
    (hr : Room (k + 3) X.A) : CallR X (.type "list") (rListP X.K CP) := by
  intro pins s σ H xs us Q I rv h
  obtain ⟨p, dx, t, vs, C, m, rfl, hp, hT, hV, hO, q⟩ := h
  obtain ⟨u, rfl, ru⟩ := rv.one
  cases ru
  have hfew := hO.few
  have hvl := hV.len
  refine callType_codes (Q₁ := fun y s1 => y = .ref s.heap.objs.size ∧ s1 = { s with heap := s.heap.push { cls := .type "list", data := .seq #[] } }) PySem.F.called_list (PySem.F.typeCall_list_1 _) PySem.F.entry_list_init (code_list_new _ ⟨rfl, rfl⟩) fun y s1 h1 => ?_
  obtain ⟨rfl, rfl⟩ := h1
  obtain ⟨S, eS⟩ : ∃ S, S = s.heap.objs.size := ⟨_, rfl⟩
  rw [← eS]
  have gS : (s.heap.push { cls := .type "list", data := .seq #[] }).get? S = some { cls := .type "list", data := .seq #[] } := by rw [eS]; exact Heap.get?_push_size _ rfl
  have nS : H S = none := by rw [eS]; exact I.hok.fresh (Nat.le_refl _)
  refine ⟨⟨_, gS, rfl⟩, PySem.F.args_list_init_2 _ _, ?_⟩
  have I1 : Inv X pins σ (upd H S (.lst [])) { s with heap := s.heap.push { cls := .type "list", data := .seq #[] } } := by rw [eS]; exact I.lnew (its := []) (t' := s.toks) .nil (Nat.zero_le _)
  show wpAny _ _ (do let old ← Builtin.List.listItems (.ref S); Builtin.List.listUpdate (.ref S) (fun _ => #[]); letGo old.toList.reverse; Builtin.List.listExtendWith (.ref S) (.ref p) .none) _ _ _
  refine wpAny_bind ?_
  unfold Builtin.List.listItems
  refine wpAny_bind (wpAny_seqItems gS rfl (wpAny_pure ?_)); show wpAny _ _ (updateSeq S (fun _ => #[]) >>= fun _ => letGo (#[] : Array Value).toList.reverse >>= fun _ => Builtin.List.listExtendWith (.ref S) (.ref p) .none) _ _ _
  refine wpAny_bind (wpAny_updateSeq gS rfl ?_)
  have I2 := I1.lset (f := fun _ => #[]) (its := []) (its' := []) (ys := []) (t' := s.toks) upd_same gS rfl .nil (Nat.zero_le _)
  rw [upd_upd] at I2
  refine wpAny_bind (wpAny_letGo ?_)
  have hp2 : upd H S (.lst []) p = some (.ins CP dx (PtFs t m)) := by rw [upd_ne (ne_of_none hp nS)]; exact hp
  have sS : Same H (upd H S (.lst [])) := Same.new nS _
  obtain ⟨ox, od, J⟩ := insI_at I2 ⟨dx, _, hp2⟩
  obtain ⟨mm, hF⟩ := I2.fr
  have hne : S ≠ p := (ne_of_none hp nS).symm
  unfold Builtin.List.listExtendWith
  refine wpAny_bind (J.type.here ?_)
  have b1 : Builtin.List.listSameRef (.ref S) (.ref p) = false := by simp [Builtin.List.listSameRef, hne]
  have b2 : (Value.ref CP == Value.type "list") = false := rfl
  have b3 : (Value.ref CP == Value.type "tuple") = false := rfl
  simp only [b1, b2, b3, Bool.or_false, Bool.false_eq_true, if_false]
  refine wpAny_bind (PySem.W.owit_iter hF I2.ok.mod.kin J hit hif ?_)
  refine wpAny_mono (call_own (us := [.ref p]) (vs := [.ref p]) (Q := fun v H' => ∃ j, v = .ref j ∧ upd H S (.lst []) j = none ∧ H' = upd (upd H S (.lst [])) j (ItT t j 0)) FI (hr.mono (by omega : k + 2 ≤ k + 3)).in1.in1 bI I2 I2.env0.in1.in1 (.cons rfl .nil) ⟨p, dx, t, vs, m, rfl, hp2, Same.tup sS hT, fun j hj => ⟨j, rfl, hj, rfl⟩⟩) (fun z s4 hz => ?_) fun _ _ e => e
  obtain ⟨v', H4, I4, rz, j, rfl, nj, rfl⟩ := hz
  obtain rfl : z = Value.ref j := rz
  have njS : j ≠ S := fun e => by rw [e, upd_same] at nj; cases nj
  have njH : H j = none := by rw [upd_ne njS] at nj; exact nj
  have tj : s4.heap.IsTupleIter j t 0 := (I4.hok j _ upd_same).1
  unfold PySem.W.OwitIt
  refine wpAny_specialOf (name := Str.ofString "__next__") tj.typeIs PySem.F.slot_tuple_iterator_next.lookup ?_
  refine wpAny_bind (wpAny_holding ?_)
  have S4 : Same (upd H S (.lst [])) (upd (upd H S (.lst [])) j (ItT t j 0)) := Same.new nj _
  have q4 : PtH X.K CP (upd (upd H S (.lst [])) j (ItT t j 0)) p C m := (show PtH X.K CP H p C m from ⟨dx, t, vs, hp, hT, hV, hO⟩).same (sS.trans S4)
  refine hint_pt hln hlf FL bL (hr.mono (Nat.le_refl _)).in1.in1.in1 I4.env0.in1.in1.in1 I4 q4 fun b s5 I5 => ?_
  have fin : ∀ H6 s6, Inv X pins σ H6 s6 → (∀ b, b ≠ j → b ≠ S → H6 b = H b) → H6 S = some (.lst vs) → wants (fun r s2 => r = Value.none ∧ EP X pins σ Q (Value.ref S) s2) X.xe (.ok (.ret .none)) s6 := fun H6 s6 I6 h6 g6 =>
    ⟨rfl, .ref S, H6, I6, rfl, q H6 S (fun c o e => by rw [h6 c (fun z => by rw [z, njH] at e; cases e) (fun z => by rw [z, nS] at e; cases e)]; exact e) nS g6⟩
  have loop : ∀ H6 s6, Inv X pins σ H6 s6 → (∀ b, b ≠ j → b ≠ S → H6 b = H b) → H6 S = some (.lst []) → H6 j = some (ItT t j 0) → codeAny (model X.prog X.w) X.A.in1 (.builtin "list.extend.loop" ⟨[.ref S, .ref j, .none], []⟩) (wants (fun r s2 => r = Value.none ∧ EP X pins σ Q (Value.ref S) s2) X.xe) s6 := fun H6 s6 I6 h6 g6 k6 =>
    tup_loop (A1 := X.A.in1) (I.ok.hd hc) njS (by omega) hT nS njH fin vs.length 0 H6 s6 rfl I6 h6 g6 k6
  have base : ∀ c, c ≠ j → c ≠ S → upd (upd H S (.lst [])) j (ItT t j 0) c = H c := fun c n1 n2 => by rw [upd_ne n1, upd_ne n2]
  have g4 : upd (upd H S (.lst [])) j (ItT t j 0) S = some (.lst []) := by rw [upd_ne njS.symm, upd_same]
  refine wpAny_ite_split (fun _ => ?_) (fun _ => wpAny_pure ⟨plainId_quiet PySem.F.plain_extend_loop _, loop _ _ I5 base g4 upd_same⟩)
  obtain ⟨z0, it0, k0, r0, l0, e0⟩ := I5.lstM g4
  cases r0
  refine wpAny_bind (wpAny_rule (wpAny_bind ?_))
  show wpAny _ _ (updateSeq S (·.push .none) >>= fun _ => updateSeq S (·.pop)) _ _ _
  refine wpAny_bind (wpAny_updateSeq e0 rfl ?_)
  have I6 := I5.lset (f := (·.push Value.none)) (its' := [Value.none]) (ys := [.non]) (t' := s5.toks) g4 e0 (by simp) (.cons rfl .nil) (by rw [List.length_singleton, sizeLine_eq]; decide)
  obtain ⟨z1, it1, k1, r1, l1, e1⟩ := I6.lstM upd_same
  obtain ⟨u1, rfl, ru1⟩ := r1.one
  refine wpAny_updateSeq e1 rfl ?_ (by show 1 ≤ sizeLine; rw [sizeLine_eq]; decide) (by show 0 ≤ sizeLine + 1; exact Nat.zero_le _)
  have I7 := I6.lset (f := (·.pop)) (its := [u1]) (its' := []) (ys := []) (t' := s5.toks) upd_same e1 (by rfl) .nil (Nat.zero_le _)
  exact wpAny_pure ⟨plainId_quiet PySem.F.plain_extend_loop _, loop _ _ I7 (fun c n1 n2 => by rw [upd_ne n2, upd_ne n2]; exact base c n1 n2) upd_same (by rw [upd_ne njS, upd_ne njS, upd_same])⟩
theorem call_iterT : CallR X (.builtin "iter") (fun xs H Q => ∃ (t : Addr) (zs : List V), xs = [.ref t] ∧ SqT X.K H t zs ∧ ∀ j, H j = none → Q (.ref j) (upd H j (ItT t j 0))) := by
  intro pins s σ H xs us Q I rv h
  obtain ⟨t, zs, rfl, hT, q⟩ := h
  obtain rfl := Vals.ref1 rv
  obtain ⟨its, _, g, _⟩ := I.tuple hT
  exact call_iter_tup (show s.heap.IsTuple t its.toArray from g) ⟨.ref s.heap.objs.size, _, I.laid (t' := s.toks) (fun b u e => Heap.get?_push_of_some _ e) (Nat.le_refl _) (itT_ok ⟨_, Heap.get?_push_size _ rfl, rfl, rfl⟩), rfl, q _ (I.hok.fresh (Nat.le_refl _))⟩
end
end P5

end
section
set_option Elab.async false
set_option linter.all false
set_option maxRecDepth 100000
set_option maxHeartbeats 4000000
namespace P5
open PySem PySem.Spec PySem.SeqAt PyProof.Rows L2
section
variable {P : Program} {w : World} {K : PySem.W.Frag} {mg : Str → Option Value} {base : Heap} {aN aS CE CP CB : Addr}
/-! ### growth_of, pieces_of -/
abbrev sGof : Stmt := tp 30
theorem scGof : FnScope ["change"] ["change"] (defScope sGof) := ⟨rfl, rfl, rfl, by decide +kernel, rfl, by decide +kernel, by decide +kernel⟩
def spGof (K : PySem.W.Frag) : Sp := fun vs H Q _ => ∃ (v : V) (e : Ed), vs = [v] ∧ ChV K H v e ∧ Q (.int (grow e)) H
theorem ok_gof {f : Addr} {fd : FuncData} (F : Fun K "growth_of" "growth_of" sGof f fd) (B : BN mg) : FnOk P w K mg base CX0 1 f fd ["change"] (spGof K) := by
  refine F.ok scGof (fun vs H Q E h => ?_) (fun cdv A outer s H vs Q E hr h => ?_)
  · obtain ⟨_, _, rfl, _⟩ := h
    rfl
  obtain ⟨_, e, rfl, ⟨x, t, rfl, hx, ht⟩, q⟩ := h
  refine ⟨_, pss_one (ps_ret (pe_op op_sub (pe_callB call_len_seq rfl B.len PySem.boot_len (pa_cons (pe_ix ix_tup (pv 0) pe_int (fun _ _ => rfl)) pa_nil))
    (pe_op op_sub (pe_ix ix_tup (pv 0) pe_int (fun _ _ => rfl)) (pe_ix ix_tup (pv 0) pe_int (fun _ _ => rfl))))), ?_⟩
  refine ⟨_, rfl, x, _, 2, .ref t, rfl, rfl, hx, rfl, t, _, rfl, .inr ht, ?_⟩
  refine ⟨_, rfl, x, _, 1, .int e.b, rfl, rfl, hx, rfl, _, rfl, x, _, 0, .int e.a, rfl, rfl, hx, rfl, _, _, rfl, rfl, _, _, rfl, rfl, ?_⟩
  rw [List.length_map]
  exact q
abbrev sPof : Stmt := tp 20
abbrev NPof : List Str := ["changes", "pieces", "at", "first", "last", "words"]
theorem scPof : FnScope NPof ["changes"] (defScope sPof) := ⟨rfl, rfl, rfl, by decide +kernel, rfl, by decide +kernel, by decide +kernel⟩
def spPof (K : PySem.W.Frag) : Sp := fun vs H Q _ => ∃ (t : Addr) (cv : List V) (C : List Ed), vs = [.ref t] ∧ SqT K H t cv ∧ ChsV K H cv C ∧ Apt false 0 C ∧ C.length ≤ 200 ∧
  ∀ H' l pv, Same H H' → H' l = some (.lst pv) → PcsV K H' pv (pcsC 0 C) → Q (.ref l) H'
theorem apt_at : ∀ {C : List Ed} {t : Bool} {s i : Nat} {e : Ed}, Apt t s C → C[i]? = some e → endC s (C.take i) ≤ e.a
  | _, _, _, 0, _, .cons h1 _ _ _ _, h => by
    cases h
    exact h1
  | _, _, _, i + 1, _, .cons (C := C) _ _ _ _ h5, h => by
    rw [List.take_succ_cons, endC_cons]
    exact apt_at (i := i) h5 (by simpa using h)
  | _, _, _, _, _, .nil, h => by simp at h
theorem endC_snoc (s : Nat) (C : List Ed) (e : Ed) : endC s (C ++ [e]) = e.b := by
  unfold endC
  rw [List.foldl_append]
  rfl
theorem pcsC_snoc : ∀ (C : List Ed) (s : Nat) (e : Ed), pcsC s (C ++ [e]) = (pcsC s C).dropLast ++ [.kp (endC s C) (some e.a), .pt e.ws, .kp e.b none]
  | [], s, e => rfl
  | d :: C, s, e => by
    have h : pcsC d.b C ≠ [] := by
      intro z
      have := pcsC_len C d.b
      rw [z] at this
      simp at this
    show .kp s (some d.a) :: .pt d.ws :: pcsC d.b (C ++ [e]) = (.kp s (some d.a) :: .pt d.ws :: pcsC d.b C).dropLast ++ _
    rw [pcsC_snoc C d.b e, List.dropLast_cons_of_ne_nil (by simp), List.dropLast_cons_of_ne_nil h]
    rfl
theorem pcsC_last : ∀ (C : List Ed) (s : Nat), pcsC s C = (pcsC s C).dropLast ++ [.kp (endC s C) none]
  | [], s => rfl
  | d :: C, s => by
    have h : pcsC d.b C ≠ [] := by
      intro z
      have := pcsC_len C d.b
      rw [z] at this
      simp at this
    show .kp s (some d.a) :: .pt d.ws :: pcsC d.b C = (.kp s (some d.a) :: .pt d.ws :: pcsC d.b C).dropLast ++ _
    rw [List.dropLast_cons_of_ne_nil (by simp), List.dropLast_cons_of_ne_nil h]
    have ih := pcsC_last C d.b
    rw [endC_cons]
    show .kp s (some d.a) :: .pt d.ws :: pcsC d.b C = .kp s (some d.a) :: .pt d.ws :: ((pcsC d.b C).dropLast ++ [.kp (endC d.b C) none])
    rw [← ih]
theorem ok_pof {f : Addr} {fd : FuncData} (F : Fun K "pieces_of" "pieces_of" sPof f fd) (B : BN mg) : FnOk P w K mg base CX0 1 f fd ["changes"] (spPof K) := by
  refine F.ok scPof (fun vs H Q E h => ?_) (fun cdv A outer s H vs Q E hr h => ?_)
  · obtain ⟨_, _, _, rfl, _⟩ := h
    rfl
  obtain ⟨t, cv, C, rfl, hT, hV, hA, hl, q⟩ := h
  refine ⟨_, pss_cons (ps_set (i := 1) scPof.nd rfl (Or.inl rfl) (pe_lst pa_nil)) (pss_cons (ps_set (i := 2) scPof.nd rfl (Or.inl rfl) pe_int)
    (pss_cons (ps_for PassesOwn.never rfl (pi_tup (pv 0)) (pg_tup rfl (pgs_cons (pg_name (i := 3) scPof.nd rfl (Or.inl rfl)) (pgs_cons (pg_name (i := 4) scPof.nd rfl (Or.inl rfl)) (pgs_cons (pg_name (i := 5) scPof.nd rfl (Or.inl rfl)) pgs_nil))))
      (pss_cons (ps_expr (pe_bm PySem.F.plainAttrs_list PySem.F.slot_list_append PySem.F.type_list_append mt_append (pv 1) (pa_cons (pe_tup (pa_cons (pv 2) (pa_cons (pv 3) (pa_cons (pe_tup pa_nil) pa_nil)))) pa_nil)))
      (pss_cons (ps_expr (pe_bm PySem.F.plainAttrs_list PySem.F.slot_list_append PySem.F.type_list_append mt_append (pv 1) (pa_cons (pe_tup (pa_cons pe_non (pa_cons pe_non (pa_cons (pv 5) pa_nil)))) pa_nil)))
      (pss_one (ps_set (i := 2) scPof.nd rfl (Or.inl rfl) (pv 4))))))
    (pss_one (ps_ret (pe_op op_cat (pv 1) (pe_lst (pa_cons (pe_tup (pa_cons (pv 2) (pa_cons pe_non (pa_cons (pe_tup pa_nil) pa_nil)))) pa_nil))))))), ?_⟩
  have sz : ∀ {n : Nat}, n ≤ 1000 → n ≤ sizeLine := fun h => small_le h
  have sz2 : ∀ {n : Nat}, n < 1000 → n < sizeLine := fun h => Nat.lt_of_lt_of_le h (small_le (Nat.le_refl _))
  have hlen : cv.length = C.length := hV.len
  refine ⟨by show 0 ≤ sizeLine; decide, fun F0 hF0 => ?_⟩
  have s0 := Same.new hF0 (.lst [])
  have hF00 : upd H F0 (.lst []) F0 = some (.lst []) := upd_same
  generalize upd H F0 (.lst []) = H0 at *
  refine ⟨_, rfl, t, rfl, ⟨_, Same.tup s0 hT⟩, ?_⟩
  refine for_tup (xs := cv) (fun i σ H' => Same H H' ∧ ∃ (dv : List V) (v3 v4 v5 : Option V), H' F0 = some (.lst dv) ∧ PcsV K H' dv (pcsC 0 (C.take i)).dropLast ∧ dv.length ≤ 2 * i ∧ σ = [some (.ref t), some (.ref F0), some (.int (endC 0 (C.take i))), v3, v4, v5])
    ⟨s0, [], none, none, none, hF00, by rw [List.take_zero]; trivial, Nat.le_refl _, rfl⟩ (fun i σ H' _ ⟨s, _⟩ => Same.tup s hT) ?_ ?_
  · rintro i x σ H1 hx ⟨s1, dv, v3, v4, v5, hF, hD, hDl, rfl⟩
    obtain ⟨e, hre, hch⟩ := hV.get hx
    obtain ⟨hil, _⟩ := kat_drop hre
    have hle := apt_at hA hre
    obtain ⟨a, tw, rfl, ha, htw⟩ := hch.imp (fun _ _ z => Same.tup s1 z)
    refine ⟨a, _, rfl, ha, rfl, _, _, rfl, _, _, rfl, _, _, rfl, rfl, ?_⟩
    refine ⟨_, rfl, .inl ⟨rfl, _, .inl (.inl hF)⟩, _, rfl, _, rfl, by show 0 ≤ sizeLine; decide, fun p1 h1 => ⟨by show 3 ≤ sizeLine; decide, fun p2 h2 => ?_⟩⟩
    have s2 := Same.new h1 (.tup [])
    have c1 : upd H1 p1 (.tup []) p1 = some (.tup []) := upd_same
    generalize upd H1 p1 (.tup []) = H2 at *
    have s3 := Same.new h2 (.tup [.int (endC 0 (C.take i)), .int e.a, .ref p1])
    have c2 : upd H2 p2 (.tup [.int (endC 0 (C.take i)), .int e.a, .ref p1]) p2 = some (.tup [.int (endC 0 (C.take i)), .int e.a, .ref p1]) := upd_same
    generalize upd H2 p2 (.tup [.int (endC 0 (C.take i)), .int e.a, .ref p1]) = H3 at *
    have s23 := s2.trans s3
    have hF3 := s23 _ _ hF
    have A3 : PcV K H3 (.ref p2) (.kp (endC 0 (C.take i)) (some e.a)) := ⟨p2, p1, rfl, SqT.of c2, SqT.of (s3 _ _ c1), fun b' e => by cases e; exact hle⟩
    refine ⟨F0, dv, _, rfl, rfl, hF3, sz2 (by omega), ?_⟩
    have hF4 : upd H3 F0 (.lst (dv ++ [.ref p2])) F0 = some (.lst (dv ++ [.ref p2])) := upd_same
    have hD4 : PcsV K (upd H3 F0 (.lst (dv ++ [.ref p2]))) (dv ++ [.ref p2]) ((pcsC 0 (C.take i)).dropLast ++ [.kp (endC 0 (C.take i)) (some e.a)]) := RelL.app (RelL.imp (fun _ _ z => PcV.put hF3 z) (hD.same s23)) (RelL.one (PcV.put hF3 A3))
    have s14 : Same H (upd H3 F0 (.lst (dv ++ [.ref p2]))) := same_put hF0 (s1.trans s23)
    have htw4 : SqT K (upd H3 F0 (.lst (dv ++ [.ref p2]))) tw (e.ws.map V.str) := SqT.put hF3 (Same.tup s23 htw)
    generalize upd H3 F0 (.lst (dv ++ [.ref p2])) = H4 at *
    refine ⟨_, rfl, .inl ⟨rfl, _, .inl (.inl hF4)⟩, _, rfl, by show 3 ≤ sizeLine; decide, fun p3 h3 => ?_⟩
    have s5 := Same.new h3 (.tup [.non, .non, .ref tw])
    have c3 : upd H4 p3 (.tup [.non, .non, .ref tw]) p3 = some (.tup [.non, .non, .ref tw]) := upd_same
    generalize upd H4 p3 (.tup [.non, .non, .ref tw]) = H5 at *
    have hF5 := s5 _ _ hF4
    have A5 : PcV K H5 (.ref p3) (.pt e.ws) := ⟨p3, tw, rfl, SqT.of c3, Same.tup s5 htw4⟩
    refine ⟨F0, _, _, rfl, rfl, hF5, sz2 (by rw [List.length_append, List.length_singleton]; omega), ?_⟩
    refine ⟨_, rfl, ?_⟩
    have et : C.take (i + 1) = C.take i ++ [e] := take_more hre
    refine ⟨same_put hF0 (s14.trans s5), _, some (.int e.a), some (.int e.b), some (.ref tw), upd_same, ?_, by simp only [List.length_append, List.length_singleton]; omega, ?_⟩
    · have z := RelL.app (RelL.imp (fun _ _ z => PcV.put (zs := dv ++ [.ref p2] ++ [.ref p3]) hF5 z) (hD4.same s5)) (RelL.one (PcV.put hF5 A5))
      rw [et, pcsC_snoc]
      have ez : ((pcsC 0 (C.take i)).dropLast ++ [Pc.kp (endC 0 (C.take i)) (some e.a), Pc.pt e.ws, Pc.kp e.b none]).dropLast = (pcsC 0 (C.take i)).dropLast ++ [Pc.kp (endC 0 (C.take i)) (some e.a)] ++ [Pc.pt e.ws] := by
        rw [List.dropLast_append_of_ne_nil (by simp)]
        simp
      rw [ez]
      exact z
    · rw [et, endC_snoc]
      rfl
  · rintro σ H1 ⟨s1, dv, v3, v4, v5, hF, hD, hDl, rfl⟩
    rw [List.take_of_length_le (by omega)] at hD
    refine ⟨_, rfl, _, rfl, by show 0 ≤ sizeLine; decide, fun p1 h1 => ⟨by show 3 ≤ sizeLine; decide, fun p2 h2 => ⟨by show 1 ≤ sizeLine; decide, fun p3 h3 => ?_⟩⟩⟩
    have ee : endC 0 (C.take cv.length) = endC 0 C := by rw [List.take_of_length_le (by omega)]
    have s2 := Same.new h1 (.tup [])
    have c1 : upd H1 p1 (.tup []) p1 = some (.tup []) := upd_same
    generalize upd H1 p1 (.tup []) = H2 at *
    have s3 := Same.new h2 (.tup [.int (endC 0 (C.take cv.length)), .non, .ref p1])
    have c2 : upd H2 p2 (.tup [.int (endC 0 (C.take cv.length)), .non, .ref p1]) p2 = some (.tup [.int (endC 0 (C.take cv.length)), .non, .ref p1]) := upd_same
    generalize upd H2 p2 (.tup [.int (endC 0 (C.take cv.length)), .non, .ref p1]) = H3 at *
    have s4 := Same.new h3 (.lst [.ref p2])
    have c3 : upd H3 p3 (.lst [.ref p2]) p3 = some (.lst [.ref p2]) := upd_same
    generalize upd H3 p3 (.lst [.ref p2]) = H4 at *
    have s24 := (s2.trans s3).trans s4
    rw [ee] at c2
    have A4 : PcV K H4 (.ref p2) (.kp (endC 0 C) none) := ⟨p2, p1, rfl, SqT.of (s4 _ _ c2), SqT.of ((s3.trans s4) _ _ c1), fun b' e => nomatch e⟩
    refine ⟨F0, p3, _, _, rfl, rfl, s24 _ _ hF, c3, sz (by rw [List.length_singleton]; omega), fun r hr => ?_⟩
    have s5 := Same.new hr (.lst (dv ++ [.ref p2]))
    refine q _ r _ ((s1.trans s24).trans s5) upd_same ?_
    rw [pcsC_last]
    exact RelL.app (hD.same (s24.trans s5)) (RelL.one (A4.same s5))
end
end P5

end
section
set_option Elab.async false
set_option linter.all false
set_option maxRecDepth 100000
set_option maxHeartbeats 4000000
namespace P5
open PySem PySem.Spec PySem.SeqAt PyProof.Rows L2
/-- what isinstance(x, C) asks of the class C, by name -/
structure RIn (K : PySem.W.Frag) (mg : Str → Option Value) (x : Str) (C : Addr) : Prop where
  g : mg x = some (.ref C)
  ha : PySem.W.findIn K (.ref C) "__class__" = some (some (.builtin "object.__class__"))
  hn : PySem.W.specialIn K (.builtin "object.__class__") "__get__" = some (some (.builtin "getset_descriptor.__get__"))
  ht : PySem.W.takesIn K (.builtin "object.__class__") = some true
  hm : PySem.W.mroIn K C (.type "object") = some true
  kit : PySem.W.kitOne K (.ref C) (.ref C) = some true
theorem tot_rev (C : List Ed) : tot C.reverse = tot C := by
  induction C with
  | nil => rfl
  | cons e C ih =>
    rw [List.reverse_cons, tot_app, ih]
    show tot C + (e.ws.length + 0) = e.ws.length + tot C
    omega
section
variable {P : Program} {w : World} {K : PySem.W.Frag} {mg : Str → Option Value} {base : Heap} {aN aS CE CP CB : Addr}
abbrev sPLen : Stmt := inClass (tp 25) 2
theorem scPLen : FnScope ["self"] ["self"] (defScope sPLen) := ⟨rfl, rfl, rfl, by decide +kernel, rfl, by decide +kernel, by decide +kernel⟩
theorem ok_plen {f : Addr} {fd : FuncData} (F : Fun K "__len__" "Patch.__len__" sPLen f fd) (B : BN mg) (EP : PC K CP) : FnOk P w K mg base CX0 1 f fd ["self"] (spPLen K CP) := by
  refine F.ok scPLen (fun vs H Q E h => ?_) (fun cdv A outer s H vs Q E hr h => ?_)
  · obtain ⟨_, _, _, rfl, _⟩ := h
    rfl
  obtain ⟨p, C, m, rfl, ⟨dx, t, vs, hp, hT, hV, hO⟩, q⟩ := h
  refine ⟨_, pss_one (ps_ret (pe_callB call_len_seq rfl B.len PySem.boot_len (pa_cons (pe_fld (pv 0) rfl) pa_nil))), ?_⟩
  refine ⟨_, rfl, p, CP, dx, _, .ref t, rfl, hp, EP.cl, EP.nC, rfl, t, _, rfl, .inr hT, ?_⟩
  rw [hV.len]
  exact q
abbrev sPBool : Stmt := inClass (tp 25) 4
theorem scPBool : FnScope ["self"] ["self"] (defScope sPBool) := ⟨rfl, rfl, rfl, by decide +kernel, rfl, by decide +kernel, by decide +kernel⟩
theorem ok_pbool {f : Addr} {fd : FuncData} (F : Fun K "__bool__" "Patch.__bool__" sPBool f fd) (mB : mg "bool" = none) (EP : PC K CP) : FnOk P w K mg base CX0 1 f fd ["self"] (spPBool K CP) := by
  refine F.ok scPBool (fun vs H Q E h => ?_) (fun cdv A outer s H vs Q E hr h => ?_)
  · obtain ⟨_, _, _, rfl, _⟩ := h
    rfl
  obtain ⟨p, C, m, rfl, ⟨dx, t, vs, hp, hT, hV, hO⟩, q⟩ := h
  refine ⟨_, pss_one (ps_ret (pe_callTy call_boolT rfl mB (by decide +kernel) (pa_cons (pe_fld (pv 0) rfl) pa_nil))), ?_⟩
  have hl := hV.len
  have hf := hO.few
  refine ⟨_, rfl, p, CP, dx, _, .ref t, rfl, hp, EP.cl, EP.nC, rfl, t, _, rfl, hT, by omega, ?_⟩
  have e : (!vs.isEmpty) = !C.isEmpty := by
    cases vs with
    | nil =>
      cases C with
      | nil => rfl
      | cons _ _ => simp at hl
    | cons _ _ =>
      cases C with
      | nil => simp at hl
      | cons _ _ => rfl
  rw [e]
  exact q
abbrev sPIter : Stmt := inClass (tp 25) 3
theorem scPIter : FnScope ["self"] ["self"] (defScope sPIter) := ⟨rfl, rfl, rfl, by decide +kernel, rfl, by decide +kernel, by decide +kernel⟩
theorem ok_piter {f : Addr} {fd : FuncData} (F : Fun K "__iter__" "Patch.__iter__" sPIter f fd) (mI : mg "iter" = none) (EP : PC K CP) : FnOk P w K mg base CX0 1 f fd ["self"] (spPIter K CP) := by
  refine F.ok scPIter (fun vs H Q E h => ?_) (fun cdv A outer s H vs Q E hr h => ?_)
  · obtain ⟨_, _, _, _, _, rfl, _⟩ := h
    rfl
  obtain ⟨p, dx, t, cs, m, rfl, hp, hT, q⟩ := h
  refine ⟨_, pss_one (ps_ret (pe_callB call_iterT rfl mI (by decide +kernel) (pa_cons (pe_fld (pv 0) rfl) pa_nil))), ?_⟩
  exact ⟨_, rfl, p, CP, dx, _, .ref t, rfl, hp, EP.cl, EP.nC, rfl, t, cs, rfl, hT, q⟩
abbrev sPEq : Stmt := inClass (tp 25) 1
theorem scPEq : FnScope ["self", "other"] ["self", "other"] (defScope sPEq) := ⟨rfl, rfl, rfl, by decide +kernel, rfl, by decide +kernel, by decide +kernel⟩
theorem eq_end {C D : List Ed} {m k : Nat} {Q : VK} {H : Hp} (q : Q (.bl (decide (C = D ∧ m = k))) H) : Q (.bl (if decide (C = D) = true then decide (V.int m = V.int k) else false)) H := by
  have e : (if decide (C = D) = true then decide (V.int m = V.int k) else false) = decide (C = D ∧ m = k) := by
    by_cases h : C = D
    · rw [decide_eq_true h, if_pos rfl]
      by_cases h2 : m = k
      · rw [decide_eq_true (by rw [h2]), decide_eq_true ⟨h, h2⟩]
      · rw [decide_eq_false (fun z => h2 (by have := V.int.inj z; omega)), decide_eq_false fun z => h2 z.2]
    · rw [decide_eq_false h, if_neg Bool.false_ne_true, decide_eq_false fun z => h z.1]
  rw [e]
  exact q
theorem ok_peq {f : Addr} {fd : FuncData} (F : Fun K "__eq__" "Patch.__eq__" sPEq f fd) (B : BN mg) (EP : PC K CP) (R : RIn K mg "Patch" CP) : FnOk P w K mg base CX0 1 f fd ["self", "other"] (spPEq K CP) := by
  refine F.ok scPEq (fun vs H Q E h => ?_) (fun cdv A outer s H vs Q E hr h => ?_)
  · obtain ⟨_, _, _, _, _, _, rfl, _⟩ := h
    rfl
  obtain ⟨p, p2, C, D, m, k, rfl, ⟨dx, t, vs, hp, hT, hV, hO⟩, ⟨dx2, t2, vs2, hp2, hT2, hV2, hO2⟩, q⟩ := h
  refine ⟨_, pss_cons (ps_if (pt_not (pt_val (pe_callB call_isi rfl B.isi (by decide +kernel) (pa_cons (pv 1) (pa_cons (pgl R.g) pa_nil))))) (pss_one ps_never) pss_nil)
    (pss_one (ps_ret (pe_and (pe_cmpR (op_eqD (hu64 hr)) (pe_fld (pv 0) rfl) (pe_fld (pv 1) rfl) (nomark _)) (pe_one (pe_cmpR op_eq (pe_fld (pv 0) rfl) (pe_fld (pv 1) rfl) (nomark _)))))), ?_⟩
  refine ⟨_, rfl, .ref p2, .ref CP, .ref CP, .ref CP, true, rfl, .own _, .base (.ins hp2 EP.cl R.ha R.hn R.ht R.hm), R.kit, _, rfl, iteF ?_⟩
  refine ⟨_, rfl, p, CP, dx, _, .ref t, rfl, hp, EP.cl, EP.nC, rfl, _, rfl, p2, CP, dx2, _, .ref t2, rfl, hp2, EP.cl, EP.nC, rfl, .tuple (C.map chD), .tuple (D.map chD), .tup hT (dp_chs hV), .tup hT2 (dp_chs hV2), shaped_chsT hO.ok, shaped_chsT hO2.ok, _, rfl, ?_⟩
  rw [show PyData.eqv (.tuple (C.map chD)) (.tuple (D.map chD)) = decide (C = D) from eqv_chs C D]
  by_cases h : C = D
  · refine iteTT (decide_eq_true h) ⟨_, rfl, p, CP, dx, _, .int m, rfl, hp, EP.cl, EP.nL, rfl, _, rfl, p2, CP, dx2, _, .int k, rfl, hp2, EP.cl, EP.nL, rfl, rfl, ?_⟩
    have z := eq_end (Q := Q) (H := H) q
    rw [if_pos (decide_eq_true h)] at z
    exact z
  · refine iteFF (decide_eq_false h) ?_
    have z := eq_end (Q := Q) (H := H) q
    rw [if_neg (by rw [decide_eq_false h]; exact Bool.false_ne_true)] at z
    exact z
abbrev sPGrow : Stmt := inClass (tp 25) 6
theorem scPGrow : FnScope ["self", "change"] ["self"] (defScope sPGrow) := ⟨rfl, rfl, rfl, by decide +kernel, rfl, by decide +kernel, by decide +kernel⟩
theorem ok_pgrow {f f1 : Addr} {fd fd1 : FuncData} (F : Fun K "growth" "Patch.growth" sPGrow f fd) (B : BN mg) (EP : PC K CP)
    (G1 : FnOk P w K mg base CX0 1 f1 fd1 ["change"] (spGof K)) (b1 : Binds K fd1 ["change"] []) (k1 : PySem.W.keepIn K (.ref f1) = true) (m1 : mg "growth_of" = some (.ref f1)) : FnOk P w K mg base CX0 2 f fd ["self"] (spPGrow K CP) := by
  refine F.ok scPGrow (fun vs H Q E h => ?_) (fun cdv A outer s H vs Q E hr h => ?_)
  · obtain ⟨_, _, _, rfl, _⟩ := h
    rfl
  obtain ⟨p, C, m, rfl, ⟨dx, t, vs, hp, hT, hV, hO⟩, q⟩ := h
  refine ⟨_, pss_one (ps_ret (pe_callB (cr_sum rfl) rfl B.sum (by decide +kernel) (pa_cons (pe_lc (own := [("change", 1)]) (g := gName 1) rfl scPGrow.nd (pi_tup (pe_fld (pv 0) rfl))
      (blkOk_by (N := ["self", "change"]) (sc := defScope sPGrow) (by decide +kernel)) (fun _ _ _ _ _ => pg_name (i := 1) scPGrow.nd rfl (Or.inl rfl)) (fun _ _ _ _ _ => pts_nil)
      (fun _ _ _ _ _ => pe_call G1 hr rfl m1 k1 b1 .nil pass0 (pa_cons (pv 1) pa_nil))) pa_nil))), ?_⟩
  have hl : vs.length = C.length := hV.len
  have hf := hO.few
  refine ⟨_, rfl, p, CP, dx, _, .ref t, rfl, hp, EP.cl, EP.nC, rfl, t, rfl, ⟨_, hT⟩, fun L hL => lcT ((C.map grow).map V.int) (by rw [List.length_map, List.length_map]; exact hl.symm) (by omega) hT hL (fun i y x H' Q' hx hy s k => ?_) fun H2 s2 hL2 => ?_⟩
  · obtain ⟨e, hre, hch⟩ := hV.get hx
    rw [List.getElem?_map, List.getElem?_map, hre] at hy
    cases hy
    exact ⟨rfl, _, rfl, x, e, rfl, ChV.same s hch, k H' (Same.refl _)⟩
  · exact ⟨L, C.map grow, rfl, SqL.of hL2, q H2 s2⟩
abbrev sPEds : Stmt := inClass (tp 25) 7
theorem scPEds : FnScope ["self", "first", "last", "words"] ["self"] (defScope sPEds) := ⟨rfl, rfl, rfl, by decide +kernel, rfl, by decide +kernel, by decide +kernel⟩
end
end P5

end
section
set_option Elab.async false
set_option linter.all false
set_option maxRecDepth 100000
set_option maxHeartbeats 4000000
/-! list comprehensions while an exception is handled -/
namespace HL
open PySem PySem.Spec PyProof.Rows L2 HotX L2H
/-- a block's context that bears the handled exception -/
abbrev blkH (X : Cx) (s : Shared) (H : Hp) (scope : Scope) (ce : Env) (fp : List Addr) (q : Addr × Obj) : Cx := { X.blk s H scope ce fp with pn := [q] }
section
variable {X : Cx} {pins : List (Addr × Obj)} {σ : L2.St} {H : Hp} {s : Shared}
theorem bear {q : Addr × Obj} (I : Inv X [] σ H s) (h : s.heap.get? q.1 = some q.2 ∧ H q.1 = none ∧ q.1 ≠ X.env.locals ∧ q.1 ∉ X.fs ∧ ∀ v, q.2.data ≠ .cell v) : Inv { X with pn := [q] } [] σ H s :=
  ⟨⟨I.ok.mod, I.ok.kind, I.ok.glob, I.ok.blt, I.ok.above, I.ok.inj, I.ok.has, I.ok.cab, I.ok.hd, I.ok.frames, I.ok.stk, I.ok.exf, I.ok.bs, I.ok.bsz, I.ok.noex, I.ok.exfs, I.ok.funs, I.ok.frf⟩,
    I.os, I.bare, I.base, I.loc, I.cell, I.free, I.freeC, fun p hp => by
      have e : p = q := by simpa using hp
      rw [e]
      exact h, I.hok, I.len⟩
/-- [elt for tg in iter], an exception handled -/
theorem pe_lcH {elt tg iter : Expr} {scope : Scope} {own : List (Str × Nat)} {pos : Pos} {wi : TI} {g : TG} {te : TE} (hot : HotC X) (hN : X.N.Nodup) (hi : PIH X tg iter wi) (ok : BlkOk X.N X.env.scope scope own)
    (hg : ∀ (s : Shared) (H : Hp) (C : Addr) (cl : List (Str × Addr)) (fp : List Addr) (q : Addr × Obj), HotC (blkH X s H scope (compEnvC scope cl C X.env) fp q) → PG (blkH X s H scope (compEnvC scope cl C X.env) fp q) tg g)
    (he : ∀ (s : Shared) (H : Hp) (C : Addr) (cl : List (Str × Addr)) (fp : List Addr) (q : Addr × Obj), HotC (blkH X s H scope (compEnvC scope cl C X.env) fp q) → PE (blkH X s H scope (compEnvC scope cl C X.env) fp q) elt te)
    (hs : ∀ x, foldedSetIterable iter X.env x = pure x := by intro _; rfl) : PE X (.ListComp elt [⟨tg, iter, [], 0⟩] scope pos) (tLc wi g tYes te (own.map (·.2))) := by
  refine ⟨fun pins s σ H Q I h => ?_⟩
  obtain ⟨q, hq, hqm⟩ := hot
  rw [eval_ListComp]
  have fr : ∀ y ∈ scope.names, y.2 = .free → ∃ c, X.env.cells.lookup y.1 = some c := fun y hy e => I.ok.has _ (ok.free y hy e)
  refine wpAny_comprehension_free rfl hs (closure_ok fr) ok.kind (fun y hy e => by rw [ok.uniq y hy, e]) (thn (hi.run pins s σ H _ I h) fun _ s1 hx => thn hx fun _ s2 h2 => ?_)
  obtain ⟨j, fp, tn, J, G, rfl, I2, T, t2, f2, w⟩ := h2
  refine wpAny_newObj_type (newEnv_comp ?_) (by show 0 ≤ sizeLine; decide)
  obtain ⟨D, hD⟩ : ∃ D, D = s2.heap.objs.size := ⟨_, rfl⟩
  rw [← hD]
  obtain ⟨W, ⟨m0, w0⟩, turn⟩ := w D (I2.hok.fresh (Nat.le_of_eq hD.symm))
  -- the list made
  have I3 : Inv X pins σ (upd G D (.lst [])) { s2 with heap := s2.heap.push { cls := .type "list", data := .seq ([] : List Value).toArray } } :=
    I2.laid (t' := s2.toks) (fun b o e => Heap.get?_push_of_some _ e) (Nat.le_of_eq hD.symm) ⟨Nat.zero_le _, [], 0, .nil, by rw [hD]; exact Heap.get?_push_size _ rfl⟩
  have lt2 : ∀ b ∈ fp, b < s2.heap.objs.size := fun b hb => let ⟨o, e, _⟩ := T.obj _ _ t2 b hb; Heap.lt_size e
  have f3 : ∀ b ∈ fp, FpOk X pins (upd G D (.lst [])) b := fun b hb => ⟨by rw [upd_ne (by rw [hD]; exact Nat.ne_of_lt (lt2 b hb))]; exact (f2 b hb).1, (f2 b hb).2⟩
  have t3 := T.keep _ _ (s2.heap.push { cls := .type "list", data := .seq ([] : List Value).toArray }) t2 fun b _ o e => Heap.get?_push_of_some _ e
  have lt3 : ∀ b ∈ fp, b < (s2.heap.push { cls := .type "list", data := .seq ([] : List Value).toArray }).objs.size := fun b hb => by rw [Heap.size_push]; exact Nat.lt_succ_of_lt (lt2 b hb)
  generalize hz : ({ s2 with heap := s2.heap.push { cls := .type "list", data := .seq ([] : List Value).toArray } } : Shared) = z at *
  have zh : s2.heap.push { cls := .type "list", data := .seq ([] : List Value).toArray } = z.heap := by rw [← hz]
  rw [zh] at t3 lt3
  generalize upd G D (.lst []) = G3 at *
  have I4 := block_start I3 ok hN (fun b hb => ⟨f3 b hb, lt3 b hb⟩)
  have P3 := I3.pin q (List.mem_append_left _ hqm)
  -- the block
  have kk : ∀ c o, z.heap.get? c = some o → (pushCells (z.heap.push { cls := .type "dict", data := .dict #[] }) scope.names).get? c = some o := fun c o e => pushCells_keeps _ _ _ _ (Heap.get?_push_of_some _ e)
  have I5 := bear (q := q) I4 ⟨kk _ _ P3.1, P3.2.1, Nat.ne_of_lt (Heap.lt_size P3.1), fun hm => (List.mem_cons.mp (I3.stkSub q.1 hm)).elim P3.2.2.1 P3.2.2.2.1, P3.2.2.2.2⟩
  have t4 := T.keep _ _ _ t3 fun c _ o e => kk c o e
  have hb0 : HotC (blkH X z G3 scope (compEnvC scope (cellsFrom (z.heap.objs.size + 1) scope.names (cloFrom X.env.cells scope.names [])) z.heap.objs.size X.env) fp q) := ⟨q, hq, List.mem_cons_self⟩
  have gG := hg z G3 z.heap.objs.size (cellsFrom (z.heap.objs.size + 1) scope.names (cloFrom X.env.cells scope.names [])) fp q hb0
  have gE := he z G3 z.heap.objs.size (cellsFrom (z.heap.objs.size + 1) scope.names (cloFrom X.env.cells scope.names [])) fp q hb0
  show codeAny _ _ (.compStart (.ListComp elt [⟨tg, iter, [], 0⟩] scope pos) 0 (.ref j) (.ref D) (compEnvC scope (cellsFrom (z.heap.objs.size + 1) scope.names (cloFrom X.env.cells scope.names [])) z.heap.objs.size X.env)) (compPost (model X.prog X.w) X.A X.xe none _ (.ref D) z.heap.objs.size) { z with heap := pushCells (z.heap.push { cls := .type "dict", data := .dict #[] }) scope.names }
  generalize hce : compEnvC scope (cellsFrom (z.heap.objs.size + 1) scope.names (cloFrom X.env.cells scope.names [])) z.heap.objs.size X.env = ce at *
  have cL : ce.locals = z.heap.objs.size := by subst hce; rfl
  have stat : ∀ {H' : Hp}, (∀ b ∈ fp, H' b = none) → ∀ b ∈ fp, FpOk (blkH X z G3 scope ce fp q) [] H' b := fun hn b hb =>
    ⟨hn b hb, (I5.ok.exf b hb).1, I5.ok.exfs b hb, .inl hb, fun x c e => (I5.ok.exf b hb).2 x c e, fun p hp => by
      have e : p = q := by simpa using hp
      rw [e]
      exact (f3 b hb).2.2.2.2.2 q (List.mem_append_left _ hqm)⟩
  have loop : codeAny (model X.prog X.w) X.A (.compLoop (.ListComp elt [⟨tg, iter, [], 0⟩] scope pos) 0 (.ref j) (.ref D) ce) (compPost (model X.prog X.w) X.A X.xe none (EP X pins σ Q) (.ref D) z.heap.objs.size) { z with heap := pushCells (z.heap.push { cls := .type "dict", data := .dict #[] }) scope.names } := by
    refine compLoop_any (fun n s' => ∃ i H', Inv (blkH X z G3 scope ce fp q) [] (wipe σ (own.map (·.2))) H' s' ∧ tn i s'.heap ∧ (∀ b ∈ fp, H' b = none) ∧ W i n H') ?_ m0 ⟨0, G3, I5, t4, fun b hb => (f3 b hb).1, w0⟩
    rintro n s5 ⟨i, H5, J5, t5, n5, w5⟩
    rcases turn i n H5 w5 with ⟨st, qq⟩ | ⟨go, Nx, hNx, step⟩
    · refine thnF (T.done (blkH X z G3 scope ce fp q) rfl rfl rfl hb0 i [] s5 _ H5 (fun _ _ => False) J5 (stat n5) t5 st) fun r s6 z6 => ?_
      obtain ⟨rfl, J6⟩ := z6
      have I7 : Inv X pins σ H5 s6 := I3.call' (ch := fp) J6.os J6.base J6.hok J6.bare fun b hb => ⟨(f3 b hb).2.2.2.1, (f3 b hb).2.1, (f3 b hb).2.2.2.2.1, (f3 b hb).2.2.2.2.2⟩
      have nC : H5 ce.locals = none := J6.free
      obtain ⟨m, hn, _⟩ := J6.loc
      have hn : s6.heap.Ns ce.locals m := hn
      rw [cL] at nC hn
      obtain ⟨u0, u1, u2, u3, u4, u5⟩ := I3.fpOk (Nat.le_refl _) nC
      exact ⟨m, hn, fun h6 sb => ⟨.ref D, H5, I7.turned (t' := s6.toks) (fun b o nb e => (sb.2 b nb).trans e) u0 u1 u3 u4 u5, rfl, qq⟩⟩
    · refine thnF (T.item (blkH X z G3 scope ce fp q) rfl rfl rfl hb0 i [] s5 _ H5 (fun _ _ => False) J5 (stat n5) t5 go) fun r s6 z6 => ?_
      obtain ⟨u, rfl, h6⟩ := z6
      refine thnF h6 fun _ s7 z7 => ?_
      obtain ⟨x, H7, J7, r7, y7, t7, n7⟩ := z7
      have J7' := J7.pinned (stat n7) (T.obj _ _ t7)
      refine thnF (gG.run _ s7 _ H7 x u _ J7' r7 (step x H7 y7)) fun _ s8 z8 => ?_
      obtain ⟨σ8, H8, J8, e8, q8⟩ := z8
      refine thnF ((pts_nil (X := blkH X z G3 scope ce fp q)).run _ s8 σ8 H8 _ J8 q8) fun b s9 z9 => ?_
      obtain ⟨H9, J9, q9⟩ := z9
      have last : ∀ {s' : Shared} {H' : Hp}, Inv (blkH X z G3 scope ce fp q) ([] ++ pinsAt fp s7.heap) σ8 H' s' → Nx H' → ∃ m, m < n ∧ ∃ i H', Inv (blkH X z G3 scope ce fp q) [] (wipe σ (own.map (·.2))) H' s' ∧ tn i s'.heap ∧ (∀ b ∈ fp, H' b = none) ∧ W i m H' := fun {s' H'} J' nx => by
        obtain ⟨m1, l1, w1⟩ := hNx H' nx
        have pp : ∀ b ∈ fp, ∀ o, s7.heap.get? b = some o → s'.heap.get? b = some o ∧ H' b = none := fun b hb o e =>
          have y := J'.pin (b, o) (List.mem_append_right _ (List.mem_append_right _ (mem_pinsAt hb e)))
          ⟨y.1, y.2.1⟩
        refine ⟨m1, l1, i + 1, H', (J'.unpinned (pins := [])).weak (by rw [← e8, wipe_length]) (fun k v e => by rw [← e8] at e; exact (wipe_some e).1), T.keep _ _ _ t7 fun b hb o e => (pp b hb o e).1, fun b hb => ?_, w1⟩
        obtain ⟨o, e, _⟩ := T.obj _ _ t7 b hb
        exact (pp b hb o e).2
      cases b with
      | false => simp only [Bool.false_eq_true, if_false] at q9 ⊢; exact last J9 q9
      | true =>
        simp only [if_true] at q9 ⊢
        refine thnF (gE.run _ s9 σ8 H9 _ J9 q9) fun v s10 z10 => ?_
        obtain ⟨yv, H10, J10, r10, acc, hD10, l10, nx⟩ := z10
        exact app_ok (X := blkH X z G3 scope ce fp q) J10 hD10 l10 r10 fun s11 J11 => last J11 nx
  exact codeAny_compStart_list loop (T.self X.A 0 _ _ _ t4 loop)
end
end HL

end
section
set_option Elab.async false
set_option linter.all false
set_option maxRecDepth 100000
set_option maxHeartbeats 4000000
/-! loops over texts, and all(list), while an exception is handled -/
namespace HL
open PySem PySem.Spec PyProof.Rows L2 HotX L2H
section
variable {prog : Program} {w : World} {A : Around} {E : Value → Shared → Prop} {s : Shared}
theorem asc_end {j x1 : Addr} {z : Str} {t : Tok} {i : Nat} {Q : Option Value → Shared → Prop} (hot : HotAt A x1 s.heap) (hj : s.heap.IsStrIter j "str_ascii_iterator" z t i) (hx : z.cps[i]? = none) (q : ∀ h2, Heap.ExtBut j s.heap h2 → Q none { s with heap := h2 }) :
    wpAny (model prog w) A (pyNext (.ref j)) Q E s := by
  obtain ⟨ob, hb, hc, hd⟩ := id hj
  have hne := hot_ne hot hb hd (by simp)
  obtain ⟨hh, o1, v1, g1, e1, k1⟩ := hot
  have g2 : ∀ f, (s.heap.update j f).get? x1 = some o1 := fun f => by rw [Heap.get?_update_other _ _ hne.symm]; exact g1
  unfold pyNext
  refine wpAny_bind (wpAny_attempt (wpAny_callSpecial?_slot (name := Str.ofString "__next__") hj.typeIs F.slot_str_ascii_iterator_next (wpAny_call_entry F.slot_str_ascii_iterator_next hj.typeIs F.entry_str_ascii_iterator_next ?_ (F.args_str_ascii_iterator_next_1 _))))
  show wpAny _ _ (field (.ref j) 0 >>= _) _ _ s
  refine wpAny_bind (wpAny_field hb hd (x := .str z t) rfl ?_); show wpAny _ _ (field (.ref j) 1 >>= _) _ _ s
  refine wpAny_bind (wpAny_field hb hd (x := .int i 0) rfl ?_); simp only [Int.toNat_natCast, hx]
  refine wpAny_bind (wpAny_rule (wpAny_bind (wpAny_setField hb hd (by simp) (wpAny_bind (wpAny_letGo ?_))))); show wpAny _ _ (newExc (.type "StopIteration") [] >>= _) _ _ _
  refine wpAny_bind ?_; simp only [newExc, newTuple]
  refine wpAny_bind (wpAny_newObj_type ?_ (by size_fits)); refine wpAny_bind (m := firstArgMember _ _) (wpAny_of_eq (a := Value.none) (by first | rfl | (simp only [firstArgMember]; rfl)) ?_)
  refine wpAny_newObj_type ?_ (by size_fits)
  refine raiseNew_hot ⟨hh, o1, v1, Heap.get?_push_of_some _ (Heap.get?_push_of_some _ (g2 _)), e1, k1⟩ (Nat.ne_of_lt (Heap.lt_size (Heap.get?_push_of_some _ (g2 _)))) (Heap.get?_push_size _ rfl) rfl (by first | (simp; done) | (simp; omega) | (simp only [Array.size_append]; simp; omega)) ?_
  refine wpAny_bind (wpAny_isInstance (T := "StopIteration") (b := true) ⟨_, Heap.get?_update_self _ (Heap.get?_push_size _ rfl) rfl, rfl⟩ isSubtype_stop (wpAny_pure (q _ fun b o nb e => ?_)))
  have e3 : (s.heap.update j (Obj.mapFields (·.setIfInBounds 0 .none))).get? b = some o := (Heap.SameBut.update ..).extBut b o nb e
  rw [Heap.get?_update_other _ _ (Nat.ne_of_gt (Heap.lt_size (Heap.get?_push_of_some _ e3)))]; exact Heap.get?_push_of_some _ (Heap.get?_push_of_some _ e3)
theorem wid_end {j x1 : Addr} {z : Str} {t : Tok} {i : Nat} {Q : Option Value → Shared → Prop} (hot : HotAt A x1 s.heap) (hj : s.heap.IsStrIter j "str_iterator" z t i) (hx : z.cps[i]? = none) (q : ∀ h2, Heap.ExtBut j s.heap h2 → Q none { s with heap := h2 }) :
    wpAny (model prog w) A (pyNext (.ref j)) Q E s := by
  obtain ⟨ob, hb, hc, hd⟩ := id hj
  have hne := hot_ne hot hb hd (by simp)
  obtain ⟨hh, o1, v1, g1, e1, k1⟩ := hot
  have g2 : ∀ f, (s.heap.update j f).get? x1 = some o1 := fun f => by rw [Heap.get?_update_other _ _ hne.symm]; exact g1
  unfold pyNext
  refine wpAny_bind (wpAny_attempt (wpAny_callSpecial?_slot (name := Str.ofString "__next__") hj.typeIs F.slot_str_iterator_next (wpAny_call_entry F.slot_str_iterator_next hj.typeIs F.entry_str_iterator_next ?_ (F.args_str_iterator_next_1 _))))
  show wpAny _ _ (field (.ref j) 0 >>= _) _ _ s
  refine wpAny_bind (wpAny_field hb hd (x := .str z t) rfl ?_); show wpAny _ _ (field (.ref j) 1 >>= _) _ _ s
  refine wpAny_bind (wpAny_field hb hd (x := .int i 0) rfl ?_); simp only [Int.toNat_natCast, hx]
  refine wpAny_bind (wpAny_rule (wpAny_bind (wpAny_setField hb hd (by simp) (wpAny_bind (wpAny_letGo ?_))))); show wpAny _ _ (newExc (.type "StopIteration") [] >>= _) _ _ _
  refine wpAny_bind ?_; simp only [newExc, newTuple]
  refine wpAny_bind (wpAny_newObj_type ?_ (by size_fits)); refine wpAny_bind (m := firstArgMember _ _) (wpAny_of_eq (a := Value.none) (by first | rfl | (simp only [firstArgMember]; rfl)) ?_)
  refine wpAny_newObj_type ?_ (by size_fits)
  refine raiseNew_hot ⟨hh, o1, v1, Heap.get?_push_of_some _ (Heap.get?_push_of_some _ (g2 _)), e1, k1⟩ (Nat.ne_of_lt (Heap.lt_size (Heap.get?_push_of_some _ (g2 _)))) (Heap.get?_push_size _ rfl) rfl (by first | (simp; done) | (simp; omega) | (simp only [Array.size_append]; simp; omega)) ?_
  refine wpAny_bind (wpAny_isInstance (T := "StopIteration") (b := true) ⟨_, Heap.get?_update_self _ (Heap.get?_push_size _ rfl) rfl, rfl⟩ isSubtype_stop (wpAny_pure (q _ fun b o nb e => ?_)))
  have e3 : (s.heap.update j (Obj.mapFields (·.setIfInBounds 0 .none))).get? b = some o := (Heap.SameBut.update ..).extBut b o nb e
  rw [Heap.get?_update_other _ _ (Nat.ne_of_gt (Heap.lt_size (Heap.get?_push_of_some _ e3)))]; exact Heap.get?_push_of_some _ (Heap.get?_push_of_some _ e3)
end
section
variable {P : Program} {w : World} {K : PySem.W.Frag} {tg : Expr}
theorem turn_ascH (i0 : Addr) (z : Str) (t : Tok) : TurnH P w K tg (Its z) [i0] i0 (fun i h => h.IsStrIter i0 "str_ascii_iterator" z t i) :=
  { mem := List.mem_cons_self
    obj := fun i h st b hb => one_of hb fun e => by
      subst e
      obtain ⟨o, g, c, d⟩ := st
      exact ⟨o, g, fun v z => by rw [d] at z; cases z⟩
    keep := fun i h h2 st k => let ⟨o, g, r⟩ := st; ⟨o, k i0 List.mem_cons_self o g, r⟩
    item := fun X hP hw hK hc i pins s σ H E I hf st hg => by
      subst hP hw hK
      obtain ⟨f0, f1, f2, f3, f4, f5⟩ := hf i0 List.mem_cons_self
      have hz : z.cps[i]? = some (z.cps[i]'hg) := Array.getElem?_eq_getElem hg
      refine wpAny_pyNext_ascii_item st hz fun h2 st2 sb => ?_
      have I1 : Inv X pins σ H { s with heap := h2, toks := s.toks + 1 } := I.turned (fun b o nb e => (sb.2 b nb).trans e) f0 f1 f3 f4 f5
      obtain ⟨o, g, c, d⟩ := id st2
      exact ⟨_, rfl, go_of (s := { s with heap := h2, toks := s.toks + 1 }) g c d (by decide) ⟨.str ⟨#[z.cps[i]'hg]⟩, H, I1, ⟨_, rfl⟩, ⟨rfl, _, hz, rfl⟩, st2, fun b hb => (hf b hb).1⟩⟩
    done := fun X hP hw hK hc i pins s σ H E I hf st hg => by
      subst hP hw hK
      obtain ⟨f0, f1, f2, f3, f4, f5⟩ := hf i0 List.mem_cons_self
      obtain ⟨x1, hot⟩ := hc.at I
      exact asc_end hot st (Array.getElem?_eq_none hg) fun h2 eb => ⟨rfl, I.turned (t' := s.toks) (fun b o nb e => eb b o nb e) f0 f1 f3 f4 f5⟩
    self := fun _ _ _ _ _ st h => wpAny_pyIter_striter_ascii st h }
theorem turn_widH (i0 : Addr) (z : Str) (t : Tok) : TurnH P w K tg (Its z) [i0] i0 (fun i h => h.IsStrIter i0 "str_iterator" z t i) :=
  { mem := List.mem_cons_self
    obj := fun i h st b hb => one_of hb fun e => by
      subst e
      obtain ⟨o, g, c, d⟩ := st
      exact ⟨o, g, fun v z => by rw [d] at z; cases z⟩
    keep := fun i h h2 st k => let ⟨o, g, r⟩ := st; ⟨o, k i0 List.mem_cons_self o g, r⟩
    item := fun X hP hw hK hc i pins s σ H E I hf st hg => by
      subst hP hw hK
      obtain ⟨f0, f1, f2, f3, f4, f5⟩ := hf i0 List.mem_cons_self
      have hz : z.cps[i]? = some (z.cps[i]'hg) := Array.getElem?_eq_getElem hg
      refine wpAny_pyNext_wide_item st hz fun h2 st2 sb => ?_
      have I1 : Inv X pins σ H { s with heap := h2, toks := s.toks + 1 } := I.turned (fun b o nb e => (sb.2 b nb).trans e) f0 f1 f3 f4 f5
      obtain ⟨o, g, c, d⟩ := id st2
      exact ⟨_, rfl, go_of (s := { s with heap := h2, toks := s.toks + 1 }) g c d (by decide) ⟨.str ⟨#[z.cps[i]'hg]⟩, H, I1, ⟨_, rfl⟩, ⟨rfl, _, hz, rfl⟩, st2, fun b hb => (hf b hb).1⟩⟩
    done := fun X hP hw hK hc i pins s σ H E I hf st hg => by
      subst hP hw hK
      obtain ⟨f0, f1, f2, f3, f4, f5⟩ := hf i0 List.mem_cons_self
      obtain ⟨x1, hot⟩ := hc.at I
      exact wid_end hot st (Array.getElem?_eq_none hg) fun h2 eb => ⟨rfl, I.turned (t' := s.toks) (fun b o nb e => eb b o nb e) f0 f1 f3 f4 f5⟩
    self := fun _ _ _ _ _ st h => wpAny_pyIter_striter_wide st h }
end
section
variable {X : Cx} {tg : Expr}
theorem pi_strH {l : Expr} {tl : TE} (hl : PE X l tl) : PIH X tg l (iStr tl) :=
  ⟨fun pins s σ H R I h => thn (hl.run pins s σ H _ I h) fun v s1 z => by
    obtain ⟨y, H1, I1, r1, x, rfl, q⟩ := z
    obtain ⟨t, rfl⟩ := r1
    have ff : ∀ b ∈ [s1.heap.objs.size], FpOk X pins H1 b := fun b hb => one_of hb fun e => by
      subst e
      exact I1.fpOk (Nat.le_refl _) (I1.hok.fresh (Nat.le_refl _))
    cases ha : x.cps.all (· < 128)
    · exact wpAny_pyIter_wide ha ⟨s1.heap.objs.size, [s1.heap.objs.size], _, _, H1, rfl, I1.kept (t' := s1.toks) fun b o e => Heap.get?_push_of_some _ e, turn_widH _ x t, ⟨_, Heap.get?_push_size _ rfl, rfl, rfl⟩, ff, q⟩
    · exact wpAny_pyIter_ascii ha ⟨s1.heap.objs.size, [s1.heap.objs.size], _, _, H1, rfl, I1.kept (t' := s1.toks) fun b o e => Heap.get?_push_of_some _ e, turn_ascH _ x t, ⟨_, Heap.get?_push_size _ rfl, rfl, rfl⟩, ff, q⟩⟩
theorem walks_hot {prog : Program} {w : World} {A : Around} (x1 i0 a : Addr) (hx : x1 ≠ i0) (ha : a ≠ i0) (ys : Array Value) :
    Walks prog w A i0 [i0, a, x1] [i0] ys.size (fun i v => ys[i]? = some v) (fun i h => (h.IsListIter i0 a i ∧ h.IsList a ys) ∧ HotAt A x1 h) :=
  { sub := fun b hb => one_of hb fun e => by rw [e]; exact List.mem_cons_self
    frame := fun _ _ _ st k => ⟨⟨st.1.1.at fun o e => k i0 (by simp) o e, st.1.2.at fun o e => k a (by simp) o e⟩, HotAt.keep st.2 fun o e => k x1 (by simp) o e⟩
    item := fun i s Q E hi st q => wpAny_pyNext_list_item st.1.1 st.1.2 (x := ys[i]) (by simp [hi]) fun h2 t2 b2 =>
      q _ h2 s.toks (by simp [hi]) ⟨⟨t2, st.1.2.extBut b2.extBut ha⟩, HotAt.keep st.2 fun o e => b2.extBut x1 o hx e⟩ fun b o nb e => b2.extBut b o (fun z => nb (by simp [z])) e
    done := fun s Q E st q => list_end st.2 st.1.1 st.1.2 (by simp) fun h2 e2 => q h2 s.toks fun b o nb e => e2 b o (fun z => nb (by simp [z])) e
    self := fun _ _ _ _ st q => wpAny_pyIter_listiter st.1.1 q }
theorem cr_allH (hc : HotC X) : CallR X (.builtin "all") (rAll X.K) := by
  intro pins s σ H vs us Q I r h
  obtain ⟨a, bs, rfl, hs, q⟩ := h
  obtain ⟨its, rv, hl, _⟩ := I.list hs
  obtain ⟨x1, hot⟩ := hc.at I
  rw [Vals.ref1 r]
  have hb := rv.bls
  have lx : x1 < s.heap.objs.size := by obtain ⟨_, o, _, e, _⟩ := hot; exact Heap.lt_size e
  refine call_all_walk (iter_any hl.isList fun s2 e2 st hne => ?_)
  subst e2
  have hot2 : HotAt X.A.in1 x1 (s.heap.push { cls := .type "list_iterator", data := .fields #[.ref a, .int 0 0] }) := HotAt.keep hot fun o e => Heap.get?_push_of_some _ e
  refine ⟨_, _, _, _, _, _, _, rfl, walks_hot (A := X.A.in1) x1 _ a (Nat.ne_of_lt lx) hne its.toArray, ⟨st, hot2⟩, truth_bools hb, fun h' tk hk => ⟨.bl _, H, I.kept fun b o eo => hk b o (fun hm => one_of hm fun e => ?_) (Heap.get?_push_of_some _ eo), ?_, q⟩⟩
  · rw [e] at eo
    exact absurd (Heap.lt_size eo) (Nat.lt_irrefl _)
  · show Value.bool _ = Value.bool _
    rw [← L2.all_range, hb, List.size_toArray, List.length_map]
end
end HL

end
section
set_option Elab.async false
set_option linter.all false
set_option maxRecDepth 100000
set_option maxHeartbeats 4000000
/-! is_small, is_word, is_whole, is_mark while an exception is handled -/
namespace P5
open PySem PySem.Spec PySem.SeqAt PyProof.Rows L2
theorem okH {P : Program} {w : World} {K : PySem.W.Frag} {mg : Str → Option Value} {base : Heap} {x qual : Str} {st : Stmt} {f : Addr} {fd : FuncData} {N ps : List Str} {k : Nat} {sp : Sp} (F : Fun K x qual st f fd) (S : FnScope N ps (defScope st)) (len : ∀ vs H Q E, sp vs H Q E → vs.length = ps.length)
    (body : ∀ (cdv : Value) (A : Around) (outer : List Env) (s : Shared) (H : Hp) (vs : List V) (Q : VK) (E : XK) (p : Addr × Obj), L2H.HotC (L2H.cxH CX0 P w K mg base N qual (defScope st) f cdv A outer s H E p) → L2H.RoomH k (L2H.cxH CX0 P w K mg base N qual (defScope st) f cdv A outer s H E p).A → sp vs H Q E →
      ∃ t, PSs (L2H.cxH CX0 P w K mg base N qual (defScope st) f cdv A outer s H E p) (defBody st) t ∧ t { nx := fun _ H' => Q .non H', rt := Q } (L2.start N vs) H) : L2H.FnH P w K mg base CX0 (k + 1) f fd ps sp := by
  obtain ⟨oc, od, kV, doc, pm, an, cdv, ct, osl, rfl, lk, hcd⟩ := F.ex
  exact L2H.fn_ofH lk hcd S len fun A outer s H vs Q E p hot hr hsp => body cdv A outer s H vs Q E p ⟨p, hot, List.mem_cons_self⟩ hr hsp
theorem passH {X : Cx} : ∀ σ, PassesAt CX0 X σ ((fun _ => E0 : L2.St → XK) σ) := fun _ _ _ _ _ _ _ h => (show False from h).elim
section
variable {P : Program} {w : World} {K : PySem.W.Frag} {mg : Str → Option Value} {base : Heap} {aN aS : Addr}
theorem ok_smallH {f : Addr} {fd : FuncData} (F : Fun K "is_small" "is_small" sSmall f fd) : L2H.FnH P w K mg base CX0 1 f fd ["letter"] spSmall := by
  refine okH F scSmall (fun vs H Q E h => ?_) (fun cdv A outer s H vs Q E q0 hot hr h => ?_)
  · obtain ⟨x, rfl, _⟩ := h
    rfl
  obtain ⟨x, rfl, q⟩ := h
  refine ⟨_, pss_one (ps_ret (pe_chain op_le_str op_le_str pe_str (pv 0) pe_str)), ?_⟩
  refine ⟨_, rfl, _, _, rfl, rfl, _, rfl, ite2 (fun c => ?_) (fun c => ?_)⟩
  · refine ⟨_, _, rfl, rfl, ?_⟩
    have e : smallS x = !decide (("z" : Str).cps.toList < x.cps.toList) := by
      unfold smallS
      rw [c, Bool.true_and]
    rw [← e]
    exact q
  · have e : smallS x = false := by
      unfold smallS
      rw [Bool.eq_false_iff.mpr c, Bool.false_and]
    rw [← e]
    exact q
theorem ok_wordH {f f1 : Addr} {fd fd1 : FuncData} (F : Fun K "is_word" "is_word" sWord f fd) (T : KC K mg aN aS)
    (G1 : L2H.FnH P w K mg base CX0 1 f1 fd1 ["letter"] spSmall) (b1 : Binds K fd1 ["letter"] []) (k1 : PySem.W.keepIn K (.ref f1) = true) (m1 : mg "is_small" = some (.ref f1)) : L2H.FnH P w K mg base CX0 2 f fd ["thing"] spWord := by
  refine okH F scWord (fun vs H Q E h => ?_) (fun cdv A outer s H vs Q E q0 hot hr h => ?_)
  · obtain ⟨x, rfl, _⟩ := h
    rfl
  obtain ⟨x, rfl, hl, q⟩ := h
  obtain ⟨tk, gL⟩ := T.gL
  refine ⟨_, pss_cons (ps_if (PW.pt (pw_or (pt_not (pt_val (pe_callB call_isi rfl T.isi (by decide +kernel) (pa_cons (pv 0) (pa_cons (pe_strT T.str) pa_nil)))))
      (pw_or1 (pt_not (pt_chain op_le op_le pe_int (pe_callB call_len_str rfl T.len PySem.boot_len (pa_cons (pv 0) pa_nil)) (pe_glob (v := .int 10) rfl gL ⟨_, rfl⟩)))))) (pss_one (ps_ret pe_bl)) pss_nil)
    (pss_one (ps_ret (pe_and (pe_cmpR op_notIn_seq (pv 0) (pgl T.gN) (by rfl)) (pe_one (pe_callB (HL.cr_allH hot) rfl T.all (by decide +kernel) (pa_cons (HL.pe_lcH hot (own := [("letter", 1)]) (g := gName 1) scWord.nd (HL.pi_strH (pv 0))
      (blkOk_by (N := ["thing", "letter"]) (sc := defScope sWord) (by decide +kernel)) (fun _ _ _ _ _ _ _ => pg_name (i := 1) scWord.nd rfl (Or.inl rfl))
      (fun _ _ _ _ _ _ hot => L2H.pe_callH (E := fun _ => E0) G1 hr hot rfl m1 k1 b1 passH (pa_cons (pv 1) pa_nil))) pa_nil)))))), ?_⟩
  refine ⟨_, rfl, .str x, .ty "str", .type "str", .type "str", true, rfl, .ty _, .base (.str x), kit_ty (by decide +kernel), _, rfl, ?_⟩
  refine iteF ?_
  refine ⟨_, rfl, _, rfl, small_le (by omega), _, _, rfl, rfl, _, rfl, ite2 (fun c => ?_) (fun c => ?_)⟩
  · refine ⟨_, _, rfl, rfl, _, rfl, ?_⟩
    have c1 : 1 ≤ (x.length : Int) := of_decide_eq_true c
    cases c2 : decide ((x.length : Int) ≤ 10) with
    | false =>
      have c2' : ¬ x.length ≤ 10 := by
        have := of_decide_eq_false c2
        omega
      refine iteT ?_
      have e : wordB x = false := by
        unfold wordB
        rw [decide_eq_false c2', Bool.and_false, Bool.false_and, Bool.false_and]
      rw [← e]
      exact q H (Same.refl H)
    | true =>
      have c2' : x.length ≤ 10 := by
        have := of_decide_eq_true c2
        omega
      have c1' : 1 ≤ x.length := by omega
      refine iteF ?_
      have e : wordB x = (!noWord x && ((signs x).map smallS).all id) := by
        unfold wordB
        rw [decide_eq_true c1', decide_eq_true c2', Bool.true_and, Bool.true_and]
      refine ⟨_, rfl, _, _, rfl, .inr (T.tN _), rfl, rfl, !noWord x, rfl, ite2 (fun z => ?_) (fun z => ?_)⟩
      · refine ⟨_, rfl, x, rfl, fun D hN => lcS (((signs x).map smallS).map V.bl) (by simp [signs, Str.length]) (by omega) hN (fun i y cc H' Q' hc hy s k => ?_) fun H' s hL => ?_⟩
        · rw [List.getElem?_map, List.getElem?_map] at hy
          unfold signs at hy
          rw [List.getElem?_map, hc] at hy
          cases hy
          exact ⟨rfl, _, rfl, _, rfl, k H' (Same.refl H')⟩
        · refine ⟨D, _, rfl, SqL.of hL, ?_⟩
          have zz := q H' s
          rw [e, z, Bool.true_and] at zz
          exact zz
      · have zz := q H (Same.refl H)
        rw [e, Bool.eq_false_iff.mpr z, Bool.false_and] at zz
        exact zz
  · refine ⟨_, rfl, iteT ?_⟩
    have c1 : ¬ (1 : Int) ≤ (x.length : Int) := of_decide_eq_false (Bool.eq_false_iff.mpr c)
    have c1' : ¬ 1 ≤ x.length := by omega
    have e : wordB x = false := by
      unfold wordB
      rw [decide_eq_false c1', Bool.false_and, Bool.false_and, Bool.false_and]
    rw [← e]
    exact q H (Same.refl H)
theorem ok_wholeH {f : Addr} {fd : FuncData} (F : Fun K "is_whole" "is_whole" sWhole f fd) (T : KC K mg aN aS) : L2H.FnH P w K mg base CX0 1 f fd ["thing"] spWhole := by
  refine okH F scWhole (fun vs H Q E h => ?_) (fun cdv A outer s H vs Q E q0 hot hr h => ?_)
  · obtain ⟨x, rfl, _⟩ := h
    rfl
  obtain ⟨i, rfl, q⟩ := h
  refine ⟨_, pss_one (ps_ret (pe_and (pe_callB call_isi rfl T.isi (by decide +kernel) (pa_cons (pv 0) (pa_cons (pe_intT T.int) pa_nil)))
    (pe_one (pe_not (pe_callB call_isi rfl T.isi (by decide +kernel) (pa_cons (pv 0) (pa_cons (pe_boolT T.bool) pa_nil))))))), ?_⟩
  refine ⟨_, rfl, .int i, .ty "int", .type "int", .type "int", true, rfl, .ty _, .base (.int i), kit_ty (by decide +kernel), _, rfl, iteT ?_⟩
  exact ⟨_, rfl, .int i, .ty "bool", .type "int", .type "bool", false, rfl, .ty _, .base (.int i), kit_ty (by decide +kernel), _, rfl, q⟩
theorem ok_markH {f f1 : Addr} {fd fd1 : FuncData} (F : Fun K "is_mark" "is_mark" sMark f fd) (T : KC K mg aN aS)
    (G1 : L2H.FnH P w K mg base CX0 2 f1 fd1 ["thing"] spWord) (b1 : Binds K fd1 ["thing"] []) (k1 : PySem.W.keepIn K (.ref f1) = true) (m1 : mg "is_word" = some (.ref f1)) : L2H.FnH P w K mg base CX0 3 f fd ["thing"] spMark := by
  refine okH F scMark (fun vs H Q E h => ?_) (fun cdv A outer s H vs Q E q0 hot hr h => ?_)
  · obtain ⟨x, _, rfl, _⟩ := h
    rfl
  obtain ⟨x, hx, rfl, q⟩ := h
  refine ⟨_, pss_one (ps_ret (pe_or (L2H.pe_callH (E := fun _ => E0) G1 hr hot rfl m1 k1 b1 passH (pa_cons (pv 0) pa_nil)) (pe_or (pe_cmpR op_in_seq (pv 0) (pgl T.gS) (by rfl))
    (pe_one (pe_cmpR op_in_seq (pv 0) (pe_tup (pa_cons pe_str (pa_cons pe_str pa_nil))) (by rfl)))))), ?_⟩
  refine ⟨_, rfl, x, rfl, mrk_len x hx, fun H' s' => ⟨_, rfl, ?_⟩⟩
  cases e : wordB x with
  | true => exact iteT (q H' s')
  | false =>
    refine iteF ⟨_, rfl, aS, _, rfl, .inr (T.tS _), rfl, rfl, ?_⟩
    rw [if_neg Bool.false_ne_true]
    refine ⟨_, rfl, ?_⟩
    show ite (inV (.str x) (SGN.map V.str) = true) _ _
    rw [inV_strs]
    rcases mrk_sgn x hx e with h | h
    · rw [decide_eq_true h]
      exact iteT (q H' s')
    · by_cases h2 : x ∈ SGN
      · rw [decide_eq_true h2]
        exact iteT (q H' s')
      · rw [decide_eq_false h2]
        refine iteF ⟨_, rfl, (by show 2 ≤ sizeLine; decide), fun p hp => ?_⟩
        have s1 := Same.new hp (.tup (TWO.map V.str))
        refine ⟨p, TWO.map V.str, rfl, .inr (SqT.of upd_same), rfl, rfl, ?_⟩
        rw [if_neg Bool.false_ne_true, inV_strs, decide_eq_true h]
        exact q _ (s'.trans s1)
end
end P5

end
section
set_option Elab.async false
set_option linter.all false
set_option maxRecDepth 100000
set_option maxHeartbeats 4000000
/-! max(ints, default=d), also while an exception is handled -/
namespace HL
open PySem PySem.Spec PyProof.Rows L2 HotX L2H
/-- what must hold around so that a list's iterator ends -/
structure Ends1 (prog : Program) (w : World) (A : Around) (ex : List Addr) (Z : Heap → Prop) : Prop where
  keep : ∀ h h' : Heap, Z h → (∀ b ∈ ex, ∀ o, h.get? b = some o → h'.get? b = some o) → Z h'
  old : ∀ h : Heap, Z h → ∀ b ∈ ex, b < h.objs.size
  fin : ∀ (s : Shared) (j t : Addr) (i : Nat) (ys : Array Value) (Q : Option Value → Shared → Prop) (E : Value → Shared → Prop), Z s.heap → s.heap.IsListIter j t i → s.heap.IsList t ys → ys[i]? = none → (∀ h2, Heap.ExtBut j s.heap h2 → Q none { s with heap := h2 }) → wpAny (model prog w) A (pyNext (.ref j)) Q E s
theorem ends_cold {prog : Program} {w : World} {A : Around} (hh : A.handled = none) : Ends1 prog w A [] (fun _ => True) :=
  ⟨fun _ _ _ _ => trivial, fun _ _ b hb => (by cases hb), fun s j t i ys Q E _ h1 h2 h3 q => wpAny_pyNext_list_end hh h1 h2 h3 q⟩
theorem ends_hot {prog : Program} {w : World} {A : Around} (x1 : Addr) : Ends1 prog w A [x1] (HotAt A x1) :=
  ⟨fun _ _ z k => HotAt.keep z fun o e => k x1 List.mem_cons_self o e, fun h z b hb => (by
    obtain ⟨_, o, _, e, _⟩ := z
    rw [List.mem_singleton.mp hb]
    exact Heap.lt_size e), fun s j t i ys Q E z h1 h2 h3 q => list_end z h1 h2 h3 q⟩
theorem mv_list {prog : Program} {w : World} {A : Around} {ex : List Addr} {Z : Heap → Prop} (N : Ends1 prog w A ex Z) (i0 a : Addr) (ha : a ≠ i0) (hx : i0 ∉ ex) (ys : Array Value) :
    WalksS prog w A i0 (i0 :: a :: ex) [i0] Eq ys.size (fun i v => ys[i]? = some v) (fun i s => (s.heap.IsListIter i0 a i ∧ s.heap.IsList a ys) ∧ Z s.heap) where
  sub := fun b hb => by rw [List.mem_singleton.mp hb]; exact List.mem_cons_self
  grefl := fun _ => rfl
  gtrans := fun _ _ _ h1 h2 => h1.trans h2
  frame := fun i s h' tk st _ k => ⟨⟨st.1.1.at fun o e => k i0 (by simp) o e, st.1.2.at fun o e => k a (by simp) o e⟩, N.keep _ _ st.2 fun b hb o e => k b (by simp [hb]) o e⟩
  item := fun i s Q E hi st q => wpAny_pyNext_list_item st.1.1 st.1.2 (x := ys[i]) (by simp [hi]) fun h2 t2 b2 =>
    q _ { s with heap := h2 } (by simp [hi]) ⟨⟨t2, st.1.2.extBut b2.extBut ha⟩, N.keep _ _ st.2 fun b hb o e => b2.extBut b o (fun z => hx (z ▸ hb)) e⟩ ⟨fun b o nb e => b2.extBut b o (fun z => nb (by simp [z])) e, rfl, rfl, rfl, Nat.le_refl _⟩
  done := fun s Q E st q => N.fin s i0 a _ ys Q E st.2 st.1.1 st.1.2 (by simp) fun h2 e2 => q { s with heap := h2 } ⟨fun b o nb e => e2 b o (fun z => nb (by simp [z])) e, rfl, rfl, rfl, Nat.le_refl _⟩
  self := fun i s Q E st q => wpAny_pyIter_listiter st.1.1 q
theorem mx_raw {prog : Program} {w : World} {A : Around} {E : Value → Shared → Prop} {s : Shared} {l : Addr} {its : List Value} {ns : List Int} {d : Value} {ex : List Addr} {Z : Heap → Prop} {Q : Value → Shared → Prop} (N : Ends1 prog w A.in1 ex Z) (hZ : Z s.heap)
    (hl : s.heap.IsList l its.toArray) (hi : IntsAre its ns) (h0 : ns = [] → ∀ h' tk, (∀ b o, s.heap.get? b = some o → h'.get? b = some o) → Q d { s with heap := h', toks := tk })
    (h : ∀ h' tk M t', (∀ b o, s.heap.get? b = some o → h'.get? b = some o) → M ∈ ns → (∀ a, a ∈ ns → a ≤ M) → Q (.int M t') { s with heap := h', toks := tk }) : wpAny (model prog w) A (call (.builtin "max") [.ref l] [(Str.ofString "default", d)]) Q E s := by
  obtain ⟨xs, e⟩ := hi.allInts.items
  have hn : numsOf (intItems xs).toList = ns := by rw [← e]; exact hi.numsOf
  rw [nums_intItems] at hn
  subst hn
  rw [e] at hl
  refine call_max_walkD (iter_any hl fun s2 e2 st hne => ?_)
  subst e2
  have keepZ : Z (s.heap.push { cls := .type "list_iterator", data := .fields #[.ref l, .int 0 0] }) := N.keep _ _ hZ fun b _ o eo => Heap.get?_push_of_some _ eo
  have hold : ∀ {s' : Shared}, Moved [s.heap.objs.size] Eq { s with heap := s.heap.push { cls := .type "list_iterator", data := .fields #[.ref l, .int 0 0] } } s' → (∀ b o, s.heap.get? b = some o → s'.heap.get? b = some o) ∧ s' = { s with heap := s'.heap, toks := s'.toks } := fun {s'} hm => by
    refine ⟨fun b o eo => hm.heap b o (fun hb => ?_) (Heap.get?_push_of_some _ eo), ?_⟩
    · rw [List.mem_singleton.mp hb] at eo
      exact absurd (Heap.lt_size eo) (Nat.lt_irrefl _)
    · obtain ⟨h', g', d', t', o'⟩ := s'
      have e1 : s.gens = g' := hm.gens
      have e2 : d' = s.drawn := hm.drawn
      have e3 : o' = s.os := hm.os
      subst e1 e2 e3
      rfl
  have lt : l < s.heap.objs.size := by obtain ⟨_, e1, _⟩ := hl; exact Heap.lt_size e1
  have old := N.old _ hZ
  refine ⟨_, _, _, _, _, _, _, ({} : Heap), fun i j => decide (numAt xs i > numAt xs j), rfl, mv_list N s.heap.objs.size l hne (fun hm => Nat.lt_irrefl _ (old _ hm)) (intItems xs), ⟨st, keepZ⟩, fun b hb => ?_, fun b o eo => ?_, fun b o eo => ?_, fun hn s' hm => ?_, fun hn => ⟨fun i j vi vj s1 Q1 E1 _ hvi hvj hq => CmpOf.ints_gt (numAt xs) (fun _ _ => intItems_at) i j vi vj s1 Q1 E1 hvi hvj hq, fun v s' hP hm => ?_⟩⟩
  · show b < (s.heap.push _).objs.size
    rw [Heap.size_push]
    rcases List.mem_cons.mp hb with z | hb
    · rw [z]; exact Nat.lt_succ_self _
    · rcases List.mem_cons.mp hb with z | hb
      · rw [z]; exact Nat.lt_succ_of_lt lt
      · exact Nat.lt_succ_of_lt (old b hb)
  · exact absurd (Heap.lt_size eo) (Nat.not_lt_zero _)
  · exact absurd (Heap.lt_size eo) (Nat.not_lt_zero _)
  · obtain ⟨k1, k2⟩ := hold hm
    rw [k2]
    refine h0 ?_ s'.heap s'.toks k1
    have hz : xs.size = 0 := by simpa [intItems] using hn
    rw [Array.eq_empty_of_size_eq_zero hz]
    rfl
  · obtain ⟨k1, k2⟩ := hold hm
    obtain ⟨t, rfl⟩ := intItems_at hP
    have hsz : 0 < xs.size := by simpa [intItems] using hn
    have hsz2 : (intItems xs).size = xs.size := by simp [intItems]
    obtain ⟨h1, h2⟩ := argBest_gt (numAt xs) ((intItems xs).size - 1)
    rw [k2]
    refine h s'.heap s'.toks _ t k1 ?_ fun a ha => ?_
    · rw [numAt_eq]; exact PySem.getD_mem (by rw [List.length_map, Array.length_toList]; omega)
    · obtain ⟨j, hj, rfl⟩ := mem_getD ha
      rw [List.length_map, Array.length_toList] at hj
      rw [← numAt_eq]; exact h2 j (by omega)
/-- the greatest of ints, or d if there is none -/
def rMxD (K : PySem.W.Frag) : List V → List V → Hp → VK → Prop := fun vs zs H Q => ∃ (a : Addr) (ns : List Int) (d : Int), vs = [.ref a] ∧ zs = [.int d] ∧ SqL K H a (ns.map V.int) ∧ ∀ m : Int, (ns = [] → m = d) → (ns ≠ [] → m ∈ ns) → (∀ y ∈ ns, y ≤ m) → Q (.int m) H
section
variable {X : Cx}
theorem mx_call {ex : List Addr} {Z : Heap → Prop} {pins : List (Addr × Obj)} {s : Shared} {σ : L2.St} {H : Hp} {xs zs : List V} {us ws : List Value} {Q : VK} (N : Ends1 X.prog X.w X.A.in1 ex Z) (hZ : Z s.heap) (I : Inv X pins σ H s) (r : Vals xs us) (r2 : Vals zs ws) (h : rMxD X.K xs zs H Q) :
    wpAny (model X.prog X.w) X.A (call (.builtin "max") us ([("default" : Str)].zip ws)) (EP X pins σ Q) X.xe s := by
  obtain ⟨a, ns, d, rfl, rfl, hs, q⟩ := h
  obtain ⟨its, rv, hl, _⟩ := I.list hs
  rw [Vals.ref1 r]
  obtain ⟨u, rfl, ru⟩ := r2.one
  obtain ⟨t, rfl⟩ : ∃ t, u = Value.int d t := ru
  refine mx_raw N hZ hl.isList rv.ints (fun e h' tk k => ⟨.int d, H, I.kept k, ⟨_, rfl⟩, q d (fun _ => rfl) (fun z => absurd e z) (fun y hy => by rw [e] at hy; cases hy)⟩) fun h' tk M t' k h1 h2 => ⟨.int M, H, I.kept k, ⟨_, rfl⟩, q M (fun z => by rw [z] at h1; cases h1) (fun _ => h1) h2⟩
theorem cr_mxD (hc : X.calm = true) : CallRK X (.builtin "max") ["default"] (rMxD X.K) :=
  fun pins s σ H xs zs us ws Q I r r2 h => mx_call (ends_cold (A := X.A.in1) (I.ok.hd hc)) trivial I r r2 h
theorem cr_mxDH (hc : HotC X) : CallRK X (.builtin "max") ["default"] (rMxD X.K) := fun pins s σ H xs zs us ws Q I r r2 h => by
  obtain ⟨x1, hot⟩ := hc.at I
  exact mx_call (ends_hot x1) hot I r r2 h
end
end HL

end
section
set_option Elab.async false
set_option linter.all false
set_option maxRecDepth 100000
set_option maxHeartbeats 4000000
/-! zip of two tuples while an exception is handled -/
namespace HL
open PySem PySem.Spec PyProof.Rows L2 HotX L2H RZ
section
variable {prog : Program} {w : World} {A : Around} {E : Value → Shared → Prop} {s : Shared}
theorem nx_tupH {j t x1 : Addr} {i : Nat} {ys : Array Value} {Q : Value → Shared → Prop} (hot : HotAt A x1 s.heap) (hj : s.heap.IsTupleIter j t i) (ht : s.heap.IsTuple t ys) (hx : ys[i]? = none)
    (q : ∀ h2 e, Heap.ExtBut j s.heap h2 → (∃ o, h2.get? e = some o ∧ o.cls = .type "StopIteration") → E (.ref e) { s with heap := h2 }) : wpAny (model prog w) A (Builtin.SmallTypes.nextOf (.ref j)) Q E s := by
  obtain ⟨ob, hb, hc, hd⟩ := id hj
  obtain ⟨ot, got, _, nt, hdt⟩ := ht
  have hne := hot_ne hot hb hd (by simp)
  obtain ⟨hh, o1, v1, g1, e1, k1⟩ := hot
  unfold Builtin.SmallTypes.nextOf
  refine wpAny_bind (wpAny_callSpecial?_slot (name := Str.ofString "__next__") hj.typeIs F.slot_tuple_iterator_next (wpAny_call_entry F.slot_tuple_iterator_next hj.typeIs F.entry_tuple_iterator_next ?_ (F.args_tuple_iterator_next_1 _)))
  show wpAny _ _ (field (.ref j) 0 >>= _) _ _ s
  refine wpAny_bind (wpAny_field hb hd (x := .ref t) rfl ?_)
  show wpAny _ _ (if (Value.ref t == Value.none) = true then _ else _) _ _ s
  rw [if_neg (show ¬ (Value.ref t == Value.none) = true by exact Bool.false_ne_true)]
  show wpAny _ _ (field (.ref j) 1 >>= _) _ _ s
  refine wpAny_bind (wpAny_field hb hd (x := .int i 0) rfl ?_)
  show wpAny _ _ (seqItems? (.ref t) >>= _) _ _ s
  refine wpAny_bind (wpAny_seqItems got hdt ?_); simp only [Int.toNat_natCast, hx]
  refine wpAny_bind (wpAny_rule (wpAny_bind (wpAny_setField hb hd (by simp) ?_))); show wpAny _ _ (newExc (.type "StopIteration") [] >>= _) _ _ _
  have g2 : (s.heap.update j (Obj.mapFields (·.setIfInBounds 0 .none))).get? x1 = some o1 := by rw [Heap.get?_update_other _ _ hne.symm]; exact g1
  have eb : Heap.ExtBut j s.heap (s.heap.update j (Obj.mapFields (·.setIfInBounds 0 .none))) := (Heap.SameBut.update ..).extBut
  generalize s.heap.update j (Obj.mapFields (·.setIfInBounds 0 .none)) = h9 at *
  refine wpAny_bind ?_; simp only [newExc, newTuple]
  refine wpAny_bind (wpAny_newObj_type ?_ (by size_fits)); refine wpAny_bind (m := firstArgMember _ _) (wpAny_of_eq (a := Value.none) (by first | rfl | (simp only [firstArgMember]; rfl)) ?_)
  refine wpAny_newObj_type ?_ (by size_fits)
  refine raiseNew_hot ⟨hh, o1, v1, Heap.get?_push_of_some _ (Heap.get?_push_of_some _ g2), e1, k1⟩ (Nat.ne_of_lt (Heap.lt_size (Heap.get?_push_of_some _ g2))) (Heap.get?_push_size _ rfl) rfl (by first | (simp; done) | (simp; omega) | (simp only [Array.size_append]; simp; omega)) ?_
  refine q _ _ (fun b o nb e => ?_) ⟨_, Heap.get?_update_self _ (Heap.get?_push_size _ rfl) rfl, rfl⟩
  have e3 := eb b o nb e
  rw [Heap.get?_update_other _ _ (Nat.ne_of_gt (Heap.lt_size (Heap.get?_push_of_some _ e3)))]; exact Heap.get?_push_of_some _ (Heap.get?_push_of_some _ e3)
theorem hot_apart {x1 b : Addr} {o : Obj} (hot : HotAt A x1 s.heap) (ho : s.heap.get? b = some o) (hd : ∀ vs, o.data = .fields vs → vs[2]? ≠ some .none) : x1 ≠ b := fun e => by
  obtain ⟨_, o1, v1, g1, e1, k1⟩ := hot
  rw [e, ho] at g1; cases g1
  exact hd _ e1 k1
theorem zip_endH {z TI TO i1 i2 l1 l2 x1 : Addr} {k1 k2 : Nat} {xs ys : Array Value} {a b : Value} {Q : Option Value → Shared → Prop} (hot : HotAt A x1 s.heap) (D : ZipApart z TI TO i1 i2 l1 l2)
    (hz : IsZip s.heap z TI TO .none) (hTI : IsPair s.heap TI (.ref i1) (.ref i2)) (hTO : IsPair s.heap TO a b)
    (h1 : s.heap.IsTupleIter i1 l1 k1) (h2 : s.heap.IsTupleIter i2 l2 k2) (hl1 : s.heap.IsTuple l1 xs) (hl2 : s.heap.IsTuple l2 ys) (hend : xs[k1]? = none ∨ ys[k2]? = none)
    (hQ : ∀ h', (∀ c o, c ≠ z → c ≠ TO → c ≠ i1 → c ≠ i2 → s.heap.get? c = some o → h'.get? c = some o) → Q none { s with heap := h' }) : wpAny (model prog w) A (pyNext (.ref z)) Q E s := by
  have hT : s.TypeIs (.ref z) "zip" := ⟨_, hz, rfl⟩
  have nz : x1 ≠ z := hot_apart hot hz fun vs e k => by cases e; cases k
  have nTO : x1 ≠ TO := hot_apart hot hTO fun vs e k => by cases e
  have n1 : x1 ≠ i1 := by obtain ⟨o, g, _, d⟩ := h1; exact hot_ne hot g d (by simp)
  have n2 : x1 ≠ i2 := by obtain ⟨o, g, _, d⟩ := h2; exact hot_ne hot g d (by simp)
  unfold pyNext
  have go : ∀ (h' : Heap) (e : Addr), (∀ c o, c ≠ z → c ≠ TO → c ≠ i1 → c ≠ i2 → s.heap.get? c = some o → h'.get? c = some o) → (∃ o, h'.get? e = some o ∧ o.cls = .type "StopIteration") →
      wpAny (model prog w) A (isInstance (.ref e) (.type "StopIteration") >>= fun r => if r = true then pure none else throw (.ref e)) Q E { s with heap := h' } := fun h' e hk he => by
    obtain ⟨o, ho, hc⟩ := he
    exact wpAny_bind (wpAny_isInstance (T := "StopIteration") (b := true) ⟨o, ho, hc⟩ isSubtype_stop (wpAny_pure (hQ _ hk)))
  refine wpAny_bind (wpAny_attempt (wpAny_callSpecial?_slot (name := Str.ofString "__next__") hT F.slot_zip_next (wpAny_call_entry F.slot_zip_next hT F.entry_zip_next ?_ (F.args_zip_next_1 _))))
  show wpAny _ _ (field (.ref z) 2 >>= _) _ _ _
  refine wpAny_bind (wpAny_field hz rfl (x := .bool false) rfl ?_)
  show wpAny _ _ (field (.ref z) 3 >>= _) _ _ _
  refine wpAny_bind (wpAny_field hz rfl (x := .ref TI) rfl (wpAny_bind (wpAny_seqItems hTI rfl ?_)))
  show wpAny _ _ (Builtin.SmallTypes.ownedTupleIsFree (.ref z) >>= _) _ _ _
  refine wpAny_bind ?_
  unfold Builtin.SmallTypes.ownedTupleIsFree
  refine wpAny_bind (wpAny_field hz rfl (x := .none) rfl (wpAny_pure ?_))
  simp only [if_true]
  refine wpAny_bind (wpAny_rule (wpAny_bind (wpAny_field hz rfl (x := .ref TO) rfl (wpAny_bind (wpAny_setField_rec hz (by simp) fun h3 hz3 hs3 => ?_)))))
  replace hz3 : IsZip h3 z TI TO .ellipsis := hz3
  have hot3 : HotAt A x1 h3 := HotAt.keep hot fun o e => hs3.extBut x1 o nz e
  refine wpAny_bind ?_
  simp only [List.zipIdx_cons, List.zipIdx_nil, List.forIn_cons, List.forIn_nil]
  refine wpAny_bind (wpAny_bind (wpAny_onRaise ?_))
  show wpAny _ _ (Builtin.SmallTypes.nextOf (.ref i1) >>= _) _ _ _
  cases hx : xs[k1]? with
  | none =>
    refine wpAny_bind (nx_tupH (x1 := x1) hot3 (h1.extBut hs3.extBut D.i1z) (hl1.extBut hs3.extBut D.l1z) hx fun h4 e hs4 he => ?_)
    obtain ⟨oe, hoe, hce⟩ := he
    have hz4 : IsZip h4 z TI TO .ellipsis := hs4 _ _ D.i1z.symm hz3
    have hez : e ≠ z := fun x => by subst x; rw [hz4] at hoe; cases hoe; simp at hce
    exact wpAny_setField_rec hz4 (by simp) fun h5 _ hs5 => go h5 e (fun c o c1 _ c3 _ x => hs5.extBut _ _ c1 (hs4 _ _ c3 (hs3.extBut _ _ c1 x))) ⟨oe, hs5.extBut _ _ hez hoe, hce⟩
  | some x =>
    have hy : ys[k2]? = none := hend.elim (fun h => by rw [hx] at h; cases h) id
    refine wpAny_bind (nextOf_tuple_item (h1.extBut hs3.extBut D.i1z) (hl1.extBut hs3.extBut D.l1z) hx fun h4 h14 hs4 => wpAny_pure ?_)
    have hTO4 : IsPair h4 TO a b := hs4.extBut _ _ D.TOi1 (hs3.extBut _ _ D.TOz hTO)
    have hot4 : HotAt A x1 h4 := HotAt.keep hot3 fun o e => hs4.extBut x1 o n1 e
    refine wpAny_bind (wpAny_seqItems hTO4 rfl (wpAny_bind (wpAny_updateSeq_pair hTO4 fun h5 hTO5 hs5 => wpAny_bind (wpAny_letGo (wpAny_pure ?_)))))
    have hot5 : HotAt A x1 h5 := HotAt.keep hot4 fun o e => hs5.extBut x1 o nTO e
    refine wpAny_bind (wpAny_bind (wpAny_onRaise ?_))
    show wpAny _ _ (Builtin.SmallTypes.nextOf (.ref i2) >>= _) _ _ _
    refine wpAny_bind (nx_tupH (x1 := x1) hot5 (((h2.extBut hs3.extBut D.i2z).extBut hs4.extBut D.i12.symm).extBut hs5.extBut D.TOi2.symm) (((hl2.extBut hs3.extBut D.l2z).extBut hs4.extBut D.l2i1).extBut hs5.extBut D.l2TO) hy fun h6 e hs6 he => ?_)
    obtain ⟨oe, hoe, hce⟩ := he
    have hz6 : IsZip h6 z TI TO .ellipsis := hs6 _ _ D.i2z.symm (hs5.extBut _ _ D.TOz.symm (hs4.extBut _ _ D.i1z.symm hz3))
    have hez : e ≠ z := fun x => by subst x; rw [hz6] at hoe; cases hoe; simp at hce
    exact wpAny_setField_rec hz6 (by simp) fun h7 _ hs7 => go h7 e (fun c o c1 c2 c3 c4 x => hs7.extBut _ _ c1 (hs6 _ _ c4 (hs5.extBut _ _ c2 (hs4.extBut _ _ c3 (hs3.extBut _ _ c1 x))))) ⟨oe, hs7.extBut _ _ hez hoe, hce⟩
end
theorem turn_zipTH {P : Program} {w : World} {K : PySem.W.Frag} {elts : List Expr} {kk : Nat} {tpos : Pos} {a b z TI TO i1 i2 : Addr} (D : ZipApart z TI TO i1 i2 a b) :
    TurnH P w K (.Tuple elts kk tpos) (ItzT K a b) [z, TI, TO, i1, i2] z (fun i h => IsZip h z TI TO .none ∧ IsPair h TI (.ref i1) (.ref i2) ∧ (∃ x y, IsPair h TO x y) ∧ h.IsTupleIter i1 a i ∧ h.IsTupleIter i2 b i) where
  mem := (turn_zipT (P := P) (w := w) (K := K) (elts := elts) (kk := kk) (tpos := tpos) D).mem
  obj := (turn_zipT (P := P) (w := w) (K := K) (elts := elts) (kk := kk) (tpos := tpos) D).obj
  keep := (turn_zipT (P := P) (w := w) (K := K) (elts := elts) (kk := kk) (tpos := tpos) D).keep
  item := by
    intro X hP hw hK _ i pins s σ H E I hf st ⟨xs, ys, x, y, hqx, hqy, hx, hy⟩
    subst hP hw hK
    obtain ⟨gz, gTI, ⟨x0, y0, gTO⟩, j1, j2⟩ := st
    obtain ⟨us, rx, px, _⟩ := I.tuple hqx
    obtain ⟨vs, ry, py, _⟩ := I.tuple hqy
    obtain ⟨u, hu, ru⟩ := rx.get hx
    obtain ⟨v, hv, rv⟩ := ry.get hy
    have lz : z < s.heap.objs.size := Heap.lt_size gz
    have lall : ∀ c ∈ [z, TI, TO, i1, i2], c < s.heap.objs.size := fun c hc => by
      have e : c = z ∨ c = TI ∨ c = TO ∨ c = i1 ∨ c = i2 := by simpa using hc
      obtain ⟨o1, g1, _⟩ := j1
      obtain ⟨o2, g2, _⟩ := j2
      exact e.elim (fun q => q ▸ lz) fun e => e.elim (fun q => q ▸ Heap.lt_size gTI) fun e => e.elim (fun q => q ▸ Heap.lt_size gTO) fun e => e.elim (fun q => q ▸ Heap.lt_size g1) fun q => q ▸ Heap.lt_size g2
    refine pyNext_zipT_item D gz gTI gTO j1 j2 px py (x := u) (y := v) (by simpa using hu) (by simpa using hv) fun h2 z2 TO2 j12 j22 T2 sz2 k2 => ⟨_, rfl, wpAny_letOwnedTupleGo_zip (s := { s with heap := h2 }) z2 fun h3 z3 sb => ?_⟩
    have up : ∀ {c o}, c ≠ z → h2.get? c = some o → h3.get? c = some o := fun {c o} n e => (sb.2 c n).trans e
    have T3 := up (Nat.ne_of_gt lz) T2
    have fresh : H s.heap.objs.size = none := I.hok.fresh (Nat.le_refl _)
    have I3 : Inv X pins σ (upd H s.heap.objs.size (.tup [x, y])) { s with heap := h3 } := by
      refine I.turnedNew (t' := s.toks) (ch := [z, TI, TO, i1, i2]) (fun c o hb q => ?_) hf (Nat.le_refl _) ⟨by show 2 ≤ sizeLine; decide, [u, v], .cons ru (.cons rv .nil), ⟨_, T3, rfl, _, rfl⟩⟩
      have n : ∀ e ∈ [z, TI, TO, i1, i2], c ≠ e := fun e he q' => hb (q' ▸ he)
      exact up (n z (by simp)) (k2 c o (n z (by simp)) (n TO (by simp)) (n i1 (by simp)) (n i2 (by simp)) q)
    refine ⟨.ref s.heap.objs.size, _, I3, rfl, ⟨_, x, y, rfl, fresh, rfl, fun l hl => (I.tuple_inj hl hqx) ▸ hx, fun l hl => (I.tuple_inj hl hqy) ▸ hy⟩, ⟨z3, up D.TIz (k2 _ _ D.TIz D.TITO D.TIi1 D.TIi2 gTI), ⟨u, v, up D.TOz TO2⟩, j12.at fun o q => up D.i1z q, j22.at fun o q => up D.i2z q⟩, fun c hc => ?_⟩
    rw [upd_ne (Nat.ne_of_lt (lall c hc))]
    exact (hf c hc).1
  done := by
    intro X hP hw hK hc i pins s σ H E I hf st hg
    subst hP hw hK
    obtain ⟨hz, hTI, ⟨x0, y0, hTO⟩, h1, h2⟩ := st
    obtain ⟨xs, ys, hqx, hqy, hend⟩ := hg
    obtain ⟨its, rv, p, _⟩ := I.tuple hqx
    obtain ⟨its2, rv2, p2, _⟩ := I.tuple hqy
    have l1 := rv.length
    have l2 := rv2.length
    have he : its.toArray[i]? = none ∨ its2.toArray[i]? = none := hend.elim (fun q => .inl (by simp; omega)) fun q => .inr (by simp; omega)
    obtain ⟨x1, hot⟩ := hc.at I
    exact zip_endH hot D hz hTI hTO h1 h2 p p2 he fun h' hk => ⟨rfl, I.turnedL (t' := s.toks) (ch := [z, TI, TO, i1, i2]) (fun c o hb q =>
      hk c o (fun q' => hb (by simp [q'])) (fun q' => hb (by simp [q'])) (fun q' => hb (by simp [q'])) (fun q' => hb (by simp [q'])) q) hf⟩
  self := (turn_zipT (P := P) (w := w) (K := K) (elts := elts) (kk := kk) (tpos := tpos) D).self
section
variable {X : Cx}
/-- zip of two tuples -/
def iZipT (K : PySem.W.Frag) (ta : TA) : TI := fun σ H R => ta σ H fun vs H1 => ∃ a b xs ys, vs = [.ref a, .ref b] ∧ SqT K H1 a xs ∧ SqT K H1 b ys ∧ R (ItzT K a b) H1
theorem pi_zipTH {e e2 : Expr} {ta : TA} {p pos tpos : Pos} {elts : List Expr} {kk : Nat} (hg : Gl X "zip") (hm : X.mg "zip" = none) (ha : PA X [e, e2] ta)
    (hs : starEach [e, e2] X.env = (false, eval e X.env) :: starEach [e2] X.env := by rfl) (hpl : (backTo pos (starEach [e2] X.env)).any (·.1) = false := by rfl) :
    PIH X (.Tuple elts kk tpos) (.Call (.Name "zip" p) [e, e2] [] pos) (iZipT X.K ta) :=
  ⟨fun pins s σ H R I h => Call_ (ld_blt I hg hm PyProof.Rows.boot_zip (PyProof.Rows.callWith_type1 (thn (ha.run pos pins s σ H _ I h) fun us s1 ⟨vs, H1, I1, r1, q1⟩ => by
    obtain ⟨a, b, xs, ys, rfl, hx, hy, q⟩ := q1
    obtain ⟨va, r, rfl, ra, rr⟩ : ∃ va r, us = va :: r ∧ RelV (.ref a) va ∧ Vals [.ref b] r := by cases r1 with | cons r rr => exact ⟨_, _, rfl, r, rr⟩
    obtain rfl : va = Value.ref a := ra
    obtain rfl := Vals.ref1 rr
    obtain ⟨its, rv, p1, _⟩ := I1.tuple hx
    obtain ⟨its2, rv2, p2, _⟩ := I1.tuple hy
    obtain ⟨o1, g1, _⟩ := id p1
    obtain ⟨o2, g2, _⟩ := id p2
    have new5 : ∀ c ∈ [s1.heap.objs.size + 4, s1.heap.objs.size + 2, s1.heap.objs.size + 3, s1.heap.objs.size, s1.heap.objs.size + 1], FpOk X pins H1 c := fun c hc => by
      have hle : s1.heap.objs.size ≤ c := by simp at hc; omega
      exact I1.fpOk hle (I1.hok.fresh hle)
    refine call_zipT (show s1.heap.IsTuple a its.toArray from p1) (show s1.heap.IsTuple b its2.toArray from p2) fun h' hz hTI hTO k1 k2 hsz hk => wpAny_pyIter_zip hz ?_
    exact ⟨s1.heap.objs.size + 4, [s1.heap.objs.size + 4, s1.heap.objs.size + 2, s1.heap.objs.size + 3, s1.heap.objs.size, s1.heap.objs.size + 1], _, _, H1, rfl, I1.kept (t' := s1.toks) hk, turn_zipTH (PySem.W.ktu_apart s1.heap.objs.size a b (Heap.lt_size g1) (Heap.lt_size g2)), ⟨hz, hTI, ⟨_, _, hTO⟩, k1, k2⟩, new5, q⟩) hs hpl))⟩
end
end HL

end
section
set_option Elab.async false
set_option linter.all false
set_option maxRecDepth 100000
set_option maxHeartbeats 4000000
namespace P5
open PySem PySem.Spec PySem.SeqAt PyProof.Rows L2
theorem hu64H {A : Around} {k : Nat} (hr : L2H.RoomH k A) : A.units + 64 < cLine := by have := hr.un; omega
section
variable {P : Program} {w : World} {K : PySem.W.Frag} {mg : Str → Option Value} {base : Heap} {aN aS CE CP CB : Addr}
abbrev sIsCh : Stmt := tp 29
abbrev NIsCh : List Str := ["thing", "first", "last", "words", "word"]
theorem scIsCh : FnScope NIsCh ["thing"] (defScope sIsCh) := ⟨rfl, rfl, rfl, by decide +kernel, rfl, by decide +kernel, by decide +kernel⟩
def spIsCh (K : PySem.W.Frag) : Sp := fun vs H Q _ => ∃ (v : V) (e : Ed), vs = [v] ∧ ChV K H v e ∧ e.Ok ∧ (e.a < e.b ∨ e.ws ≠ []) ∧ ∀ H', Same H H' → Q (.bl true) H'

theorem ok_isch {f fw fm : Addr} {fd fdw fdm : FuncData} (F : Fun K "is_change" "is_change" sIsCh f fd) (B : BN mg)
    (G1 : FnOk P w K mg base CX0 1 fw fdw ["thing"] spWhole) (b1 : Binds K fdw ["thing"] []) (k1 : PySem.W.keepIn K (.ref fw) = true) (m1 : mg "is_whole" = some (.ref fw))
    (G2 : FnOk P w K mg base CX0 3 fm fdm ["thing"] spMark) (b2 : Binds K fdm ["thing"] []) (k2 : PySem.W.keepIn K (.ref fm) = true) (m2 : mg "is_mark" = some (.ref fm)) : FnOk P w K mg base CX0 4 f fd ["thing"] (spIsCh K) := by
  refine F.ok scIsCh (fun vs H Q E h => ?_) (fun cdv A outer s H vs Q E hr h => ?_)
  · obtain ⟨_, _, rfl, _⟩ := h
    rfl
  obtain ⟨_, e, rfl, ⟨x, t, rfl, hx, ht⟩, ho, hne, q⟩ := h
  refine ⟨_, pss_cons (ps_if (PW.pt (pw_or (pt_not (pt_val (pe_callB call_isi rfl B.isi (by decide +kernel) (pa_cons (pv 0) (pa_cons (pe_tupT B.tup) pa_nil)))))
      (pw_or1 (pt_cmpR op_ne (pe_callB call_len_seq rfl B.len PySem.boot_len (pa_cons (pv 0) pa_nil)) pe_int (nomark _))))) (pss_one (ps_ret pe_bl)) pss_nil)
    (pss_cons (ps_asg (pv 0) (pg_tup rfl (pgs_cons (pg_name (i := 1) scIsCh.nd rfl (Or.inl rfl)) (pgs_cons (pg_name (i := 2) scIsCh.nd rfl (Or.inl rfl)) (pgs_cons (pg_name (i := 3) scIsCh.nd rfl (Or.inl rfl)) pgs_nil)))))
    (pss_cons (ps_if (PW.pt (pw_or (pt_not (pt_val (pe_call G1 (hr.mono (by decide)) rfl m1 k1 b1 .nil pass0 (pa_cons (pv 1) pa_nil)))) (pw_or (pt_not (pt_val (pe_call G1 (hr.mono (by decide)) rfl m1 k1 b1 .nil pass0 (pa_cons (pv 2) pa_nil))))
      (pw_or1 (pt_not (pt_chain op_le op_le pe_int (pv 1) (pv 2))))))) (pss_one (ps_ret pe_bl)) pss_nil)
    (pss_cons (ps_if (PW.pt (pw_or (pt_not (pt_val (pe_callB call_isi rfl B.isi (by decide +kernel) (pa_cons (pv 3) (pa_cons (pe_tupT B.tup) pa_nil)))))
      (pw_or1 (pt_not (pt_val (pe_callB (cr_all rfl) rfl B.all (by decide +kernel) (pa_cons (pe_lc (own := [("word", 4)]) (g := gName 4) rfl scIsCh.nd (pi_tup (pv 3))
      (blkOk_by (N := NIsCh) (sc := defScope sIsCh) (by decide +kernel)) (fun _ _ _ _ _ => pg_name (i := 4) scIsCh.nd rfl (Or.inl rfl)) (fun _ _ _ _ _ => pts_nil)
      (fun _ _ _ _ _ => pe_call G2 hr rfl m2 k2 b2 .nil pass0 (pa_cons (pv 4) pa_nil))) pa_nil))))))) (pss_one (ps_ret pe_bl)) pss_nil)
    (pss_one (ps_ret (pe_or (pe_cmpR op_lt (pv 1) (pv 2) (nomark _)) (pe_one (pe_cmpR op_gt (pe_callB call_len_seq rfl B.len PySem.boot_len (pa_cons (pv 3) pa_nil)) pe_int (nomark _))))))))), ?_⟩
  have hle := ho.le
  have hsm := ho.sm
  refine ⟨_, rfl, .ref x, .ty "tuple", .type "tuple", .type "tuple", true, rfl, .ty _, sqT_ty hx, kit_ty (by decide +kernel), _, rfl, iteF ?_⟩
  refine ⟨_, rfl, x, _, rfl, .inr hx, rfl, _, rfl, iteFF rfl ?_⟩
  refine ⟨_, rfl, x, _, rfl, hx, rfl, _, _, rfl, _, _, rfl, _, _, rfl, rfl, ?_⟩
  refine ⟨_, rfl, _, rfl, _, rfl, iteF ⟨_, rfl, _, rfl, _, rfl, iteF ⟨_, rfl, _, _, rfl, rfl, _, rfl, iteTT (decide_eq_true (by omega)) ⟨_, rfl, _, _, rfl, rfl, _, rfl, ?_⟩⟩⟩⟩
  refine iteFF (by rw [decide_eq_true (by omega)]; rfl) ?_
  refine ⟨_, rfl, .ref t, .ty "tuple", .type "tuple", .type "tuple", true, rfl, .ty _, sqT_ty ht, kit_ty (by decide +kernel), _, rfl, iteF ?_⟩
  have trues : (List.replicate e.ws.length true).all id = true := by
    rw [List.all_eq_true]
    intro b hb
    exact List.eq_of_mem_replicate hb
  refine ⟨_, rfl, t, rfl, ⟨_, ht⟩, fun D hN => lcT ((List.replicate e.ws.length true).map V.bl) (by rw [List.length_map, List.length_replicate, List.length_map]) (by rw [List.length_map]; omega) ht hN (fun i y x' H' Q' hx' hy s k => ?_) fun H' s hL => ?_⟩
  · have ey : y = .bl true := by
      obtain ⟨b, hb, e⟩ := List.mem_map.mp (List.mem_of_getElem? hy)
      rw [← e, List.eq_of_mem_replicate hb]
    rw [List.getElem?_map] at hx'
    cases e2 : e.ws[i]? with
    | none => rw [e2] at hx'; cases hx'
    | some z =>
      rw [e2] at hx'
      cases hx'
      subst ey
      exact ⟨rfl, _, rfl, z, ho.mrk z (List.mem_of_getElem? e2), rfl, fun H' s' => k H' s'⟩
  refine ⟨D, _, rfl, SqL.of hL, _, rfl, ?_⟩
  rw [trues]
  refine iteF ?_
  have ht' := Same.tup s ht
  refine ⟨_, rfl, _, rfl, _, _, rfl, rfl, _, rfl, ?_⟩
  by_cases c : e.a < e.b
  · exact iteTT (decide_eq_true (by omega)) (q H' s)
  · refine iteFF (decide_eq_false (by omega)) ⟨_, rfl, t, _, rfl, .inr ht', _, _, rfl, rfl, ?_⟩
    have hw : e.ws ≠ [] := hne.elim (fun h => absurd h c) id
    have hl : 0 < e.ws.length := List.length_pos_iff.mpr hw
    have z := q H' s
    rw [show (true : Bool) = decide ((0 : Int) < ((e.ws.map V.str).length : Int)) from (decide_eq_true (by rw [List.length_map]; omega)).symm] at z
    exact z

theorem ok_ischH {f fw fm : Addr} {fd fdw fdm : FuncData} (F : Fun K "is_change" "is_change" sIsCh f fd) (B : BN mg)
    (G1 : L2H.FnH P w K mg base CX0 1 fw fdw ["thing"] spWhole) (b1 : Binds K fdw ["thing"] []) (k1 : PySem.W.keepIn K (.ref fw) = true) (m1 : mg "is_whole" = some (.ref fw))
    (G2 : L2H.FnH P w K mg base CX0 3 fm fdm ["thing"] spMark) (b2 : Binds K fdm ["thing"] []) (k2 : PySem.W.keepIn K (.ref fm) = true) (m2 : mg "is_mark" = some (.ref fm)) : L2H.FnH P w K mg base CX0 4 f fd ["thing"] (spIsCh K) := by
  refine okH F scIsCh (fun vs H Q E h => ?_) (fun cdv A outer s H vs Q E q0 hot hr h => ?_)
  · obtain ⟨_, _, rfl, _⟩ := h
    rfl
  obtain ⟨_, e, rfl, ⟨x, t, rfl, hx, ht⟩, ho, hne, q⟩ := h
  refine ⟨_, pss_cons (ps_if (PW.pt (pw_or (pt_not (pt_val (pe_callB call_isi rfl B.isi (by decide +kernel) (pa_cons (pv 0) (pa_cons (pe_tupT B.tup) pa_nil)))))
      (pw_or1 (pt_cmpR op_ne (pe_callB call_len_seq rfl B.len PySem.boot_len (pa_cons (pv 0) pa_nil)) pe_int (nomark _))))) (pss_one (ps_ret pe_bl)) pss_nil)
    (pss_cons (ps_asg (pv 0) (HL.pg_tupH hot (pgs_cons (pg_name (i := 1) scIsCh.nd rfl (Or.inl rfl)) (pgs_cons (pg_name (i := 2) scIsCh.nd rfl (Or.inl rfl)) (pgs_cons (pg_name (i := 3) scIsCh.nd rfl (Or.inl rfl)) pgs_nil)))))
    (pss_cons (ps_if (PW.pt (pw_or (pt_not (pt_val (L2H.pe_callH (E := fun _ => E0) G1 (hr.mono (by decide)) hot rfl m1 k1 b1 passH (pa_cons (pv 1) pa_nil)))) (pw_or (pt_not (pt_val (L2H.pe_callH (E := fun _ => E0) G1 (hr.mono (by decide)) hot rfl m1 k1 b1 passH (pa_cons (pv 2) pa_nil))))
      (pw_or1 (pt_not (pt_chain op_le op_le pe_int (pv 1) (pv 2))))))) (pss_one (ps_ret pe_bl)) pss_nil)
    (pss_cons (ps_if (PW.pt (pw_or (pt_not (pt_val (pe_callB call_isi rfl B.isi (by decide +kernel) (pa_cons (pv 3) (pa_cons (pe_tupT B.tup) pa_nil)))))
      (pw_or1 (pt_not (pt_val (pe_callB (HL.cr_allH hot) rfl B.all (by decide +kernel) (pa_cons (HL.pe_lcH hot (own := [("word", 4)]) (g := gName 4) scIsCh.nd (HL.pi_tupH (pv 3))
      (blkOk_by (N := NIsCh) (sc := defScope sIsCh) (by decide +kernel)) (fun _ _ _ _ _ _ hotb => pg_name (i := 4) scIsCh.nd rfl (Or.inl rfl)) 
      (fun _ _ _ _ _ _ hot => L2H.pe_callH (E := fun _ => E0) G2 hr hot rfl m2 k2 b2 passH (pa_cons (pv 4) pa_nil))) pa_nil))))))) (pss_one (ps_ret pe_bl)) pss_nil)
    (pss_one (ps_ret (pe_or (pe_cmpR op_lt (pv 1) (pv 2) (nomark _)) (pe_one (pe_cmpR op_gt (pe_callB call_len_seq rfl B.len PySem.boot_len (pa_cons (pv 3) pa_nil)) pe_int (nomark _))))))))), ?_⟩
  have hle := ho.le
  have hsm := ho.sm
  refine ⟨_, rfl, .ref x, .ty "tuple", .type "tuple", .type "tuple", true, rfl, .ty _, sqT_ty hx, kit_ty (by decide +kernel), _, rfl, iteF ?_⟩
  refine ⟨_, rfl, x, _, rfl, .inr hx, rfl, _, rfl, iteFF rfl ?_⟩
  refine ⟨_, rfl, x, _, rfl, hx, rfl, _, _, rfl, _, _, rfl, _, _, rfl, rfl, ?_⟩
  refine ⟨_, rfl, _, rfl, _, rfl, iteF ⟨_, rfl, _, rfl, _, rfl, iteF ⟨_, rfl, _, _, rfl, rfl, _, rfl, iteTT (decide_eq_true (by omega)) ⟨_, rfl, _, _, rfl, rfl, _, rfl, ?_⟩⟩⟩⟩
  refine iteFF (by rw [decide_eq_true (by omega)]; rfl) ?_
  refine ⟨_, rfl, .ref t, .ty "tuple", .type "tuple", .type "tuple", true, rfl, .ty _, sqT_ty ht, kit_ty (by decide +kernel), _, rfl, iteF ?_⟩
  have trues : (List.replicate e.ws.length true).all id = true := by
    rw [List.all_eq_true]
    intro b hb
    exact List.eq_of_mem_replicate hb
  refine ⟨_, rfl, t, rfl, ⟨_, ht⟩, fun D hN => lcT ((List.replicate e.ws.length true).map V.bl) (by rw [List.length_map, List.length_replicate, List.length_map]) (by rw [List.length_map]; omega) ht hN (fun i y x' H' Q' hx' hy s k => ?_) fun H' s hL => ?_⟩
  · have ey : y = .bl true := by
      obtain ⟨b, hb, e⟩ := List.mem_map.mp (List.mem_of_getElem? hy)
      rw [← e, List.eq_of_mem_replicate hb]
    rw [List.getElem?_map] at hx'
    cases e2 : e.ws[i]? with
    | none => rw [e2] at hx'; cases hx'
    | some z =>
      rw [e2] at hx'
      cases hx'
      subst ey
      exact ⟨rfl, _, rfl, z, ho.mrk z (List.mem_of_getElem? e2), rfl, fun H' s' => k H' s'⟩
  refine ⟨D, _, rfl, SqL.of hL, _, rfl, ?_⟩
  rw [trues]
  refine iteF ?_
  have ht' := Same.tup s ht
  refine ⟨_, rfl, _, rfl, _, _, rfl, rfl, _, rfl, ?_⟩
  by_cases c : e.a < e.b
  · exact iteTT (decide_eq_true (by omega)) (q H' s)
  · refine iteFF (decide_eq_false (by omega)) ⟨_, rfl, t, _, rfl, .inr ht', _, _, rfl, rfl, ?_⟩
    have hw : e.ws ≠ [] := hne.elim (fun h => absurd h c) id
    have hl : 0 < e.ws.length := List.length_pos_iff.mpr hw
    have z := q H' s
    rw [show (true : Bool) = decide ((0 : Int) < ((e.ws.map V.str).length : Int)) from (decide_eq_true (by rw [List.length_map]; omega)).symm] at z
    exact z
end
end P5

end
section
set_option Elab.async false
set_option linter.all false
set_option maxRecDepth 100000
set_option maxHeartbeats 4000000
namespace P5
open PySem PySem.Spec PyProof.Rows L2
section
variable {P : Program} {w : World} {K : PySem.W.Frag} {mg : Str → Option Value} {base : Heap} {fL CE CP CB : Addr} {cdv : Value} {A : Around} {outer : List Env} {s : Shared} {H0 : Hp} {E : XK}
/-- making a patch, from changes that are ones -/
def spPInit (K : PySem.W.Frag) (CP : Addr) : Sp := fun vs H Q _ => ∃ (p dx t : Addr) (cs : List V) (C : List Ed) (m : Nat), vs = [.ref p, .ref t, .int m] ∧ H p = some (.ins CP dx []) ∧ SqT K H t cs ∧ ChsV K H cs C ∧ PtOk C m ∧
  ∀ H', But p H H' → PtH K CP H' p C m → Q .non H'
/-- patches are made, and asked whether they are equal, while an exception is handled -/
structure MkP (P : Program) (w : World) (K : PySem.W.Frag) (mg : Str → Option Value) (base : Heap) (CP : Addr) : Prop where
  ex : ∃ fI fdI, Mk K CP fI ∧ L2H.FnH P w K mg base CX0 12 fI fdI ["self", "changes", "least"] (spPInit K CP) ∧ L2.Binds K fdI ["self", "changes", "least"] []
  eq : ∃ f fd, PySem.W.findIn K (.ref CP) "__eq__" = some (some (.ref f)) ∧ PySem.W.isFn K (.ref f) = true ∧ L2H.FnH P w K mg base CX0 12 f fd ["self", "other"] (spPEq K CP) ∧ L2.Binds K fd ["self", "other"] []
  m : mg "Patch" = some (.ref CP)
theorem mk_pt {K : PySem.W.Frag} {CP : Addr} {Q : Addr → Hp → Prop} {E : XK} {t : Addr} {cs : List V} {C : List Ed} {m : Nat} {H : Hp} (hT : SqT K H t cs) (hV : ChsV K H cs C) (hO : PtOk C m) (q : ∀ H' x, Same H H' → H x = none → PtH K CP H' x C m → Q x H') :
    ∀ x dx, H x = none → H dx = none → dx ≠ x → spPInit K CP (.ref x :: ([.ref t, .int m] ++ [])) (upd (upd H dx (.own x)) x (.ins CP dx [])) (fun v H2 => v = .non ∧ Q x H2) E := by
  intro x dx hx hdx hne
  have s1 : Same H (upd (upd H dx (.own x)) x (.ins CP dx [])) := (Same.new hdx _).trans (Same.new (by rw [upd_ne (Ne.symm hne)]; exact hx) _)
  refine ⟨x, dx, t, cs, C, m, rfl, upd_same, Same.tup s1 hT, hV.imp fun _ _ z => Same.tup s1 z, hO, fun H' hB hE => ⟨rfl, q H' x (fun b o hb => hB _ _ (fun z => ?_) (s1 _ _ hb)) hx hE⟩⟩
  rw [z, hx] at hb
  cases hb
theorem apC_le : ∀ {C : List Ed} {t : Bool} {s : Nat} (l : List Str), Apt t s C → (apC C s l).length ≤ l.length + tot C
  | [], _, s, l, _ => Nat.le_add_right _ _
  | e :: C, _, s, l, .cons h1 _ h3 _ h5 => by
    show (l.take (e.a - s) ++ (e.ws ++ apC C e.b (l.drop (e.b - s)))).length ≤ l.length + (e.ws.length + tot C)
    have ih := apC_le (l.drop (e.b - s)) h5
    rw [List.length_append, List.length_append, List.length_take]
    rw [List.length_drop] at ih
    omega
end
section
variable {X : Cx} {CX : CXT} {k : Nat} {C g : Addr} {sp : Sp} {E : L2.St → XK} {e fe : Expr} {es : List Expr} {tf : TE} {t : TA} {pos : Pos}
/-- a call of an instance; what it lets out is told at the slots as they stand -/
def tCallOS (X : Cx) (C : Addr) (sp : Sp) (E : L2.St → XK) (tf : TE) (t : TA) : TE := fun σ H Q => tf σ H fun y H1 => ∃ a, y = V.ref a ∧ t σ H1 fun vs H2 => StX.InsC X H2 a C ∧ sp (V.ref a :: vs) H2 Q (E σ)
theorem pe_callOS (hf : PE X fe tf) (c : StX.CallO X.K C g) (F : FnR X.prog X.w X.K X.mg X.base CX k g sp) (hr : Room k X.A) (hx : ∀ σ, PassesAt CX X σ (E σ)) (ha : PA X (e :: es) t)
    (ht : eval (.Call fe (e :: es) [] pos) X.env = (do callWith pos (← eval fe X.env) [] (backTo pos (starEach (e :: es) X.env)) (backToKw pos (keywordEach [] X.env))) := by rfl)
    (he : starEach (e :: es) X.env = (false, eval e X.env) :: starEach es X.env := by rfl) (hpl : (backTo pos (starEach es X.env)).any (·.1) = false := by rfl) : PE X (.Call fe (e :: es) [] pos) (tCallOS X C sp E tf t) :=
  ⟨fun pins s σ H Q I h => Call_ (thn (hf.run pins s σ H _ I h) fun u s1 z => by
    obtain ⟨y, H1, I1, ry, a, ey, q⟩ := z
    subst ey
    obtain rfl : u = Value.ref a := ry
    refine StX.callO_with (thn (ha.run pos pins s1 σ H1 _ I1 q) fun us s2 z2 => ?_) he hpl
    obtain ⟨vs, H2, I2, r, hi, q2⟩ := z2
    obtain ⟨ox, od, J, hd⟩ := StX.insC_at I2 hi
    refine ⟨⟨C, ox, od, J, hd⟩, wpAny_call (PySem.W.kco_code I2.kIn J hd c.at_ c.fn c.fi (codeAny_mono (F X.A X.stack s2 H2 (.ref a :: us) (.ref a :: vs) Q (E σ) hr I2.env0 (.cons rfl r) q2) fun r s' hq => ?_))⟩
    match r, hq with
    | .error e, hq => exact hx σ pins H2 s2 e s' I2 hq
    | .ok (.ret u), hq => exact I2.after hq) ht⟩
/-- an instance is made while an exception is handled -/
theorem run_makeH {f : Addr} {fd : FuncData} {ps : List Str} {pins : List (Addr × Obj)} {σ : L2.St} {H : Hp} {s : Shared} {Q : VK} {us : List Value} {vs : List V} (M : Mk X.K C f) (F : L2H.FnH X.prog X.w X.K X.mg X.base CX0 k f fd ps sp) (hr : L2H.RoomH (k + 1) X.A) (hc : L2H.HotC X) (hb : L2.Binds X.K fd ps [])
    (I : Inv X pins σ H s) (r : Vals vs us)
    (h : ∀ x dx, H x = none → H dx = none → dx ≠ x → sp (.ref x :: (vs ++ [])) (upd (upd H dx (.own x)) x (.ins C dx [])) (fun v H2 => v = .non ∧ Q (.ref x) H2) E0) : wpAny (model X.prog X.w) X.A (call (.ref C) us) (EP X pins σ Q) X.xe s := by
  obtain ⟨p, hot, hp⟩ := hc
  have hq := h (s.heap.objs.size + 1) s.heap.objs.size (I.hok.fresh (Nat.le_succ _)) (I.hok.fresh (Nat.le_refl _)) (Nat.ne_of_lt (Nat.lt_succ_self _))
  rw [List.append_nil] at hq
  have I2 := Inv.made (C := C) I
  have r2 : Vals (V.ref (s.heap.objs.size + 1) :: vs) (Value.ref (s.heap.objs.size + 1) :: us) := .cons rfl r
  have hl : (Value.ref (s.heap.objs.size + 1) :: us).length = ps.length := by
    rw [← r2.length]
    exact F.len _ _ _ _ hq
  have P1 := I2.pin p (List.mem_append_left _ hp)
  have b2 := hb _ (Value.ref (s.heap.objs.size + 1) :: us) I2.kIn (by rw [List.append_nil]; exact hl)
  rw [List.append_nil] at b2
  refine wpAny_call (make_map (f := f) I.kIn M.makes M.init (beq_iff_eq.mp M.fn) (codeAny_mono (F.run _ X.stack _ _ ⟨Value.ref (s.heap.objs.size + 1) :: us, []⟩ (Value.ref (s.heap.objs.size + 1) :: us) _ _ E0 p (hr.make C us []) ⟨hot.1, hot.2⟩
    ⟨P1.1, P1.2.1, fun hm => (List.mem_cons.mp (I2.stkSub p.1 hm)).elim P1.2.2.1 P1.2.2.2.1, P1.2.2.2.2⟩ (I2.env0.make C us []) b2 r2 hq) fun r s' hq' => ?_))
  match r, hq' with
  | .error e, hq' => exact (show False from hq').elim
  | .ok (.ret u), hq' =>
    obtain ⟨v, H', I3, rv, ev, q3⟩ := I2.after hq'
    subst ev
    exact ⟨rv, ⟨V.ref (s.heap.objs.size + 1), H', I3, rfl, q3⟩⟩
theorem pe_makeH {f : Addr} {fd : FuncData} {ps : List Str} {x : Str} {p : Pos} (M : Mk X.K C f) (F : L2H.FnH X.prog X.w X.K X.mg X.base CX0 k f fd ps sp) (hr : L2H.RoomH (k + 1) X.A) (hc : L2H.HotC X) (hg : Gl X x) (hm : X.mg x = some (.ref C)) (hb : L2.Binds X.K fd ps [])
    (ha : PA X (e :: es) t) (hdb : (x == ("__debug__" : Str)) = false := by decide) (he : starEach (e :: es) X.env = (false, eval e X.env) :: starEach es X.env := by rfl) (hpl : (backTo pos (starEach es X.env)).any (·.1) = false := by rfl) :
    PE X (.Call (.Name x p) (e :: es) [] pos) (tMake C sp [] E0 t) :=
  ⟨fun pins s σ H Q I h => wpAny_Call_Name_kw (ld_glob I hg hm (PySem.W.callWith_K (h₀ := X.base) I.ok.mod.kin M.kp (thn (ha.run pos pins s σ H _ I h) fun us s1 ⟨vs, H1, I1, r, q⟩ => ⟨I1.kIn, run_makeH M F hr hc hb I1 r q⟩) he hpl) hdb)⟩
/-- x == y of two instances with an own __eq__, while an exception is handled -/
theorem op_eqIH {f : Addr} {fd : FuncData} {ps : List Str} (hs : PySem.W.findIn X.K (.ref C) "__eq__" = some (some (.ref f))) (hf : PySem.W.isFn X.K (.ref f) = true) (F : L2H.FnH X.prog X.w X.K X.mg X.base CX0 k f fd ps sp) (hb : L2.Binds X.K fd ps []) (hr : L2H.RoomH k X.A) (hc : L2H.HotC X) :
    OpR X (compareOp .Eq) (fun x y H Q => ∃ (a b : Addr), x = .ref a ∧ y = .ref b ∧ InsI H a C ∧ InsI H b C ∧ sp [.ref a, .ref b] H (fun v H' => ∃ c, v = .bl c ∧ Q (.bl c) H') E0) := by
  intro pins s σ H x y v u Q I rx ry h
  obtain ⟨a, b, rfl, rfl, ho, ho2, q⟩ := h
  cases (show v = Value.ref a from rx)
  cases (show u = Value.ref b from ry)
  show wpAny (model X.prog X.w) X.A (richCompare .Eq (.ref a) (.ref b)) (EP X pins σ Q) X.xe s
  obtain ⟨ox, od, J⟩ := insI_at I ho
  obtain ⟨ox2, od2, J2⟩ := insI_at I ho2
  obtain ⟨m, hF⟩ := I.fr
  refine PySem.W.cmp_K (op := .Eq) (tb := .ref C) (by have := hr.un; omega) hF I.ok.mod.kin J J2.type (by simp [PySem.W.notFirst]) hs hf ?_
  refine wpAny_mono (L2H.run_fnH (us := [.ref a, .ref b]) (vs := [.ref a, .ref b]) (E := fun _ => E0) F hr hc hb (fun _ _ _ _ _ _ z => (show False from z).elim) I (.cons rfl (.cons rfl .nil)) q) (fun z s' hz => ?_) fun _ _ e => e
  obtain ⟨v', H', I', rz, c, rfl, hQ⟩ := hz
  cases (show z = Value.bool c from rz)
  exact ⟨.bl c, H', I', rfl, hQ⟩
end
section
variable {P : Program} {w : World} {K : PySem.W.Frag} {mg : Str → Option Value} {base : Heap} {fL CE CP CB : Addr} {cdv : Value} {A : Around} {outer : List Env} {s : Shared} {H0 : Hp} {E : XK}
end
end P5

end
section
set_option Elab.async false
set_option linter.all false
set_option maxRecDepth 100000
set_option maxHeartbeats 4000000
namespace P5
open PySem PySem.Spec PySem.SeqAt PyProof.Rows L2
theorem apt_ne : ∀ {C : List Ed} {t : Bool} {s : Nat} {e : Ed}, Apt t s C → e ∈ C → e.a < e.b ∨ e.ws ≠ []
  | [], _, _, _, _, h => by cases h
  | d :: C, _, _, e, .cons h1 h2 h3 h4 h5, h => by
    rcases List.mem_cons.mp h with z | z
    · rw [z]; exact h4
    · exact apt_ne h5 z
theorem apt_head {C : List Ed} {s : Nat} {e : Ed} (h : Apt true s C) (he : C[0]? = some e) : s < e.a := by
  cases h with
  | nil => simp at he
  | cons h1 h2 h3 h4 h5 =>
    cases he
    exact h2 rfl
theorem apt_pair : ∀ {C : List Ed} {t : Bool} {s i : Nat} {e e' : Ed}, Apt t s C → C[i]? = some e → C[i + 1]? = some e' → e.b < e'.a
  | _, _, _, 0, _, _, .cons _ _ _ _ h5, h, h' => by
    cases h
    exact apt_head h5 (by simpa using h')
  | _, _, _, i + 1, _, _, .cons (C := C) _ _ _ _ h5, h, h' => apt_pair (C := C) (i := i) h5 (by simpa using h) (by simpa using h')
  | _, _, _, _, _, _, .nil, h, _ => by simp at h
section
variable {P : Program} {w : World} {K : PySem.W.Frag} {mg : Str → Option Value} {base : Heap} {aN aS CE CP CB : Addr}
abbrev sPInit : Stmt := inClass (tp 25) 0
abbrev NPInit : List Str := ["self", "changes", "least", "change", "one", "other", "_", "last"]
theorem scPInit : FnScope NPInit ["self", "changes", "least"] (defScope sPInit) := ⟨rfl, rfl, rfl, by decide +kernel, rfl, by decide +kernel, by decide +kernel⟩

theorem ok_pinit {f fw fc : Addr} {fd fdw fdc : FuncData} (F : Fun K "__init__" "Patch.__init__" sPInit f fd) (B : BN mg) (mZ : mg "zip" = none) (EP : PC K CP)
    (G1 : FnOk P w K mg base CX0 1 fw fdw ["thing"] spWhole) (b1 : Binds K fdw ["thing"] []) (k1 : PySem.W.keepIn K (.ref fw) = true) (m1 : mg "is_whole" = some (.ref fw))
    (G2 : FnOk P w K mg base CX0 4 fc fdc ["thing"] (spIsCh K)) (b2 : Binds K fdc ["thing"] []) (k2 : PySem.W.keepIn K (.ref fc) = true) (m2 : mg "is_change" = some (.ref fc)) : FnOk P w K mg base CX0 5 f fd ["self", "changes", "least"] (spPInit K CP) := by
  refine F.ok scPInit (fun vs H Q E h => ?_) (fun cdv A outer s H vs Q E hr h => ?_)
  · obtain ⟨_, _, _, _, _, _, rfl, _⟩ := h
    rfl
  obtain ⟨p, dx, t, cs, C, m, rfl, hp, hT, hV, hO, q⟩ := h
  refine ⟨_, pss_cons (ps_if (PW.pt (pw_or (pt_not (pt_val (pe_callB call_isi rfl B.isi (by decide +kernel) (pa_cons (pv 1) (pa_cons (pe_tupT B.tup) pa_nil)))))
      (pw_or1 (pt_not (pt_val (pe_callB (cr_all rfl) rfl B.all (by decide +kernel) (pa_cons (pe_lc (own := [("change", 3)]) (g := gName 3) rfl scPInit.nd (pi_tup (pv 1))
      (blkOk_by (N := NPInit) (sc := defScope sPInit) (by decide +kernel)) (fun _ _ _ _ _ => pg_name (i := 3) scPInit.nd rfl (Or.inl rfl)) (fun _ _ _ _ _ => pts_nil)
      (fun _ _ _ _ _ => pe_call G2 hr rfl m2 k2 b2 .nil pass0 (pa_cons (pv 3) pa_nil))) pa_nil))))))) (pss_one ps_never) pss_nil)
    (pss_cons (ps_if (pt_not (pt_val (pe_callB (cr_all rfl) rfl B.all (by decide +kernel) (pa_cons (pe_lc (own := [("one", 4), ("other", 5)]) (g := gTup K 2 (gCons (gName 4) (gCons (gName 5) gNil))) rfl scPInit.nd
      (RZ.pi_zipA rfl mZ (pa_cons (pv 1) (pa_cons (pe_slice (r := rSlA K) sl_tupA (pv 1) (po_some pe_int) po_none) pa_nil)))
      (blkOk_by (N := NPInit) (sc := defScope sPInit) (by decide +kernel)) (fun _ _ _ _ _ => pg_tup rfl (pgs_cons (pg_name (i := 4) scPInit.nd rfl (Or.inl rfl)) (pgs_cons (pg_name (i := 5) scPInit.nd rfl (Or.inl rfl)) pgs_nil))) (fun _ _ _ _ _ => pts_nil)
      (fun _ _ _ _ _ => pe_cmpR op_lt (pe_ix (r := rIxT K) ix_tup (pv 4) pe_int (fun _ _ => rfl)) (pe_ix (r := rIxT K) ix_tup (pv 5) pe_int (fun _ _ => rfl)) (nomark _))) pa_nil)))) (pss_one ps_never) pss_nil)
    (pss_cons (ps_if (PW.pt (pw_or (pt_not (pt_val (pe_call G1 (hr.mono (by decide)) rfl m1 k1 b1 .nil pass0 (pa_cons (pv 2) pa_nil))))
      (pw_or1 (pt_cmpR op_lt (pv 2) (pe_callBK (HL.cr_mxD rfl) rfl B.max (by decide +kernel) (pa_cons (pe_lc (own := [("_", 6), ("last", 7)]) (g := gTup K 3 (gCons (gName 6) (gCons (gName 7) (gCons (gName 6) gNil)))) rfl scPInit.nd (pi_tup (pv 1))
      (blkOk_by (N := NPInit) (sc := defScope sPInit) (by decide +kernel)) (fun _ _ _ _ _ => pg_tup rfl (pgs_cons (pg_name (i := 6) scPInit.nd rfl (Or.inl rfl)) (pgs_cons (pg_name (i := 7) scPInit.nd rfl (Or.inl rfl)) (pgs_cons (pg_name (i := 6) scPInit.nd rfl (Or.inl rfl)) pgs_nil)))) (fun _ _ _ _ _ => pts_nil)
      (fun _ _ _ _ _ => pv 7)) pa_nil) (pk_cons pe_int pk_nil)) (nomark _))))) (pss_one ps_never) pss_nil)
    (pss_cons (ps_fld (pv 0) (pv 1) rfl) (pss_one (ps_fld (pv 0) (pv 2) rfl))))), ?_⟩
  have hl : cs.length = C.length := hV.len
  have hf := hO.few
  have allT : ∀ n : Nat, (List.replicate n true).all id = true := fun n => by
    rw [List.all_eq_true]
    intro b hb
    exact List.eq_of_mem_replicate hb
  have tru : ∀ {n i : Nat} {y : V}, ((List.replicate n true).map V.bl)[i]? = some y → y = .bl true := fun {n i y} hy => by
    obtain ⟨b, hb, e⟩ := List.mem_map.mp (List.mem_of_getElem? hy)
    rw [← e, List.eq_of_mem_replicate hb]
  refine ⟨_, rfl, .ref t, .ty "tuple", .type "tuple", .type "tuple", true, rfl, .ty _, sqT_ty hT, kit_ty (by decide +kernel), _, rfl, iteF ?_⟩
  refine ⟨_, rfl, t, rfl, ⟨_, hT⟩, fun D hD => lcT ((List.replicate cs.length true).map V.bl) (by rw [List.length_map, List.length_replicate]) (by omega) hT hD (fun i y x H' Q' hx hy s k => ?_) fun H1 s1 hL => ?_⟩
  · obtain ⟨e, hre, hch⟩ := hV.get hx
    rw [tru hy] at k
    exact ⟨rfl, _, rfl, x, e, rfl, ChV.same s hch, hO.ok e (List.mem_of_getElem? hre), apt_ne hO.apt (List.mem_of_getElem? hre), fun H4 s4 => k H4 s4⟩
  refine ⟨D, _, rfl, SqL.of hL, _, rfl, ?_⟩
  rw [allT]
  refine iteF ?_
  have hT1 := Same.tup s1 hT
  -- ascending and apart
  refine ⟨_, rfl, _, rfl, 1, rfl, noPart (slA_of hT1 fun H2 t2 s2 ht2 => ?_)⟩
  have e1 : cutV cs (some (1 : Int)) none = cs.drop 1 := by
    cases cs with
    | nil => rfl
    | cons x xs => exact cut_from (x :: xs) 1 (by show 1 ≤ xs.length + 1; omega)
  rw [e1] at ht2
  have hT2 := Same.tup s2 hT1
  have s12 := s1.trans s2
  refine ⟨t, t2, cs, cs.drop 1, rfl, .inr ⟨hT2, ht2, fun D2 hD2 => ?_⟩⟩
  refine lc_go (cs.drop 1).length (fun i v H' => ∃ T x y, v = .ref T ∧ SqT K H' T [x, y] ∧ cs[i]? = some x ∧ (cs.drop 1)[i]? = some y) ((List.replicate (cs.drop 1).length true).map V.bl) (by rw [List.length_map, List.length_replicate]) (by rw [List.length_drop]; omega) hD2
    (fun i H' hi s => ⟨cs, cs.drop 1, _, _, Same.tup s hT2, Same.tup s ht2, List.getElem?_eq_getElem (by rw [List.length_drop] at hi; omega), List.getElem?_eq_getElem hi⟩)
    (fun i x H' H'' hi s yl => ?_) (fun H' s => ⟨cs, cs.drop 1, Same.tup s hT2, Same.tup s ht2, .inr (Nat.le_refl _)⟩) (fun i y x H' Q' hy s hx k => ?_) fun H3 s3 hL3 => ?_
  · obtain ⟨T, a, b, rfl, nT, rfl, ha, hb⟩ := yl
    exact ⟨Same.new nT _, T, a, b, rfl, SqT.of upd_same, ha _ (Same.tup s hT2), hb _ (Same.tup s ht2)⟩
  · obtain ⟨T, a, b, rfl, hTT, ha, hb⟩ := hx
    obtain ⟨e, hre, hch⟩ := hV.get ha
    rw [List.getElem?_drop] at hb
    obtain ⟨e', hre', hch'⟩ := hV.get hb
    have hlt := apt_pair hO.apt hre (show C[i + 1]? = some e' by rw [Nat.add_comm]; exact hre')
    rw [tru hy] at k
    obtain ⟨xa, ta, rfl, hxa, _⟩ := ChV.same (s12.trans s) hch
    obtain ⟨xb, tb, rfl, hxb, _⟩ := ChV.same (s12.trans s) hch'
    refine ⟨T, _, rfl, hTT, rfl, _, _, rfl, _, _, rfl, rfl, rfl, _, rfl, ?_⟩
    refine ⟨xa, _, 1, .int e.b, rfl, rfl, hxa, rfl, _, rfl, xb, _, 0, .int e'.a, rfl, rfl, hxb, rfl, _, _, rfl, rfl, ?_⟩
    have z := k H' (Same.refl _)
    rw [show (true : Bool) = decide ((e.b : Int) < (e'.a : Int)) from (decide_eq_true (by omega)).symm] at z
    exact z
  refine ⟨D2, _, rfl, SqL.of hL3, _, rfl, ?_⟩
  rw [allT]
  refine iteF ?_
  have s13 := s12.trans s3
  have hT3 := Same.tup s3 hT2
  -- the least number
  refine ⟨_, rfl, _, rfl, _, rfl, iteF ⟨_, rfl, _, rfl, t, rfl, ⟨_, hT3⟩, fun D4 hD4 => lcT ((C.map fun e => (e.b : Int)).map V.int) (by rw [List.length_map, List.length_map]; exact hl.symm) (by omega) hT3 hD4 (fun i y x H' Q' hx hy s k => ?_) fun H4 s4 hL4 => ?_⟩⟩
  · obtain ⟨e, hre, hch⟩ := hV.get hx
    rw [List.getElem?_map, List.getElem?_map, hre] at hy
    cases hy
    obtain ⟨xa, ta, rfl, hxa, _⟩ := ChV.same (s13.trans s) hch
    exact ⟨xa, _, rfl, hxa, rfl, _, _, rfl, _, _, rfl, _, _, rfl, rfl, rfl, _, rfl, k H' (Same.refl _)⟩
  refine ⟨D4, C.map fun e => (e.b : Int), 0, rfl, rfl, SqL.of hL4, fun M h0 h1 _ => ⟨_, _, rfl, rfl, _, rfl, iteFF (decide_eq_false ?_) ?_⟩⟩
  · have hM : M ≤ (m : Int) := by
      by_cases z : C = []
      · have := h0 (by rw [z]; rfl)
        omega
      · obtain ⟨e, he, em⟩ := List.mem_map.mp (h1 fun y => z (List.map_eq_nil_iff.mp y))
        have := (hO.apt.facts he).2
        have := hO.fin
        omega
    omega
  have s14 := s13.trans s4
  have hp4 := s14 _ _ hp
  refine ⟨_, rfl, _, rfl, p, CP, dx, [], rfl, hp4, EP.cl, EP.nC, (by show 0 < 1000; decide), ?_⟩
  refine ⟨_, rfl, _, rfl, p, CP, dx, _, rfl, upd_same, EP.cl, EP.nL, (by show 1 < 1000; decide), ?_⟩
  have bt : But p H (upd (upd H4 p (.ins CP dx [("changes", .ref t)])) p (.ins CP dx [("changes", .ref t), ("least", .int m)])) := ((But.of s14).upd).upd
  exact q _ bt ⟨dx, t, cs, upd_same, but_tup hp bt hT, hV.imp fun _ _ z => but_tup hp bt z, hO⟩

theorem ok_pinitH {f fw fc : Addr} {fd fdw fdc : FuncData} (F : Fun K "__init__" "Patch.__init__" sPInit f fd) (B : BN mg) (mZ : mg "zip" = none) (EP : PC K CP)
    (G1 : L2H.FnH P w K mg base CX0 1 fw fdw ["thing"] spWhole) (b1 : Binds K fdw ["thing"] []) (k1 : PySem.W.keepIn K (.ref fw) = true) (m1 : mg "is_whole" = some (.ref fw))
    (G2 : L2H.FnH P w K mg base CX0 4 fc fdc ["thing"] (spIsCh K)) (b2 : Binds K fdc ["thing"] []) (k2 : PySem.W.keepIn K (.ref fc) = true) (m2 : mg "is_change" = some (.ref fc)) : L2H.FnH P w K mg base CX0 5 f fd ["self", "changes", "least"] (spPInit K CP) := by
  refine okH F scPInit (fun vs H Q E h => ?_) (fun cdv A outer s H vs Q E q0 hot hr h => ?_)
  · obtain ⟨_, _, _, _, _, _, rfl, _⟩ := h
    rfl
  obtain ⟨p, dx, t, cs, C, m, rfl, hp, hT, hV, hO, q⟩ := h
  refine ⟨_, pss_cons (ps_if (PW.pt (pw_or (pt_not (pt_val (pe_callB call_isi rfl B.isi (by decide +kernel) (pa_cons (pv 1) (pa_cons (pe_tupT B.tup) pa_nil)))))
      (pw_or1 (pt_not (pt_val (pe_callB (HL.cr_allH hot) rfl B.all (by decide +kernel) (pa_cons (HL.pe_lcH hot (own := [("change", 3)]) (g := gName 3) scPInit.nd (HL.pi_tupH (pv 1))
      (blkOk_by (N := NPInit) (sc := defScope sPInit) (by decide +kernel)) (fun _ _ _ _ _ _ hotb => pg_name (i := 3) scPInit.nd rfl (Or.inl rfl)) 
      (fun _ _ _ _ _ _ hot => L2H.pe_callH (E := fun _ => E0) G2 hr hot rfl m2 k2 b2 passH (pa_cons (pv 3) pa_nil))) pa_nil))))))) (pss_one ps_never) pss_nil)
    (pss_cons (ps_if (pt_not (pt_val (pe_callB (HL.cr_allH hot) rfl B.all (by decide +kernel) (pa_cons (HL.pe_lcH hot (own := [("one", 4), ("other", 5)]) (g := gTup K 2 (gCons (gName 4) (gCons (gName 5) gNil))) scPInit.nd
      (HL.pi_zipTH rfl mZ (pa_cons (pv 1) (pa_cons (pe_slice (r := rSlA K) sl_tupA (pv 1) (po_some pe_int) po_none) pa_nil)))
      (blkOk_by (N := NPInit) (sc := defScope sPInit) (by decide +kernel)) (fun _ _ _ _ _ _ hotb => HL.pg_tupH hotb (pgs_cons (pg_name (i := 4) scPInit.nd rfl (Or.inl rfl)) (pgs_cons (pg_name (i := 5) scPInit.nd rfl (Or.inl rfl)) pgs_nil))) 
      (fun _ _ _ _ _ _ hot => pe_cmpR op_lt (pe_ix (r := rIxT K) ix_tup (pv 4) pe_int (fun _ _ => rfl)) (pe_ix (r := rIxT K) ix_tup (pv 5) pe_int (fun _ _ => rfl)) (nomark _))) pa_nil)))) (pss_one ps_never) pss_nil)
    (pss_cons (ps_if (PW.pt (pw_or (pt_not (pt_val (L2H.pe_callH (E := fun _ => E0) G1 (hr.mono (by decide)) hot rfl m1 k1 b1 passH (pa_cons (pv 2) pa_nil))))
      (pw_or1 (pt_cmpR op_lt (pv 2) (pe_callBK (HL.cr_mxDH hot) rfl B.max (by decide +kernel) (pa_cons (HL.pe_lcH hot (own := [("_", 6), ("last", 7)]) (g := gTup K 3 (gCons (gName 6) (gCons (gName 7) (gCons (gName 6) gNil)))) scPInit.nd (HL.pi_tupH (pv 1))
      (blkOk_by (N := NPInit) (sc := defScope sPInit) (by decide +kernel)) (fun _ _ _ _ _ _ hotb => HL.pg_tupH hotb (pgs_cons (pg_name (i := 6) scPInit.nd rfl (Or.inl rfl)) (pgs_cons (pg_name (i := 7) scPInit.nd rfl (Or.inl rfl)) (pgs_cons (pg_name (i := 6) scPInit.nd rfl (Or.inl rfl)) pgs_nil)))) 
      (fun _ _ _ _ _ _ hot => pv 7)) pa_nil) (pk_cons pe_int pk_nil)) (nomark _))))) (pss_one ps_never) pss_nil)
    (pss_cons (ps_fld (pv 0) (pv 1) rfl) (pss_one (ps_fld (pv 0) (pv 2) rfl))))), ?_⟩
  have hl : cs.length = C.length := hV.len
  have hf := hO.few
  have allT : ∀ n : Nat, (List.replicate n true).all id = true := fun n => by
    rw [List.all_eq_true]
    intro b hb
    exact List.eq_of_mem_replicate hb
  have tru : ∀ {n i : Nat} {y : V}, ((List.replicate n true).map V.bl)[i]? = some y → y = .bl true := fun {n i y} hy => by
    obtain ⟨b, hb, e⟩ := List.mem_map.mp (List.mem_of_getElem? hy)
    rw [← e, List.eq_of_mem_replicate hb]
  refine ⟨_, rfl, .ref t, .ty "tuple", .type "tuple", .type "tuple", true, rfl, .ty _, sqT_ty hT, kit_ty (by decide +kernel), _, rfl, iteF ?_⟩
  refine ⟨_, rfl, t, rfl, ⟨_, hT⟩, fun D hD => lcT ((List.replicate cs.length true).map V.bl) (by rw [List.length_map, List.length_replicate]) (by omega) hT hD (fun i y x H' Q' hx hy s k => ?_) fun H1 s1 hL => ?_⟩
  · obtain ⟨e, hre, hch⟩ := hV.get hx
    rw [tru hy] at k
    exact ⟨rfl, _, rfl, x, e, rfl, ChV.same s hch, hO.ok e (List.mem_of_getElem? hre), apt_ne hO.apt (List.mem_of_getElem? hre), fun H4 s4 => k H4 s4⟩
  refine ⟨D, _, rfl, SqL.of hL, _, rfl, ?_⟩
  rw [allT]
  refine iteF ?_
  have hT1 := Same.tup s1 hT
  -- ascending and apart
  refine ⟨_, rfl, _, rfl, 1, rfl, noPart (slA_of hT1 fun H2 t2 s2 ht2 => ?_)⟩
  have e1 : cutV cs (some (1 : Int)) none = cs.drop 1 := by
    cases cs with
    | nil => rfl
    | cons x xs => exact cut_from (x :: xs) 1 (by show 1 ≤ xs.length + 1; omega)
  rw [e1] at ht2
  have hT2 := Same.tup s2 hT1
  have s12 := s1.trans s2
  refine ⟨t, t2, cs, cs.drop 1, rfl, hT2, ht2, fun D2 hD2 => ?_⟩
  refine lc_go (cs.drop 1).length (fun i v H' => ∃ T x y, v = .ref T ∧ SqT K H' T [x, y] ∧ cs[i]? = some x ∧ (cs.drop 1)[i]? = some y) ((List.replicate (cs.drop 1).length true).map V.bl) (by rw [List.length_map, List.length_replicate]) (by rw [List.length_drop]; omega) hD2
    (fun i H' hi s => ⟨cs, cs.drop 1, _, _, Same.tup s hT2, Same.tup s ht2, List.getElem?_eq_getElem (by rw [List.length_drop] at hi; omega), List.getElem?_eq_getElem hi⟩)
    (fun i x H' H'' hi s yl => ?_) (fun H' s => ⟨cs, cs.drop 1, Same.tup s hT2, Same.tup s ht2, .inr (Nat.le_refl _)⟩) (fun i y x H' Q' hy s hx k => ?_) fun H3 s3 hL3 => ?_
  · obtain ⟨T, a, b, rfl, nT, rfl, ha, hb⟩ := yl
    exact ⟨Same.new nT _, T, a, b, rfl, SqT.of upd_same, ha _ (Same.tup s hT2), hb _ (Same.tup s ht2)⟩
  · obtain ⟨T, a, b, rfl, hTT, ha, hb⟩ := hx
    obtain ⟨e, hre, hch⟩ := hV.get ha
    rw [List.getElem?_drop] at hb
    obtain ⟨e', hre', hch'⟩ := hV.get hb
    have hlt := apt_pair hO.apt hre (show C[i + 1]? = some e' by rw [Nat.add_comm]; exact hre')
    rw [tru hy] at k
    obtain ⟨xa, ta, rfl, hxa, _⟩ := ChV.same (s12.trans s) hch
    obtain ⟨xb, tb, rfl, hxb, _⟩ := ChV.same (s12.trans s) hch'
    refine ⟨T, _, rfl, hTT, rfl, _, _, rfl, _, _, rfl, rfl, rfl, _, rfl, ?_⟩
    refine ⟨xa, _, 1, .int e.b, rfl, rfl, hxa, rfl, _, rfl, xb, _, 0, .int e'.a, rfl, rfl, hxb, rfl, _, _, rfl, rfl, ?_⟩
    have z := k H' (Same.refl _)
    rw [show (true : Bool) = decide ((e.b : Int) < (e'.a : Int)) from (decide_eq_true (by omega)).symm] at z
    exact z
  refine ⟨D2, _, rfl, SqL.of hL3, _, rfl, ?_⟩
  rw [allT]
  refine iteF ?_
  have s13 := s12.trans s3
  have hT3 := Same.tup s3 hT2
  -- the least number
  refine ⟨_, rfl, _, rfl, _, rfl, iteF ⟨_, rfl, _, rfl, t, rfl, ⟨_, hT3⟩, fun D4 hD4 => lcT ((C.map fun e => (e.b : Int)).map V.int) (by rw [List.length_map, List.length_map]; exact hl.symm) (by omega) hT3 hD4 (fun i y x H' Q' hx hy s k => ?_) fun H4 s4 hL4 => ?_⟩⟩
  · obtain ⟨e, hre, hch⟩ := hV.get hx
    rw [List.getElem?_map, List.getElem?_map, hre] at hy
    cases hy
    obtain ⟨xa, ta, rfl, hxa, _⟩ := ChV.same (s13.trans s) hch
    exact ⟨xa, _, rfl, hxa, rfl, _, _, rfl, _, _, rfl, _, _, rfl, rfl, rfl, _, rfl, k H' (Same.refl _)⟩
  refine ⟨D4, C.map fun e => (e.b : Int), 0, rfl, rfl, SqL.of hL4, fun M h0 h1 _ => ⟨_, _, rfl, rfl, _, rfl, iteFF (decide_eq_false ?_) ?_⟩⟩
  · have hM : M ≤ (m : Int) := by
      by_cases z : C = []
      · have := h0 (by rw [z]; rfl)
        omega
      · obtain ⟨e, he, em⟩ := List.mem_map.mp (h1 fun y => z (List.map_eq_nil_iff.mp y))
        have := (hO.apt.facts he).2
        have := hO.fin
        omega
    omega
  have s14 := s13.trans s4
  have hp4 := s14 _ _ hp
  refine ⟨_, rfl, _, rfl, p, CP, dx, [], rfl, hp4, EP.cl, EP.nC, (by show 0 < 1000; decide), ?_⟩
  refine ⟨_, rfl, _, rfl, p, CP, dx, _, rfl, upd_same, EP.cl, EP.nL, (by show 1 < 1000; decide), ?_⟩
  have bt : But p H (upd (upd H4 p (.ins CP dx [("changes", .ref t)])) p (.ins CP dx [("changes", .ref t), ("least", .int m)])) := ((But.of s14).upd).upd
  exact q _ bt ⟨dx, t, cs, upd_same, but_tup hp bt hT, hV.imp fun _ _ z => but_tup hp bt z, hO⟩

theorem ok_peqH {f : Addr} {fd : FuncData} (F : Fun K "__eq__" "Patch.__eq__" sPEq f fd) (B : BN mg) (EP : PC K CP) (R : RIn K mg "Patch" CP) : L2H.FnH P w K mg base CX0 1 f fd ["self", "other"] (spPEq K CP) := by
  refine okH F scPEq (fun vs H Q E h => ?_) (fun cdv A outer s H vs Q E q0 hot hr h => ?_)
  · obtain ⟨_, _, _, _, _, _, rfl, _⟩ := h
    rfl
  obtain ⟨p, p2, C, D, m, k, rfl, ⟨dx, t, vs, hp, hT, hV, hO⟩, ⟨dx2, t2, vs2, hp2, hT2, hV2, hO2⟩, q⟩ := h
  refine ⟨_, pss_cons (ps_if (pt_not (pt_val (pe_callB call_isi rfl B.isi (by decide +kernel) (pa_cons (pv 1) (pa_cons (pgl R.g) pa_nil))))) (pss_one ps_never) pss_nil)
    (pss_one (ps_ret (pe_and (pe_cmpR (op_eqD (hu64H hr)) (pe_fld (pv 0) rfl) (pe_fld (pv 1) rfl) (nomark _)) (pe_one (pe_cmpR op_eq (pe_fld (pv 0) rfl) (pe_fld (pv 1) rfl) (nomark _)))))), ?_⟩
  refine ⟨_, rfl, .ref p2, .ref CP, .ref CP, .ref CP, true, rfl, .own _, .base (.ins hp2 EP.cl R.ha R.hn R.ht R.hm), R.kit, _, rfl, iteF ?_⟩
  refine ⟨_, rfl, p, CP, dx, _, .ref t, rfl, hp, EP.cl, EP.nC, rfl, _, rfl, p2, CP, dx2, _, .ref t2, rfl, hp2, EP.cl, EP.nC, rfl, .tuple (C.map chD), .tuple (D.map chD), .tup hT (dp_chs hV), .tup hT2 (dp_chs hV2), shaped_chsT hO.ok, shaped_chsT hO2.ok, _, rfl, ?_⟩
  rw [show PyData.eqv (.tuple (C.map chD)) (.tuple (D.map chD)) = decide (C = D) from eqv_chs C D]
  by_cases h : C = D
  · refine iteTT (decide_eq_true h) ⟨_, rfl, p, CP, dx, _, .int m, rfl, hp, EP.cl, EP.nL, rfl, _, rfl, p2, CP, dx2, _, .int k, rfl, hp2, EP.cl, EP.nL, rfl, rfl, ?_⟩
    have z := eq_end (Q := Q) (H := H) q
    rw [if_pos (decide_eq_true h)] at z
    exact z
  · refine iteFF (decide_eq_false h) ?_
    have z := eq_end (Q := Q) (H := H) q
    rw [if_neg (by rw [decide_eq_false h]; exact Bool.false_ne_true)] at z
    exact z
end
end P5

end
section
set_option Elab.async false
set_option linter.all false
set_option maxRecDepth 100000
set_option maxHeartbeats 4000000
namespace P5
open PySem PySem.Spec PySem.SeqAt PyProof.Rows L2
theorem fits_at {es : List Ed} {n i : Nat} {e : Ed} (h : Fits es n) (he : es[i]? = some e) : Fits (es.take i) n ∧ e.b ≤ siz (es.take i) n := by
  obtain ⟨hi, hd⟩ := kat_drop he
  have hs : es = es.take i ++ (e :: es.drop (i + 1)) := by rw [← hd, List.take_append_drop]
  rw [hs, Fits.app_iff2] at h
  exact ⟨h.1, h.2.1⟩
theorem PInv.few {L : Nat} {ps : List Pc} {F : List Str → List Str} {c s : Nat} (h : PInv L ps F c s) (hs : s ≤ 100) (hL : L ≤ 100) : PtOk (chg 0 [] ps) L ∧ ∀ l : List Str, L ≤ l.length → apC (chg 0 [] ps) 0 l = F l := by
  obtain ⟨i1, i2, i3⟩ := chg_ok (at_ := 0) (ws := []) h.wf (Nat.le_refl _)
  have htot := h.tot
  have ht := chg_ws ps 0 []
  simp only [List.length_nil] at ht
  have tl := (tot_le i1).2
  refine ⟨⟨i1, i2, fun e he => ?_, by omega, by omega⟩, fun l hl => ?_⟩
  · obtain ⟨f1, f2⟩ := i1.facts he
    have := tot_mem he
    exact ⟨f1, chg_mk (ws := []) h.mks (fun x hx => nomatch hx) e he, by omega, by omega⟩
  · have := i3 l hl
    rw [List.drop_zero, List.nil_append, h.den l hl] at this
    exact this
section
variable {P : Program} {w : World} {K : PySem.W.Frag} {mg : Str → Option Value} {base : Heap} {aN aS CE CP CB : Addr}
/-! ### check_patches -/
abbrev sChkP : Stmt := tp 31
theorem scChkP : FnScope ["patches", "told"] ["patches"] (defScope sChkP) := ⟨rfl, rfl, rfl, by decide +kernel, rfl, by decide +kernel, by decide +kernel⟩
def spChkP (K : PySem.W.Frag) (CP : Addr) : Sp := fun vs H Q _ => ∃ (l : Addr) (ps : List Addr), vs = [.ref l] ∧ SqL K H l (ps.map V.ref) ∧ (∀ p ∈ ps, InsI H p CP) ∧ ps.length ≤ 100 ∧ ∀ H', Same H H' → Q .non H'
theorem ok_chkp {f : Addr} {fd : FuncData} (F : Fun K "check_patches" "check_patches" sChkP f fd) (B : BN mg) (EP : PC K CP) (R : RIn K mg "Patch" CP) : FnOk P w K mg base CX0 1 f fd ["patches"] (spChkP K CP) := by
  refine F.ok scChkP (fun vs H Q E h => ?_) (fun cdv A outer s H vs Q E hr h => ?_)
  · obtain ⟨_, _, rfl, _⟩ := h
    rfl
  obtain ⟨l, ps, rfl, hS, hI, hl, q⟩ := h
  refine ⟨_, pss_one (ps_if (pt_not (pt_val (pe_callB (cr_all rfl) rfl B.all (by decide +kernel) (pa_cons (pe_lc (own := [("told", 1)]) (g := gName 1) rfl scChkP.nd (pi_list (pv 0))
      (blkOk_by (N := ["patches", "told"]) (sc := defScope sChkP) (by decide +kernel)) (fun _ _ _ _ _ => pg_name (i := 1) scChkP.nd rfl (Or.inl rfl)) (fun _ _ _ _ _ => pts_nil)
      (fun _ _ _ _ _ => pe_callB (id := "isinstance") (r := rIsi K) call_isi rfl B.isi (by decide +kernel) (pa_cons (pv 1) (pa_cons (pgl R.g) pa_nil)))) pa_nil)))) (pss_one ps_never) pss_nil), ?_⟩
  refine ⟨_, rfl, l, rfl, ⟨_, hS⟩, fun D hD => lcL ((List.replicate ps.length true).map V.bl) (by rw [List.length_map, List.length_map, List.length_replicate]) (by rw [List.length_map]; omega) hS hD (fun i y x H' Q' hx hy s k => ?_) fun H1 s1 hL => ?_⟩
  · have ey : y = .bl true := by
      obtain ⟨b, hb, e⟩ := List.mem_map.mp (List.mem_of_getElem? hy)
      rw [← e, List.eq_of_mem_replicate hb]
    rw [List.getElem?_map] at hx
    cases ep : ps[i]? with
    | none => rw [ep] at hx; cases hx
    | some p =>
      rw [ep] at hx
      cases hx
      obtain ⟨dx, fs, hp⟩ := hI p (List.mem_of_getElem? ep)
      rw [ey] at k
      exact ⟨rfl, _, rfl, .ref p, .ref CP, .ref CP, .ref CP, true, rfl, .own _, .base (.ins (s _ _ hp) EP.cl R.ha R.hn R.ht R.hm), R.kit, k H' (Same.refl _)⟩
  · refine ⟨D, _, rfl, SqL.of hL, _, rfl, ?_⟩
    rw [show (List.replicate ps.length true).all id = true from by
      rw [List.all_eq_true]
      intro b hb
      exact List.eq_of_mem_replicate hb]
    exact iteF (q H1 s1)
/-! ### patch -/
/-- a class's own instances are made -/
structure MkC (P : Program) (w : World) (K : PySem.W.Frag) (mg : Str → Option Value) (base : Heap) (x : Str) (C : Addr) (k : Nat) (ps : List Str) (sp : Sp) : Prop where
  ex : ∃ fI fdI, Mk K C fI ∧ FnOk P w K mg base CX0 k fI fdI ps sp ∧ L2.Binds K fdI ps []
  m : mg x = some (.ref C)
/-- a def of the module, by its level -/
structure Dk (P : Program) (w : World) (K : PySem.W.Frag) (mg : Str → Option Value) (base : Heap) (x : Str) (k : Nat) (ps : List Str) (sp : Sp) : Prop where
  ex : ∃ f fd, FnOk P w K mg base CX0 k f fd ps sp ∧ L2.Binds K fd ps [] ∧ PySem.W.keepIn K (.ref f) = true ∧ mg x = some (.ref f)
/-- a method of the class at C, by its level -/
structure MtK (P : Program) (w : World) (K : PySem.W.Frag) (mg : Str → Option Value) (base : Heap) (C : Addr) (k : Nat) (m : Str) (ps : List Str) (sp : Sp) : Prop where
  ex : ∃ f fd, Meth K C m f ∧ FnOk P w K mg base CX0 k f fd ps sp ∧ L2.Binds K fd ps []
abbrev sPatch : Stmt := tp 29
abbrev NPatch : List Str := ["edits", "edit", "pieces", "least", "growth"]
end
end P5

end
section
set_option Elab.async false
set_option linter.all false
set_option maxRecDepth 100000
set_option maxHeartbeats 4000000
namespace P5
open PySem PySem.Spec PySem.SeqAt PyProof.Rows L2
section
variable {P : Program} {w : World} {K : PySem.W.Frag} {mg : Str → Option Value} {base : Heap} {aN aS CE CP CB : Addr}
/-! ### behind -/
abbrev sBehind : Stmt := tp 32
abbrev NBehind : List Str := ["one", "other", "pieces", "first", "last", "words"]
theorem scBehind : FnScope NBehind ["one", "other"] (defScope sBehind) := ⟨rfl, rfl, rfl, by decide +kernel, rfl, by decide +kernel, by decide +kernel⟩
theorem ok_behind {f : Addr} {fd : FuncData} (F : Fun K "behind" "behind" sBehind f fd) (B : BN mg) (EP : PC K CP)
    (Kp : Dk P w K mg base "check_patches" 1 ["patches"] (spChkP K CP)) (Po : Dk P w K mg base "pieces_of" 1 ["changes"] (spPof K)) (D : Dk P w K mg base "edited" 2 ["pieces", "first", "last", "words"] (spEdited K)) (Ch : Dk P w K mg base "changes_of" 1 ["pieces"] (spChg K))
    (G : MtK P w K mg base CP 2 "growth" ["self"] (spPGrow K CP)) (M : MkC P w K mg base "Patch" CP 5 ["self", "changes", "least"] (spPInit K CP)) : FnOk P w K mg base CX0 12 f fd ["one", "other"] (spBeh K CP) := by
  refine F.ok scBehind (fun vs H Q E h => ?_) (fun cdv A outer s H vs Q E hr h => ?_)
  · obtain ⟨_, _, _, _, _, _, rfl, _⟩ := h
    rfl
  obtain ⟨p, p2, C, D2, m, k, rfl, q1, q2, hm, hk, htC, htD, q⟩ := h
  obtain ⟨fK, fdK, GK, bK, kK, mK⟩ := Kp.ex
  obtain ⟨fP, fdP, GP, bP, kP, mP⟩ := Po.ex
  obtain ⟨fD, fdD, GD, bD, kD, mD⟩ := D.ex
  obtain ⟨fC, fdC, GC, bC, kC, mC⟩ := Ch.ex
  obtain ⟨fG, fdG, MG, GG, bG⟩ := G.ex
  obtain ⟨fI, fdI, MI, GI, bI⟩ := M.ex
  refine ⟨_, pss_cons (ps_expr (pe_call GK (hr.mono (by decide)) rfl mK kK bK .nil pass0 (pa_cons (pe_lst (pa_cons (pv 0) (pa_cons (pv 1) pa_nil))) pa_nil)))
    (pss_cons (ps_set (i := 2) scBehind.nd rfl (Or.inl rfl) (pe_call GP (hr.mono (by decide)) rfl mP kP bP .nil pass0 (pa_cons (pe_fld (pv 0) rfl) pa_nil)))
    (pss_cons (ps_for PassesOwn.never rfl (pi_tup (pe_revT (pe_fld (pv 1) rfl))) (pg_tup rfl (pgs_cons (pg_name (i := 3) scBehind.nd rfl (Or.inl rfl)) (pgs_cons (pg_name (i := 4) scBehind.nd rfl (Or.inl rfl)) (pgs_cons (pg_name (i := 5) scBehind.nd rfl (Or.inl rfl)) pgs_nil))))
      (pss_one (ps_set (i := 2) scBehind.nd rfl (Or.inl rfl) (pe_call GD (hr.mono (by decide)) rfl mD kD bD .nil pass0 (pa_cons (pv 2) (pa_cons (pv 3) (pa_cons (pv 4) (pa_cons (pv 5) pa_nil))))))))
    (pss_one (ps_ret (pe_make (E := E0) MI GI (hr.mono (by decide)) rfl M.m bI .nil pass0 (pa_cons (pe_call GC (hr.mono (by decide)) rfl mC kC bC .nil pass0 (pa_cons (pv 2) pa_nil))
      (pa_cons (pe_callB (call_max2 rfl) rfl B.max (by decide +kernel) (pa_cons (pe_fld (pv 0) rfl) (pa_cons (pe_op op_sub (pe_fld (pv 1) rfl) (pe_meth0 (pv 0) EP.cl MG GG (hr.mono (by decide)) bG .nil pass0)) pa_nil))) pa_nil))))))), ?_⟩
  obtain ⟨dx, t, vs, hp, hT, hV, hO⟩ := id q1
  obtain ⟨dx2, t2, vs2, hp2, hT2, hV2, hO2⟩ := id q2
  refine ⟨_, rfl, _, rfl, (by show 2 ≤ sizeLine; decide), fun l0 hl0 => ?_⟩
  have s0 := Same.new hl0 (.lst [.ref p, .ref p2])
  have c0 : upd H l0 (.lst [.ref p, .ref p2]) l0 = some (.lst [.ref p, .ref p2]) := upd_same
  generalize upd H l0 (.lst [.ref p, .ref p2]) = H0 at *
  refine ⟨l0, [p, p2], rfl, SqL.of c0, fun z hz => ?_, by show 2 ≤ 100; decide, fun H1 s1 => ?_⟩
  · rcases List.mem_cons.mp hz with e | e
    · rw [e]; exact (q1.same s0).ins
    · rw [List.mem_singleton.mp e]; exact (q2.same s0).ins
  have s01 := s0.trans s1
  have tl1 := (tot_le hO.apt).2
  have tl2 := (tot_le hO2.apt).2
  have fin1 := hO.fin
  have fin2 := hO2.fin
  refine ⟨_, rfl, p, CP, dx, _, .ref t, rfl, s01 _ _ hp, EP.cl, EP.nC, rfl, t, vs, C, rfl, Same.tup s01 hT, hV.imp (fun _ _ z => Same.tup s01 z), hO.apt, hO.few, fun H2 lp pv s2 hlp hpv => ?_⟩
  have s02 := s01.trans s2
  refine ⟨_, rfl, p2, CP, dx2, _, .ref t2, rfl, s02 _ _ hp2, EP.cl, EP.nC, rfl, t2, vs2, rfl, Same.tup s02 hT2, fun r hr1 => ?_⟩
  have s3 := Same.new hr1 (.tup vs2.reverse)
  have c3 : upd H2 r (.tup vs2.reverse) r = some (.tup vs2.reverse) := upd_same
  have hlp3 := s3 _ _ hlp
  have hpv3 := hpv.same s3
  generalize upd H2 r (.tup vs2.reverse) = H3 at *
  have s03 := s02.trans s3
  have hR : RelL (ChV K H) vs2.reverse D2.reverse := RelL.rev (chs_rel.mp hV2)
  have hlr : vs2.reverse.length = D2.length := by rw [List.length_reverse]; exact hV2.len
  -- how many words it takes
  obtain ⟨J, hJ⟩ : ∃ J : Nat, J = (max (m : Int) (k - growC C)).toNat := ⟨_, rfl⟩
  have hJ2 : (J : Int) = max (m : Int) (k - growC C) := by omega
  have hJm : m ≤ J := by omega
  have hgl : ∀ l : List Str, m ≤ l.length → ((apC C 0 l).length : Int) = l.length + growC C := fun l hl => apC_len hO.apt (by omega)
  have hfit : ∀ l : List Str, J ≤ l.length → Fits D2.reverse (apC C 0 l).length := fun l hl => rev_fits hO2.apt (by have := hgl l (by omega); omega)
  have hler : ∀ e ∈ D2.reverse, e.a ≤ e.b := fun e he => (hO2.ok e (List.mem_reverse.mp he)).le
  have hg0 : -(30 : Int) ≤ growC C := by
    have := hgl (List.replicate m ("" : Str)) (by rw [List.length_replicate]; exact Nat.le_refl _)
    rw [List.length_replicate] at this
    omega
  refine ⟨r, rfl, ⟨_, SqT.of c3⟩, ?_⟩
  refine for_tup (xs := vs2.reverse) (fun i σ H' => Same H3 H' ∧ ∃ (lp : Addr) (pv : List V) (ps : List Pc) (v3 v4 v5 : Option V), H' lp = some (.lst pv) ∧ PcsV K H' pv ps ∧ PInv J ps (fun l => done (D2.reverse.take i) (apC C 0 l)) (2 * C.length + 1 + 3 * i) (tot C + tot (D2.reverse.take i)) ∧ σ = [some (.ref p), some (.ref p2), some (.ref lp), v3, v4, v5])
    ⟨Same.refl _, lp, pv, _, none, none, none, hlp3, hpv3, (PInv.ofC hO).mono hJm, rfl⟩ (fun i σ H' _ ⟨s, _⟩ => SqT.of (s _ _ c3)) ?_ ?_
  · rintro i x σ H4 hx ⟨s, lp, pv, ps, v3, v4, v5, hlp, hpv, hinv, rfl⟩
    obtain ⟨e, hre, hch⟩ := hR.get hx
    obtain ⟨hil, _⟩ := kat_drop hre
    rw [List.length_reverse] at hil
    have hoe := hO2.ok e (List.mem_reverse.mp (List.mem_of_getElem? hre))
    have s04 := s03.trans s
    obtain ⟨xa, te, rfl, hxa, hte⟩ := ChV.same s04 hch
    have et : D2.reverse.take (i + 1) = D2.reverse.take i ++ [e] := take_more hre
    have hinv' := hinv.edit (e := e) hoe.le hoe.mrk (fun z hz => by
      obtain ⟨f1, f2⟩ := fits_at (hfit z (by omega)) hre
      have hd := siz_done (es := D2.reverse.take i) (l := apC C 0 z) (fun x hx => hler x (List.mem_of_mem_take hx)) f1
      have : e.b ≤ (done (D2.reverse.take i) (apC C 0 z)).length := by omega
      exact this)
    refine ⟨xa, _, rfl, hxa, rfl, _, _, rfl, _, _, rfl, _, _, rfl, rfl, ?_⟩
    have hc1 := hinv.cnt
    refine ⟨_, rfl, _, rfl, _, rfl, _, rfl, lp, te, pv, ps, e, rfl, SqL.of hlp, hpv, hte, hoe.le, by omega, fun H5 l5 pv5 s5 hl5 hp5 => ⟨s.trans s5, l5, pv5, _, some (.int e.a), some (.int e.b), some (.ref te), hl5, hp5, ?_, rfl⟩⟩
    rw [et, tot_app, show tot [e] = e.ws.length from Nat.add_zero _, show 2 * C.length + 1 + 3 * (i + 1) = 2 * C.length + 1 + 3 * i + 3 from by omega, ← Nat.add_assoc]
    have e1 : (fun l => app e (done (D2.reverse.take i) (apC C 0 l))) = fun l => done (D2.reverse.take i ++ [e]) (apC C 0 l) := by
      funext l
      rw [done_snoc]
    rw [e1] at hinv'
    exact hinv'
  · rintro σ H4 ⟨s, lp, pv, ps, v3, v4, v5, hlp, hpv, hinv, rfl⟩
    rw [List.take_of_length_le (by rw [List.length_reverse, List.length_reverse, hV2.len]; exact Nat.le_refl _)] at hinv
    have s04 := s03.trans s
    have hc1 := hinv.cnt
    have ht1 := hinv.tot
    have htr := tot_rev D2
    refine ⟨_, rfl, lp, pv, ps, J, rfl, SqL.of hlp, hpv, hinv.wf, by omega, by omega, fun H5 t5 cv5 s5 ht5 hcv5 => ?_⟩
    have s05 := s04.trans s5
    refine ⟨_, rfl, p, CP, dx, _, .int m, rfl, s05 _ _ hp, EP.cl, EP.nL, rfl, _, rfl, p2, CP, dx2, _, .int k, rfl, s05 _ _ hp2, EP.cl, EP.nL, rfl, ?_⟩
    refine ⟨_, rfl, p, dx, _, rfl, s05 _ _ hp, rfl, p, C, m, rfl, q1.same s05, fun H6 s6 => ⟨_, _, rfl, rfl, _, _, rfl, ?_⟩⟩
    have emax : (if ((k : Int) - growC C) > (m : Int) then ((k : Int) - growC C) else (m : Int)) = (J : Int) := by
      rw [hJ2]
      by_cases z : ((k : Int) - growC C) > (m : Int)
      · rw [if_pos z]; omega
      · rw [if_neg z]; omega
    rw [emax]
    obtain ⟨ok1, run1⟩ := hinv.few (by omega) (by omega)
    refine mk_pt (Q := fun x H2 => Q (.ref x) H2) (Same.tup s6 ht5) (hcv5.imp fun _ _ z => Same.tup s6 z) ok1 fun H7 x s7 fx q7 => ?_
    refine q H7 x _ J (s05.trans (s6.trans s7)) (fresh_of (s05.trans s6) fx) q7 (fun n => by omega) fun l hl => ?_
    rw [run1 l hl]
    exact rev_ok hO2.apt [] (apC C 0 l) rfl (by have := hgl l (by omega); omega)
/-! ### checked_words, of lists and tuples -/
def spChkE (K : PySem.W.Frag) : Sp := fun vs H Q _ => ∃ (a : Addr) (ws : List Str), vs = [.ref a] ∧ WsE K H a ws ∧ ∀ H' p, Same H H' → H p = none → H' p = some (.lst (ws.map V.str)) → Q (.ref p) H'
theorem ok_chkE {f f1 : Addr} {fd fd1 : FuncData} (F : Fun K "checked_words" "checked_words" sChk f fd) (T : KC K mg aN aS)
    (G1 : FnOk P w K mg base CX0 3 f1 fd1 ["thing"] spMark) (b1 : Binds K fd1 ["thing"] []) (k1 : PySem.W.keepIn K (.ref f1) = true) (m1 : mg "is_mark" = some (.ref f1)) : FnOk P w K mg base CX0 4 f fd ["words"] (spChkE K) := by
  refine F.ok scChk (fun vs H Q E h => ?_) (fun cdv A outer s H vs Q E hr h => ?_)
  · obtain ⟨x, _, rfl, _⟩ := h
    rfl
  obtain ⟨a, ws, rfl, ⟨hS, hw, hl⟩, q⟩ := h
  obtain ⟨tk, gM⟩ := T.gM
  refine ⟨_, pss_cons (ps_if (PW.pt (pw_or (pt_not (pt_val (pe_callB call_isiT rfl T.isi (by decide +kernel) (pa_cons (pv 0) (pa_cons (pe_tup (pa_cons (pe_lstT T.lst) (pa_cons (pe_tupT T.tup) pa_nil))) pa_nil)))))
      (pw_or1 (pt_cmpR op_gt (pe_callB call_len_seq rfl T.len PySem.boot_len (pa_cons (pv 0) pa_nil)) (pe_glob (v := .int 200) rfl gM ⟨_, rfl⟩) (nomark _))))) (pss_one ps_never) pss_nil)
    (pss_cons (ps_if (pt_not (pt_val (pe_callB (cr_all rfl) rfl T.all (by decide +kernel) (pa_cons (pe_lc (own := [("word", 1)]) (g := gName 1) rfl scChk.nd (pi_alt (pi_list (pv 0)) (pi_tup (pv 0)))
      (blkOk_by (N := ["words", "word"]) (sc := defScope sChk) (by decide +kernel)) (fun _ _ _ _ _ => pg_name (i := 1) scChk.nd rfl (Or.inl rfl))
      (fun _ _ _ _ _ => pts_nil) (fun _ _ _ _ _ => pe_call G1 hr rfl m1 k1 b1 .nil pass0 (pa_cons (pv 1) pa_nil))) pa_nil)))) (pss_one ps_never) pss_nil)
    (pss_one (ps_ret (pe_callTy call_list_of rfl T.lst (by decide +kernel) (pa_cons (pv 0) pa_nil))))), ?_⟩
  refine ⟨_, rfl, (by show 2 ≤ sizeLine; decide), fun p hp => ?_⟩
  have s1 := Same.new hp (.tup [.ty "list", .ty "tuple"])
  have hS1 := hS.same s1
  have hty : ∃ tn : String, TyX K (upd H p (.tup [.ty "list", .ty "tuple"])) (.ref a) (.type tn) ∧ PySem.W.kitAny K (.type tn) [.type "list", .type "tuple"] = some true := by
    rcases hS1 with hS1 | hS1
    · exact ⟨"list", sqL_ty hS1, kitAny_cons (b := true) (kit_ty (by decide +kernel)) (fun z => nomatch z) (fun _ => rfl)⟩
    · exact ⟨"tuple", sqT_ty hS1, kitAny_cons (b := false) (kit_ty (by decide +kernel)) (fun _ => kitAny_cons (b := true) (kit_ty (by decide +kernel)) (fun z => nomatch z) (fun _ => rfl)) (fun z => nomatch z)⟩
  obtain ⟨tn, hty1, hty2⟩ := hty
  refine ⟨.ref a, p, [.ty "list", .ty "tuple"], .type tn, [.type "list", .type "tuple"], true, rfl, upd_same, .cons (.ty _) (.cons (.ty _) .nil), hty1, hty2, _, rfl, iteF ?_⟩
  refine ⟨_, rfl, a, _, rfl, hS1, _, _, rfl, rfl, _, rfl, iteFF (decide_eq_false (by rw [List.length_map]; omega)) ?_⟩
  have turn : ∀ (i : Nat) (y x : V) (H' : Hp) (Q' : VK), (ws.map V.str)[i]? = some x → ((List.replicate ws.length true).map V.bl)[i]? = some y → (∀ H4, Same H' H4 → Q' y H4) → ∃ z ∈ MRK, [x] = [V.str z] ∧ ∀ H4, Same H' H4 → Q' (.bl true) H4 := fun i y x H' Q' hx hy k => by
    have ey : y = .bl true := by
      obtain ⟨b, hb, e⟩ := List.mem_map.mp (List.mem_of_getElem? hy)
      rw [← e, List.eq_of_mem_replicate hb]
    rw [List.getElem?_map] at hx
    cases e2 : ws[i]? with
    | none => rw [e2] at hx; cases hx
    | some z =>
      rw [e2] at hx
      cases hx
      subst ey
      exact ⟨z, hw z (List.mem_of_getElem? e2), rfl, fun H' s' => k H' s'⟩
  have trues : (List.replicate ws.length true).all id = true := by
    rw [List.all_eq_true]
    intro b hb
    exact List.eq_of_mem_replicate hb
  rcases hS1 with hS1 | hS1
  · refine .inl ⟨_, rfl, a, rfl, ⟨_, hS1⟩, fun D hN => lcL ((List.replicate ws.length true).map V.bl) (by rw [List.length_map, List.length_replicate, List.length_map]) (by rw [List.length_map]; omega) hS1 hN (fun i y x H' Q' hx hy s k => ?_) fun H' s hL => ?_⟩
    · obtain ⟨z, hz, ez, kz⟩ := turn i y x H' Q' hx hy k
      cases ez
      exact ⟨rfl, _, rfl, z, hz, rfl, kz⟩
    refine ⟨D, _, rfl, SqL.of hL, _, rfl, ?_⟩
    rw [trues]
    refine iteF ⟨_, rfl, a, _, rfl, .inl (s.seq hS1), fun l hl2 => ?_⟩
    exact q _ l ((s1.trans s).trans (Same.new hl2 _)) (fresh_of (s1.trans s) hl2) upd_same
  · refine .inr ⟨_, rfl, a, rfl, ⟨_, hS1⟩, fun D hN => lcT ((List.replicate ws.length true).map V.bl) (by rw [List.length_map, List.length_replicate, List.length_map]) (by rw [List.length_map]; omega) hS1 hN (fun i y x H' Q' hx hy s k => ?_) fun H' s hL => ?_⟩
    · obtain ⟨z, hz, ez, kz⟩ := turn i y x H' Q' hx hy k
      cases ez
      exact ⟨rfl, _, rfl, z, hz, rfl, kz⟩
    refine ⟨D, _, rfl, SqL.of hL, _, rfl, ?_⟩
    rw [trues]
    refine iteF ⟨_, rfl, a, _, rfl, .inr (Same.tup s hS1), fun l hl2 => ?_⟩
    exact q _ l ((s1.trans s).trans (Same.new hl2 _)) (fresh_of (s1.trans s) hl2) upd_same
end
end P5

end
section
set_option Elab.async false
set_option linter.all false
set_option maxRecDepth 100000
set_option maxHeartbeats 4000000
namespace P5
open PySem PySem.Spec PySem.SeqAt PyProof.Rows L2
theorem done_tot : ∀ {es : List Ed} {l : List Str}, (∀ e ∈ es, e.a ≤ e.b) → Fits es l.length → (done es l).length ≤ l.length + tot es
  | [], l, _, _ => Nat.le_refl _
  | e :: es, l, h, hf => by
    have h1 := h e List.mem_cons_self
    have hs := app_siz hf.1 h1
    have ih := done_tot (es := es) (l := app e l) (fun x hx => h x (List.mem_cons_of_mem _ hx)) (by rw [hs]; exact hf.2)
    show (done es (app e l)).length ≤ l.length + (e.ws.length + tot es)
    omega
theorem tot_take (es : List Ed) (i : Nat) : tot (es.take i) ≤ tot es := by
  have h := tot_app (es.take i) (es.drop i)
  rw [List.take_append_drop] at h
  omega
/-- an own error class without an __init__ -/
structure XF (K : PySem.W.Frag) (mg : Str → Option Value) (x : Str) (C : Addr) : Prop where
  g : mg x = some (.ref C)
  xP : PySem.W.excIn K C [.type "ValueError", .type "Exception", .type "BaseException", .type "object"] "ValueError.__new__" = true
  kP : PySem.W.keepIn K (.ref C) = true
  bP : PySem.W.subIn K (.ref C) (.type "BaseException") = some true
  tP : PySem.W.typeIn K (.ref C) = some (.type "type")
section
variable {P : Program} {w : World} {K : PySem.W.Frag} {mg : Str → Option Value} {base : Heap} {aN aS CE CP CB : Addr}
/-- a def by its body that may raise, the exception's context told -/
theorem okN {x qual : Str} {st : Stmt} {f : Addr} {fd : FuncData} {N ps : List Str} {k : Nat} {sp : Sp} (F : Fun K x qual st f fd) (S : FnScope N ps (defScope st)) (len : ∀ vs H Q E, sp vs H Q E → vs.length = ps.length)
    (body : ∀ (cdv : Value) (A : Around) (outer : List Env) (s : Shared) (H : Hp) (vs : List V) (Q : VK) (E : XK), Room k (A.deeper (envOfC qual (defScope st) s.heap.objs.size f cdv)) → sp vs H Q E →
      ∃ t, PSs (cxOf (L2N.CX P w) P w K mg base N qual (defScope st) f cdv A outer s H E) (defBody st) t ∧ t { nx := fun _ H' => Q .non H', rt := Q } (L2.start N vs) H) : FnOk P w K mg base (L2N.CX P w) (k + 1) f fd ps sp := by
  obtain ⟨_, _, _, _, _, _, cdv, _, _, rfl, lk, hcd⟩ := F.ex
  exact fn_of lk hcd S len fun A outer s H vs Q E hr => body cdv A outer s H vs Q E hr
abbrev sPCall : Stmt := inClass (tp 25) 5
abbrev NPCall : List Str := ["self", "words", "told", "first", "last", "more"]
theorem scPCall : FnScope NPCall ["self", "words"] (defScope sPCall) := ⟨rfl, rfl, rfl, by decide +kernel, rfl, by decide +kernel, by decide +kernel⟩
theorem ok_pcall {f : Addr} {fd : FuncData} (F : Fun K "__call__" "Patch.__call__" sPCall f fd) (B : BN mg) (EP : PC K CP) (XB : XF K mg "BadEdit" CB)
    (Cw : Dk P w K mg base "checked_words" 4 ["words"] (spChkE K)) : FnOk P w K mg base (L2N.CX P w) 5 f fd ["self", "words"] (spPCall K CP CB) := by
  refine okN F scPCall (fun vs H Q E h => ?_) (fun cdv A outer s H vs Q E hr h => ?_)
  · obtain ⟨_, _, _, _, _, rfl, _⟩ := h
    rfl
  obtain ⟨p, l, C, m, ws, rfl, ⟨dx, t, vs, hp, hT, hV, hO⟩, hw, hlen, qQ, qE⟩ := h
  obtain ⟨fC, fdC, GC, bC, kC, mC⟩ := Cw.ex
  refine ⟨_, pss_cons (ps_set (i := 2) scPCall.nd rfl (Or.inl rfl) (pe_call GC hr rfl mC kC bC .nil pass0 (pa_cons (pv 1) pa_nil)))
    (pss_cons (ps_if (pt_cmpR op_lt (pe_callB call_len_seq rfl B.len PySem.boot_len (pa_cons (pv 2) pa_nil)) (pe_fld (pv 0) rfl) (nomark _))
      (pss_one (L2N.ps_raise rfl (L2N.takes_of rfl rfl rfl rfl) (L2N.pmk_own PySem.F.excBase_ValueError XB.xP XB.g XB.kP (raises_own XB.bP XB.tP) rfl))) pss_nil)
    (PSs.nox (pss_cons (ps_for PassesOwn.never rfl (pi_tup (pe_revT (pe_fld (pv 0) rfl))) (pg_tup rfl (pgs_cons (pg_name (i := 3) scPCall.nd rfl (Or.inl rfl)) (pgs_cons (pg_name (i := 4) scPCall.nd rfl (Or.inl rfl)) (pgs_cons (pg_name (i := 5) scPCall.nd rfl (Or.inl rfl)) pgs_nil))))
      (pss_one (ps_set (i := 2) scPCall.nd rfl (Or.inl rfl) (pe_op op_cat (pe_op op_cat (pe_slice (r := rSlL K) sl_list (pv 2) po_none (po_some (pv 3))) (pe_callTy call_list_of rfl B.lst (by decide +kernel) (pa_cons (pv 5) pa_nil)))
        (pe_slice (r := rSlL K) sl_list (pv 2) (po_some (pv 4)) po_none)))))
    (pss_one (ps_ret (pv 2)))))), ?_⟩
  refine ⟨_, rfl, l, ws, rfl, hw, fun H1 u s1 fu hu => ?_⟩
  have hwl : (ws.map V.str).length = ws.length := List.length_map ..
  refine ⟨_, rfl, u, _, rfl, .inl (SqL.of hu), _, rfl, p, CP, dx, _, .int m, rfl, s1 _ _ hp, EP.cl, EP.nL, rfl, _, _, rfl, rfl, _, rfl, ?_⟩
  by_cases c : ws.length < m
  · exact iteTT (decide_eq_true (by rw [hwl]; omega)) (qE c H1 s1)
  refine iteFF (decide_eq_false (by rw [hwl]; omega)) ?_
  have hm : m ≤ ws.length := by omega
  have qQ := qQ hm
  have fin := hO.fin
  have sm := hw.sm
  have hfit : Fits C.reverse ws.length := rev_fits hO.apt (by omega)
  have hler : ∀ e ∈ C.reverse, e.a ≤ e.b := fun e he => (hO.ok e (List.mem_reverse.mp he)).le
  have htot : tot C ≤ 200 := by
    have h1 := apC_len (l := ws) hO.apt (by omega)
    have h2 := (tot_le hO.apt).1
    omega
  have hrun : done C.reverse ws = apC C 0 ws := rev_ok hO.apt [] ws rfl (by omega)
  have hR : RelL (ChV K H) vs.reverse C.reverse := RelL.rev (chs_rel.mp hV)
  have sz : ∀ {n : Nat}, n ≤ 1000 → n ≤ sizeLine := fun h => small_le h
  refine ⟨_, rfl, p, CP, dx, _, .ref t, rfl, s1 _ _ hp, EP.cl, EP.nC, rfl, t, vs, rfl, Same.tup s1 hT, fun r hr1 => ?_⟩
  have s2 := Same.new hr1 (.tup vs.reverse)
  have c2 : upd H1 r (.tup vs.reverse) r = some (.tup vs.reverse) := upd_same
  have hu2 := s2 _ _ hu
  have s12 := s1.trans s2
  have fu2 : H u = none := fu
  generalize upd H1 r (.tup vs.reverse) = H2 at *
  refine ⟨r, rfl, ⟨_, SqT.of c2⟩, ?_⟩
  refine for_tup (xs := vs.reverse) (fun i σ H' => Same H2 H' ∧ ∃ (lt : Addr) (v3 v4 v5 : Option V), H lt = none ∧ H' lt = some (.lst ((done (C.reverse.take i) ws).map V.str)) ∧ (∀ x ∈ done (C.reverse.take i) ws, x ∈ MRK) ∧ σ = [some (.ref p), some (.ref l), some (.ref lt), v3, v4, v5])
    ⟨Same.refl _, u, none, none, none, fu, hu2, hw.mrk, rfl⟩ (fun i σ H' _ ⟨s, _⟩ => SqT.of (s _ _ c2)) ?_ ?_
  · rintro i x σ H3 hx ⟨s, lt, v3, v4, v5, flt, hlt, hmk, rfl⟩
    obtain ⟨e, hre, hch⟩ := hR.get hx
    have hoe := hO.ok e (List.mem_reverse.mp (List.mem_of_getElem? hre))
    have s13 := s12.trans s
    obtain ⟨xa, te, rfl, hxa, hte⟩ := ChV.same s13 hch
    have et : C.reverse.take (i + 1) = C.reverse.take i ++ [e] := take_more hre
    obtain ⟨f1, f2⟩ := fits_at hfit hre
    have hle' : ∀ x ∈ C.reverse.take i, x.a ≤ x.b := fun x hx => hler x (List.mem_of_mem_take hx)
    have hd := siz_done hle' f1
    have hd2 := done_tot hle' f1
    have hd3 := tot_take C.reverse i
    rw [tot_rev] at hd3
    obtain ⟨W, hW⟩ : ∃ W, W = done (C.reverse.take i) ws := ⟨_, rfl⟩
    rw [← hW] at hlt hmk hd hd2
    have ha := hoe.le
    have hes := hoe.sm
    have WL : (W.map V.str).length = W.length := List.length_map ..
    refine ⟨xa, _, rfl, hxa, rfl, _, _, rfl, _, _, rfl, _, _, rfl, rfl, ?_⟩
    refine ⟨_, rfl, _, rfl, e.a, rfl, lt, _, rfl, SqL.of hlt, fun l1 hl1 => ?_⟩
    have s4 := Same.new hl1 (.lst (cutV (W.map V.str) none (some (e.a : Int))))
    have c4 : upd H3 l1 (.lst (cutV (W.map V.str) none (some (e.a : Int)))) l1 = some (.lst ((W.take e.a).map V.str)) := by
      rw [upd_same, cut_to _ _ (by rw [WL]; omega), List.map_take]
    generalize upd H3 l1 (.lst (cutV (W.map V.str) none (some (e.a : Int)))) = H4 at *
    refine ⟨_, rfl, te, _, rfl, .inr (Same.tup s4 hte), fun l2 hl2 => ?_⟩
    have s5 := Same.new hl2 (.lst (e.ws.map V.str))
    have c5 : upd H4 l2 (.lst (e.ws.map V.str)) l2 = some (.lst (e.ws.map V.str)) := upd_same
    have c4' := s5 _ _ c4
    generalize upd H4 l2 (.lst (e.ws.map V.str)) = H5 at *
    refine ⟨l1, l2, _, _, rfl, rfl, c4', c5, sz (by rw [List.length_map, List.length_map, List.length_take]; omega), fun l3 hl3 => ?_⟩
    have s6 := Same.new hl3 (.lst ((W.take e.a).map V.str ++ e.ws.map V.str))
    have c6 : upd H5 l3 (.lst ((W.take e.a).map V.str ++ e.ws.map V.str)) l3 = some (.lst ((W.take e.a).map V.str ++ e.ws.map V.str)) := upd_same
    generalize upd H5 l3 (.lst ((W.take e.a).map V.str ++ e.ws.map V.str)) = H6 at *
    have s46 := (s4.trans s5).trans s6
    refine ⟨_, rfl, _, rfl, e.b, rfl, noPart ⟨lt, _, rfl, SqL.of (s46 _ _ hlt), fun l4 hl4 => ?_⟩⟩
    have s7 := Same.new hl4 (.lst (cutV (W.map V.str) (some (e.b : Int)) none))
    have c7 : upd H6 l4 (.lst (cutV (W.map V.str) (some (e.b : Int)) none)) l4 = some (.lst ((W.drop e.b).map V.str)) := by
      rw [upd_same, cut_from _ _ (by rw [WL]; omega), List.map_drop]
    have c6' := s7 _ _ c6
    generalize upd H6 l4 (.lst (cutV (W.map V.str) (some (e.b : Int)) none)) = H7 at *
    refine ⟨l3, l4, _, _, rfl, rfl, c6', c7, sz (by rw [List.length_append, List.length_map, List.length_map, List.length_map, List.length_take, List.length_drop]; omega), fun l5 hl5 => ?_⟩
    have s8 := Same.new hl5 (.lst (((W.take e.a).map V.str ++ e.ws.map V.str) ++ (W.drop e.b).map V.str))
    have s47 := s46.trans s7
    refine ⟨s.trans (s47.trans s8), l5, _, _, _, fresh_of (s13.trans s47) hl5, ?_, ?_, rfl⟩
    · rw [et, done_snoc, ← hW, upd_same]
      unfold app
      rw [List.map_append, List.map_append]
    · rw [et, done_snoc, ← hW]
      exact app_mrk hoe.mrk hmk
  · rintro σ H3 ⟨s, lt, v3, v4, v5, flt, hlt, hmk, rfl⟩
    rw [List.take_of_length_le (by rw [List.length_reverse, List.length_reverse, hV.len]; exact Nat.le_refl _), hrun] at hlt hmk
    exact ⟨_, rfl, qQ H3 lt (s12.trans s) flt ⟨hlt, hmk, hlen⟩⟩
end
end P5

end
section
set_option Elab.async false
set_option linter.all false
set_option maxRecDepth 100000
set_option maxHeartbeats 4000000
/-! instances: told true or false by an own __bool__; == by an own __eq__ -/
namespace P5
open PySem PySem.Spec PySem.SeqAt PyProof.Rows L2
theorem tru_ins {X : Cx} {C f : Addr} {fd : FuncData} {k : Nat} {ps : List Str} {sp : Sp} (hs : PySem.W.findIn X.K (.ref C) "__bool__" = some (some (.ref f))) (hf : PySem.W.isFn X.K (.ref f) = true) (F : FnOk X.prog X.w X.K X.mg X.base CX0 k f fd ps sp) (hb : L2.Binds X.K fd ps []) (hr : Room k X.A) :
    TruR X (fun x H Q => ∃ (a : Addr), x = .ref a ∧ InsI H a C ∧ sp [.ref a] H (fun v H' => ∃ b, v = .bl b ∧ Q b H') (fun _ _ _ => False)) := by
  intro pins s σ H x v Q I rx h
  obtain ⟨a, rfl, ho, q⟩ := h
  cases (show v = Value.ref a from rx)
  obtain ⟨ox, od, J⟩ := insI_at I ho
  obtain ⟨m, hF⟩ := I.fr
  refine PySem.W.truthy_K hF I.ok.mod.kin J hs hf ?_
  refine wpAny_mono (call_own (us := [.ref a]) (vs := [.ref a]) F hr hb I I.env0 (.cons rfl .nil) q) (fun z s' hz => ?_) fun _ _ e => e
  obtain ⟨v', H', I', rz, b, rfl, hQ⟩ := hz
  cases (show z = Value.bool b from rz)
  exact ⟨H', I', hQ⟩
theorem tru_alt {X : Cx} {r1 r2 : V → Hp → (Bool → Hp → Prop) → Prop} (h1 : TruR X r1) (h2 : TruR X r2) : TruR X (fun x H Q => r1 x H Q ∨ r2 x H Q) := by
  intro pins s σ H x v Q I rx h
  rcases h with h | h
  · exact h1 pins s σ H x v Q I rx h
  · exact h2 pins s σ H x v Q I rx h
theorem opr_alt {X : Cx} {op} {r1 r2 : R2} (h1 : OpR X op r1) (h2 : OpR X op r2) : OpR X op (fun x y H Q => r1 x y H Q ∨ r2 x y H Q) := by
  intro pins s σ H x y v u Q I rx ry h
  rcases h with h | h
  · exact h1 pins s σ H x y v u Q I rx ry h
  · exact h2 pins s σ H x y v u Q I rx ry h
theorem op_eqO {X : Cx} {CE f : Addr} {fd : FuncData} {k : Nat} {ps : List Str} {sp : Sp} (hs : PySem.W.findIn X.K (.ref CE) "__eq__" = some (some (.ref f))) (hf : PySem.W.isFn X.K (.ref f) = true) (F : FnOk X.prog X.w X.K X.mg X.base CX0 k f fd ps sp) (hb : L2.Binds X.K fd ps []) (hr : Room k X.A) :
    OpR X (compareOp .Eq) (fun x y H Q => ∃ (a b : Addr), x = .ref a ∧ y = .ref b ∧ InsI H a CE ∧ InsI H b CE ∧ sp [.ref a, .ref b] H (fun v H' => ∃ c, v = .bl c ∧ Q (.bl c) H') (fun _ _ _ => False)) := by
  intro pins s σ H x y v u Q I rx ry h
  obtain ⟨a, b, rfl, rfl, ho, ho2, q⟩ := h
  cases (show v = Value.ref a from rx)
  cases (show u = Value.ref b from ry)
  show wpAny (model X.prog X.w) X.A (richCompare .Eq (.ref a) (.ref b)) (EP X pins σ Q) X.xe s
  obtain ⟨ox, od, J⟩ := insI_at I ho
  obtain ⟨ox2, od2, J2⟩ := insI_at I ho2
  obtain ⟨m, hF⟩ := I.fr
  refine PySem.W.cmp_K (op := .Eq) (tb := .ref CE) hr.units0 hF I.ok.mod.kin J J2.type (by simp [PySem.W.notFirst]) hs hf ?_
  refine wpAny_mono (call_own (us := [.ref a, .ref b]) (vs := [.ref a, .ref b]) F hr hb I I.env0 (.cons rfl (.cons rfl .nil)) q) (fun z s' hz => ?_) fun _ _ e => e
  obtain ⟨v', H', I', rz, c, rfl, hQ⟩ := hz
  cases (show z = Value.bool c from rz)
  exact ⟨.bl c, H', I', rfl, hQ⟩
end P5

end
section
set_option Elab.async false
set_option linter.all false
set_option maxRecDepth 100000
set_option maxHeartbeats 4000000
/-! copied, Together, Clash -/
namespace P5
open PySem PySem.Spec PySem.SeqAt PyProof.Rows L2
theorem PtH.but {K : PySem.W.Frag} {CP x p C0 dx : Addr} {fs : List (Str × V)} {H H' : Hp} {C : List Ed} {m : Nat} (hx : x ≠ p) (hp : H p = some (.ins C0 dx fs)) (b : But p H H') (h : PtH K CP H x C m) : PtH K CP H' x C m := by
  obtain ⟨dx1, t, vs, h1, hT, hV, hO⟩ := h
  exact ⟨dx1, t, vs, b _ _ hx h1, but_tup hp b hT, hV.imp fun a xs z => but_tup hp b z, hO⟩
theorem PtH.ne_new {K : PySem.W.Frag} {CP CT x p dx : Addr} {H : Hp} {C : List Ed} {m : Nat} (h : PtH K CP H x C m) (hp : H p = some (.ins CT dx [])) : x ≠ p := by
  obtain ⟨dx1, t, vs, h1, _⟩ := h
  exact fun z => by rw [z, hp] at h1; cases h1
/-- the classes of the answers -/
structure TC (K : PySem.W.Frag) (C : Addr) : Prop where
  cl : Cls K C
  nW : NoAttr K C "whole"
  nO : NoAttr K C "one"
  nR : NoAttr K C "other"
structure CC2 (K : PySem.W.Frag) (C : Addr) : Prop where
  cl : Cls K C
  nO : NoAttr K C "one"
  nR : NoAttr K C "other"
def TgFs (w u o : Addr) : List (Str × V) := [("whole", .ref w), ("one", .ref u), ("other", .ref o)]
def TgH (K : PySem.W.Frag) (CP CT : Addr) (H : Hp) (p : Addr) (W U O : List Ed) (i j k : Nat) : Prop := ∃ dx w u o, H p = some (.ins CT dx (TgFs w u o)) ∧ PtH K CP H w W i ∧ PtH K CP H u U j ∧ PtH K CP H o O k
theorem TgH.same {K : PySem.W.Frag} {CP CT p : Addr} {H H' : Hp} {W U O : List Ed} {i j k : Nat} (s : Same H H') (h : TgH K CP CT H p W U O i j k) : TgH K CP CT H' p W U O i j k := by
  obtain ⟨dx, w, u, o, h1, h2, h3, h4⟩ := h
  exact ⟨dx, w, u, o, s _ _ h1, h2.same s, h3.same s, h4.same s⟩
theorem TgH.ins {K : PySem.W.Frag} {CP CT p : Addr} {H : Hp} {W U O : List Ed} {i j k : Nat} (h : TgH K CP CT H p W U O i j k) : InsI H p CT := by
  obtain ⟨dx, w, u, o, h1, _⟩ := h
  exact ⟨_, _, h1⟩
def ClFs (a b : Int) : List (Str × V) := [("one", .int a), ("other", .int b)]
def ClH (CC : Addr) (H : Hp) (p : Addr) (a b : Int) : Prop := ∃ dx, H p = some (.ins CC dx (ClFs a b))
theorem ClH.same {CC p : Addr} {H H' : Hp} {a b : Int} (s : Same H H') (h : ClH CC H p a b) : ClH CC H' p a b := by
  obtain ⟨dx, h1⟩ := h
  exact ⟨dx, s _ _ h1⟩
theorem ClH.ins {CC p : Addr} {H : Hp} {a b : Int} (h : ClH CC H p a b) : InsI H p CC := by
  obtain ⟨dx, h1⟩ := h
  exact ⟨_, _, h1⟩
section
variable {P : Program} {w : World} {K : PySem.W.Frag} {mg : Str → Option Value} {base : Heap} {aN aS CE CP CB CT CC : Addr}
abbrev sCop : Stmt := tp 28
theorem scCop : FnScope ["told"] ["told"] (defScope sCop) := ⟨rfl, rfl, rfl, by decide +kernel, rfl, by decide +kernel, by decide +kernel⟩
def spCop (K : PySem.W.Frag) (CP : Addr) : Sp := fun vs H Q _ => ∃ (p : Addr) (C : List Ed) (m : Nat), vs = [.ref p] ∧ PtH K CP H p C m ∧ ∀ H' x, Same H H' → H x = none → PtH K CP H' x C m → Q (.ref x) H'
theorem ok_cop {f : Addr} {fd : FuncData} (F : Fun K "copied" "copied" sCop f fd) (EP : PC K CP) (M : MkC P w K mg base "Patch" CP 5 ["self", "changes", "least"] (spPInit K CP)) : FnOk P w K mg base CX0 7 f fd ["told"] (spCop K CP) := by
  refine F.ok scCop (fun vs H Q E h => ?_) (fun cdv A outer s H vs Q E hr h => ?_)
  · obtain ⟨_, _, _, rfl, _⟩ := h
    rfl
  obtain ⟨p, C, m, rfl, ⟨dx, t, vs, hp, hT, hV, hO⟩, q⟩ := h
  obtain ⟨fI, fdI, MI, GI, bI⟩ := M.ex
  refine ⟨_, pss_one (ps_ret (pe_make (E := E0) MI GI hr rfl M.m bI .nil pass0 (pa_cons (pe_fld (pv 0) rfl) (pa_cons (pe_fld (pv 0) rfl) pa_nil)))), ?_⟩
  refine ⟨_, rfl, p, CP, dx, _, .ref t, rfl, hp, EP.cl, EP.nC, rfl, _, rfl, p, CP, dx, _, .int m, rfl, hp, EP.cl, EP.nL, rfl, ?_⟩
  exact mk_pt (Q := fun x H2 => Q (.ref x) H2) hT hV hO fun H' x s fx qx => q H' x s fx qx
/-! ### Together -/
abbrev sTIni : Stmt := inClass (tp 26) 0
abbrev NTIni : List Str := ["self", "whole", "one", "other"]
theorem scTIni : FnScope NTIni NTIni (defScope sTIni) := ⟨rfl, rfl, rfl, by decide +kernel, rfl, by decide +kernel, by decide +kernel⟩
def spTIni (K : PySem.W.Frag) (CP CT : Addr) : Sp := fun vs H Q _ => ∃ (p dx a b c : Addr) (W U O : List Ed) (i j k : Nat), vs = [.ref p, .ref a, .ref b, .ref c] ∧ H p = some (.ins CT dx []) ∧ PtH K CP H a W i ∧ PtH K CP H b U j ∧ PtH K CP H c O k ∧
  ∀ H', But p H H' → TgH K CP CT H' p W U O i j k → Q .non H'
theorem ok_tini {f : Addr} {fd : FuncData} (F : Fun K "__init__" "Together.__init__" sTIni f fd) (ET : TC K CT) (D : Dk P w K mg base "copied" 7 ["told"] (spCop K CP)) : FnOk P w K mg base CX0 8 f fd NTIni (spTIni K CP CT) := by
  refine F.ok scTIni (fun vs H Q E h => ?_) (fun cdv A outer s H vs Q E hr h => ?_)
  · obtain ⟨_, _, _, _, _, _, _, _, _, _, _, rfl, _⟩ := h
    rfl
  obtain ⟨p, dx, a, b, c, W, U, O, i, j, k, rfl, hp, qa, qb, qc, q⟩ := h
  obtain ⟨fC, fdC, GC, bC, kC, mC⟩ := D.ex

  refine ⟨_, pss_cons (ps_fld (pv 0) (pe_call GC hr rfl mC kC bC .nil pass0 (pa_cons (pv 1) pa_nil)) rfl) (pss_cons (ps_fld (pv 0) (pe_call GC hr rfl mC kC bC .nil pass0 (pa_cons (pv 2) pa_nil)) rfl)
    (pss_one (ps_fld (pv 0) (pe_call GC hr rfl mC kC bC .nil pass0 (pa_cons (pv 3) pa_nil)) rfl))), ?_⟩
  have na := qa.ne_new hp
  have nb := qb.ne_new hp
  have nc := qc.ne_new hp
  refine ⟨_, rfl, a, W, i, rfl, qa, fun H1 w1 s1 fw qw => ?_⟩
  have hp1 := s1 _ _ hp
  refine ⟨_, rfl, p, CT, dx, [], rfl, hp1, ET.cl, ET.nW, (by show 0 < 1000; decide), ?_⟩
  have nw : w1 ≠ p := Ne.symm (ne_of_none hp fw)
  have b1 : But p H1 (upd H1 p (.ins CT dx [("whole", .ref w1)])) := (But.of (Same.refl H1)).upd
  have hp2 : upd H1 p (.ins CT dx [("whole", .ref w1)]) p = some (.ins CT dx [("whole", .ref w1)]) := upd_same
  have qb2 := (qb.same s1).but nb hp1 b1
  have qc2 := (qc.same s1).but nc hp1 b1
  have qw2 := qw.but nw hp1 b1
  refine ⟨_, rfl, b, U, j, rfl, qb2, fun H3 u s3 fu qu => ?_⟩
  have bt2 : But p H H3 := ((But.of s1).upd (o := .ins CT dx [("whole", .ref w1)])).tr s3
  have hp3 := s3 _ _ hp2
  have nu : u ≠ p := Ne.symm (ne_of_none hp2 fu)
  refine ⟨_, rfl, p, CT, dx, _, rfl, hp3, ET.cl, ET.nO, (by show 1 < 1000; decide), ?_⟩
  have b3 : But p H3 (upd H3 p (.ins CT dx [("whole", .ref w1), ("one", .ref u)])) := (But.of (Same.refl H3)).upd
  have hp4 : upd H3 p (.ins CT dx [("whole", .ref w1), ("one", .ref u)]) p = some (.ins CT dx [("whole", .ref w1), ("one", .ref u)]) := upd_same
  have qc4 := (qc2.same s3).but nc hp3 b3
  have qw4 := (qw2.same s3).but nw hp3 b3
  have qu4 := qu.but nu hp3 b3
  refine ⟨_, rfl, c, O, k, rfl, qc4, fun H5 o s5 fo qo => ?_⟩
  have bt5 : But p H H5 := (bt2.upd (o := .ins CT dx [("whole", .ref w1), ("one", .ref u)])).tr s5
  have hp5 := s5 _ _ hp4
  have no : o ≠ p := Ne.symm (ne_of_none hp4 fo)
  refine ⟨_, rfl, p, CT, dx, _, rfl, hp5, ET.cl, ET.nR, (by show 2 < 1000; decide), ?_⟩
  have b5 : But p H5 (upd H5 p (.ins CT dx (TgFs w1 u o))) := (But.of (Same.refl H5)).upd
  exact q _ bt5.upd ⟨dx, w1, u, o, upd_same, (qw4.same s5).but nw hp5 b5, (qu4.same s5).but nu hp5 b5, qo.but no hp5 b5⟩
abbrev sTEq : Stmt := inClass (tp 26) 1
theorem scTEq : FnScope ["self", "other"] ["self", "other"] (defScope sTEq) := ⟨rfl, rfl, rfl, by decide +kernel, rfl, by decide +kernel, by decide +kernel⟩
def spTEq (K : PySem.W.Frag) (CP CT : Addr) : Sp := fun vs H Q _ => ∃ (p r : Addr) (W U O : List Ed) (i j k : Nat), vs = [.ref p, .ref r] ∧ TgH K CP CT H p W U O i j k ∧ TgH K CP CT H r W U O i j k ∧ Q (.bl true) H
theorem ok_teq {f : Addr} {fd : FuncData} (F : Fun K "__eq__" "Together.__eq__" sTEq f fd) (B : BN mg) (ET : TC K CT) (R : RIn K mg "Together" CT) (D : MtK P w K mg base CP 1 "__eq__" ["self", "other"] (spPEq K CP)) : FnOk P w K mg base CX0 3 f fd ["self", "other"] (spTEq K CP CT) := by
  refine F.ok scTEq (fun vs H Q E h => ?_) (fun cdv A outer s H vs Q E hr h => ?_)
  · obtain ⟨_, _, _, _, _, _, _, _, rfl, _⟩ := h
    rfl
  obtain ⟨p, r, W, U, O, i, j, k, rfl, ⟨dx, w1, u1, o1, hp, qw, qu, qo⟩, ⟨dx2, w2, u2, o2, hr2, qw2, qu2, qo2⟩, q⟩ := h
  obtain ⟨f1, fd1, M1, G1, b1⟩ := D.ex
  refine ⟨_, pss_cons (ps_if (pt_not (pt_val (pe_callB call_isi rfl B.isi (by decide +kernel) (pa_cons (pv 1) (pa_cons (pgl R.g) pa_nil))))) (pss_one ps_never) pss_nil)
    (pss_one (ps_ret (pe_and (pe_cmpR (op_eqO M1.at_ M1.fn G1 b1 (hr.mono (by decide))) (pe_fld (pv 0) rfl) (pe_fld (pv 1) rfl) (nomark _)) (pe_and (pe_cmpR (op_eqO M1.at_ M1.fn G1 b1 (hr.mono (by decide))) (pe_fld (pv 0) rfl) (pe_fld (pv 1) rfl) (nomark _)) (pe_one (pe_cmpR (op_eqO M1.at_ M1.fn G1 b1 (hr.mono (by decide))) (pe_fld (pv 0) rfl) (pe_fld (pv 1) rfl) (nomark _))))))), ?_⟩
  refine ⟨_, rfl, .ref r, .ref CT, .ref CT, .ref CT, true, rfl, .own _, .base (.ins hr2 ET.cl R.ha R.hn R.ht R.hm), R.kit, _, rfl, iteF ?_⟩
  refine ⟨_, rfl, p, CT, dx, _, .ref w1, rfl, hp, ET.cl, ET.nW, rfl, _, rfl, r, CT, dx2, _, .ref w2, rfl, hr2, ET.cl, ET.nW, rfl, w1, w2, rfl, rfl, qw.ins, qw2.ins, w1, w2, W, W, i, i, rfl, qw, qw2, _, rfl, _, rfl, iteTT (decide_eq_true ⟨rfl, rfl⟩) ?_⟩
  refine ⟨_, rfl, p, CT, dx, _, .ref u1, rfl, hp, ET.cl, ET.nO, rfl, _, rfl, r, CT, dx2, _, .ref u2, rfl, hr2, ET.cl, ET.nO, rfl, u1, u2, rfl, rfl, qu.ins, qu2.ins, u1, u2, U, U, j, j, rfl, qu, qu2, _, rfl, _, rfl, iteTT (decide_eq_true ⟨rfl, rfl⟩) ?_⟩
  refine ⟨_, rfl, p, CT, dx, _, .ref o1, rfl, hp, ET.cl, ET.nR, rfl, _, rfl, r, CT, dx2, _, .ref o2, rfl, hr2, ET.cl, ET.nR, rfl, o1, o2, rfl, rfl, qo.ins, qo2.ins, o1, o2, O, O, k, k, rfl, qo, qo2, _, rfl, ?_⟩
  have e : ∀ (d : Decidable (O = O ∧ k = k)), @decide _ d = true := fun d => @decide_eq_true _ d ⟨rfl, rfl⟩
  rw [e]
  exact q
abbrev sTBool : Stmt := inClass (tp 26) 2
theorem scTBool : FnScope ["self"] ["self"] (defScope sTBool) := ⟨rfl, rfl, rfl, by decide +kernel, rfl, by decide +kernel, by decide +kernel⟩
def spYes (b : Bool) : Sp := fun vs H Q _ => ∃ (p : Addr), vs = [.ref p] ∧ Q (.bl b) H
theorem ok_tbool {f : Addr} {fd : FuncData} (F : Fun K "__bool__" "Together.__bool__" sTBool f fd) : FnOk P w K mg base CX0 1 f fd ["self"] (spYes true) := by
  refine F.ok scTBool (fun vs H Q E h => ?_) (fun cdv A outer s H vs Q E hr h => ?_)
  · obtain ⟨_, rfl, _⟩ := h
    rfl
  obtain ⟨p, rfl, q⟩ := h
  exact ⟨_, pss_one (ps_ret pe_bl), q⟩
/-! ### Clash -/
abbrev sCIni : Stmt := inClass (tp 27) 0
theorem scCIni : FnScope ["self", "one", "other"] ["self", "one", "other"] (defScope sCIni) := ⟨rfl, rfl, rfl, by decide +kernel, rfl, by decide +kernel, by decide +kernel⟩
def spCIni (CC : Addr) : Sp := fun vs H Q _ => ∃ (p dx : Addr) (a b : Int), vs = [.ref p, .int a, .int b] ∧ H p = some (.ins CC dx []) ∧ ∀ H', But p H H' → ClH CC H' p a b → Q .non H'
theorem ok_cini {f : Addr} {fd : FuncData} (F : Fun K "__init__" "Clash.__init__" sCIni f fd) (EC2 : CC2 K CC) : FnOk P w K mg base CX0 1 f fd ["self", "one", "other"] (spCIni CC) := by
  refine F.ok scCIni (fun vs H Q E h => ?_) (fun cdv A outer s H vs Q E hr h => ?_)
  · obtain ⟨_, _, _, _, rfl, _⟩ := h
    rfl
  obtain ⟨p, dx, a, b, rfl, hp, q⟩ := h
  refine ⟨_, pss_cons (ps_fld (pv 0) (pv 1) rfl) (pss_one (ps_fld (pv 0) (pv 2) rfl)), ?_⟩
  refine ⟨_, rfl, _, rfl, p, CC, dx, [], rfl, hp, EC2.cl, EC2.nO, (by show 0 < 1000; decide), ?_⟩
  refine ⟨_, rfl, _, rfl, p, CC, dx, _, rfl, upd_same, EC2.cl, EC2.nR, (by show 1 < 1000; decide), ?_⟩
  exact q _ (But.of (Same.refl H)).upd.upd ⟨dx, upd_same⟩
abbrev sCEq : Stmt := inClass (tp 27) 1
theorem scCEq : FnScope ["self", "other"] ["self", "other"] (defScope sCEq) := ⟨rfl, rfl, rfl, by decide +kernel, rfl, by decide +kernel, by decide +kernel⟩
def spCEq (CC : Addr) : Sp := fun vs H Q _ => ∃ (p r : Addr) (a b : Int), vs = [.ref p, .ref r] ∧ ClH CC H p a b ∧ ClH CC H r a b ∧ Q (.bl true) H
theorem ok_ceq {f : Addr} {fd : FuncData} (F : Fun K "__eq__" "Clash.__eq__" sCEq f fd) (B : BN mg) (EC2 : CC2 K CC) (R : RIn K mg "Clash" CC) : FnOk P w K mg base CX0 1 f fd ["self", "other"] (spCEq CC) := by
  refine F.ok scCEq (fun vs H Q E h => ?_) (fun cdv A outer s H vs Q E hr h => ?_)
  · obtain ⟨_, _, _, _, rfl, _⟩ := h
    rfl
  obtain ⟨p, r, a, b, rfl, ⟨dx, hp⟩, ⟨dx2, hr2⟩, q⟩ := h
  refine ⟨_, pss_cons (ps_if (pt_not (pt_val (pe_callB call_isi rfl B.isi (by decide +kernel) (pa_cons (pv 1) (pa_cons (pgl R.g) pa_nil))))) (pss_one ps_never) pss_nil)
    (pss_one (ps_ret (pe_and (pe_cmpR op_eq (pe_fld (pv 0) rfl) (pe_fld (pv 1) rfl) (nomark _)) (pe_one (pe_cmpR op_eq (pe_fld (pv 0) rfl) (pe_fld (pv 1) rfl) (nomark _)))))), ?_⟩
  refine ⟨_, rfl, .ref r, .ref CC, .ref CC, .ref CC, true, rfl, .own _, .base (.ins hr2 EC2.cl R.ha R.hn R.ht R.hm), R.kit, _, rfl, iteF ?_⟩
  refine ⟨_, rfl, p, CC, dx, _, .int a, rfl, hp, EC2.cl, EC2.nO, rfl, _, rfl, r, CC, dx2, _, .int a, rfl, hr2, EC2.cl, EC2.nO, rfl, rfl, _, rfl, iteTT (decide_eq_true rfl) ?_⟩
  refine ⟨_, rfl, p, CC, dx, _, .int b, rfl, hp, EC2.cl, EC2.nR, rfl, _, rfl, r, CC, dx2, _, .int b, rfl, hr2, EC2.cl, EC2.nR, rfl, rfl, ?_⟩
  rw [decide_eq_true (rfl : V.int b = V.int b)]
  exact q
abbrev sCBool : Stmt := inClass (tp 27) 2
theorem scCBool : FnScope ["self"] ["self"] (defScope sCBool) := ⟨rfl, rfl, rfl, by decide +kernel, rfl, by decide +kernel, by decide +kernel⟩
theorem ok_cbool {f : Addr} {fd : FuncData} (F : Fun K "__bool__" "Clash.__bool__" sCBool f fd) : FnOk P w K mg base CX0 1 f fd ["self"] (spYes false) := by
  refine F.ok scCBool (fun vs H Q E h => ?_) (fun cdv A outer s H vs Q E hr h => ?_)
  · obtain ⟨_, rfl, _⟩ := h
    rfl
  obtain ⟨p, rfl, q⟩ := h
  exact ⟨_, pss_one (ps_ret pe_bl), q⟩
end
end P5

end
section
set_option Elab.async false
set_option linter.all false
set_option maxRecDepth 100000
set_option maxHeartbeats 4000000
/-! enumerate(a tuple) in a for and in a comprehension -/
namespace EN
open PySem PySem.Spec PyProof.Rows L2
open Sem (wp)
open AutoSeq1 (wpAny_loadPart')
theorem meets_new (l : Addr) (items : Array Value) (n : Nat) (dct : Option Addr) (sl : Array (Option Value)) :
    Meets (Builtin.«enumerate.__new__» ⟨[.type "enumerate", .ref l], []⟩) (fun _ R s => s.heap.get? l = some { cls := .type "tuple", dict := dct, data := .seq items n, slots := sl } ∧
      R (.ok (.ret (.ref (s.heap.push { cls := .type "tuple_iterator", data := .fields #[.ref l, .int 0 0] }).objs.size)))
        { s with heap := (s.heap.push { cls := .type "tuple_iterator", data := .fields #[.ref l, .int 0 0] }).push { cls := .type "enumerate", data := .fields #[.none, .bool false, .ref s.heap.objs.size, rawInt 0, .none, .none] } }) :=
  .of_wp fun prog w A R s h => by
    obtain ⟨hp, g, d, tk, os⟩ := s; obtain ⟨hl, h⟩ := h
    have hsub := sub_enumerate
    have hL : Heap.IsTuple (Shared.heap ⟨hp, g, d, tk, os⟩) l items := ⟨_, hl, rfl, n, rfl⟩
    wp_walk using wpAny_loadPart' hl
    refine wpAny_stack_any fun st => wpAny_pure ?_
    split
    · rename_i c _ _ _ _ _
      cases (c == Value.type "enumerate")
      · wp_walk using wpAny_loadPart' hl, wpAny_pyIter_tuple hL
        exact ⟨_, rfl, h⟩
      · wp_walk using wpAny_loadPart' hl, wpAny_pyIter_tuple hL
        exact ⟨_, rfl, h⟩
    · wp_walk using wpAny_loadPart' hl, wpAny_pyIter_tuple hL
      exact ⟨_, rfl, h⟩
theorem call_new {prog : Program} {w : World} {A : Around} {E : Value → Shared → Prop} {s : Shared} {l : Addr} {items : Array Value} {Q : Value → Shared → Prop} (hL : s.heap.IsTuple l items)
    (h : ∀ h', IsEnum h' (s.heap.objs.size + 1) s.heap.objs.size 0 .none → h'.IsTupleIter s.heap.objs.size l 0 → h'.objs.size = s.heap.objs.size + 2 →
      (∀ b o, s.heap.get? b = some o → h'.get? b = some o) → Q (.ref (s.heap.objs.size + 1)) { s with heap := h' }) :
    wpAny (model prog w) A (call (.type "enumerate") [.ref l]) Q E s := by
  obtain ⟨⟨c, dct, dt, sl⟩, hl, hc, n, hd⟩ := hL
  replace hc : c = .type "tuple" := hc
  replace hd : dt = .seq items n := hd
  subst hc hd
  refine callType_new F.called_enumerate (by decide) (F.typeCall_enumerate_1 _) (F.newCall_enumerate_1 _) (fun obj => F.args_object_init_2 obj _) F.entry_enumerate_new
    (meets_new l items n dct sl) ⟨hl, ?_⟩
  have hz : (s.heap.push { cls := .type "tuple_iterator", data := .fields #[.ref l, .int 0 0] }).objs.size = s.heap.objs.size + 1 := Heap.size_push ..
  show _ ∧ _
  rw [hz]
  have he : IsEnum ((s.heap.push { cls := .type "tuple_iterator", data := .fields #[.ref l, .int 0 0] }).push
      { cls := .type "enumerate", data := .fields #[.none, .bool false, .ref s.heap.objs.size, rawInt 0, .none, .none] }) (s.heap.objs.size + 1) s.heap.objs.size 0 .none := by
    have := Heap.get?_push_size (s.heap.push { cls := .type "tuple_iterator", data := .fields #[.ref l, .int 0 0] })
      (o := { cls := .type "enumerate", data := .fields #[.none, .bool false, .ref s.heap.objs.size, rawInt 0, .none, .none] }) rfl
    rw [hz] at this; exact this
  refine ⟨⟨_, he, rfl⟩, h _ he ⟨_, Heap.get?_push_of_some _ (Heap.get?_push_size _ rfl), rfl, rfl⟩ (by rw [Heap.size_push, hz]) fun b o x => Heap.get?_push_of_some _ (Heap.get?_push_of_some _ x)⟩
/-- the tuple at a, each item in a new pair -/
def IteT (K : PySem.W.Frag) (a : Addr) : It :=
  ⟨fun i H => ∃ (xs : List V) (x : V), SqT K H a xs ∧ xs[i]? = some x, fun i H v H' => ∃ T x, v = .ref T ∧ H T = none ∧ H' = upd H T (.tup [.int (i : Nat), x]) ∧ ∀ xs, SqT K H a xs → xs[i]? = some x, fun i H => ∃ xs : List V, SqT K H a xs ∧ xs.length ≤ i⟩
theorem turn {P : Program} {w : World} {K : PySem.W.Frag} {elts : List Expr} {kk : Nat} {tpos : Pos} (a e it : Addr) :
    Turn P w K (.Tuple elts kk tpos) (IteT K a) [e, it] e (fun i h => (∃ old, IsEnum h e it ((i : Nat) : Int) old) ∧ h.IsTupleIter it a i ∧ e ≠ it) where
  mem := by simp
  obj := fun i h st b hb => by
    obtain ⟨⟨old, he⟩, ⟨o, ho, hc, hd⟩, _⟩ := st
    have e' : b = e ∨ b = it := by simpa using hb
    rcases e' with z | z
    · rw [z]; exact ⟨_, he, fun v q => nomatch q⟩
    · rw [z]; exact ⟨o, ho, fun v q => by rw [hd] at q; cases q⟩
  keep := fun i h h' st k => let ⟨⟨old, he⟩, hi, hne⟩ := st; ⟨⟨old, k e (by simp) _ he⟩, hi.at fun o q => k it (by simp) o q, hne⟩
  item := by
    intro X hP hw hK hc i pins s σ H E I hf st hg
    subst hP hw hK
    obtain ⟨⟨old, he⟩, hit, hne⟩ := st
    obtain ⟨xs, x, hq, hx⟩ := hg
    obtain ⟨its, rv, p, hz⟩ := I.tuple hq
    obtain ⟨u, hu, ru⟩ := rv.get hx
    have hel : e < s.heap.objs.size := Heap.lt_size he
    have hil : it < s.heap.objs.size := by obtain ⟨_, q, _⟩ := hit; exact Heap.lt_size q
    have hea : e ≠ a := fun z => by
      obtain ⟨o, ho, hc2, _⟩ := p
      rw [← z, he] at ho
      cases ho
      simp at hc2
    have hai : a ≠ it := fun z => by
      obtain ⟨o, ho, hc2, _⟩ := p
      obtain ⟨o2, ho2, hc3, _⟩ := id hit
      rw [z, ho2] at ho
      cases ho
      rw [hc2] at hc3
      simp at hc3
    have hlt : i < its.toArray.size := by
      have := (List.getElem?_eq_some_iff.mp hu).1
      simpa using this
    refine wpAny_pyNext_enum_itemD (Draws.tuple (show X.A.in1.handled = none from I.ok.hd hc) it a hai its.toArray) he ⟨hit, p⟩ hlt hne (by
      intro z
      rcases List.mem_cons.mp z with z | z
      · exact hne z
      · exact hea (List.mem_singleton.mp z)) fun x' h' tk hP ho hst' hT hsz hk => ?_
    obtain ⟨hit', p'⟩ := hst'
    have eu : x' = u := by
      have : its[i]? = some x' := by simpa using hP
      rw [hu] at this
      exact (Option.some.inj this).symm
    subst eu
    refine ⟨_, rfl, wpAny_letOwnedTupleGo_enum (s := { s with heap := h', toks := tk + 1 }) ho fun h'' he' sb => ?_⟩
    have hT2 : h''.get? s.heap.objs.size = some { cls := .type "tuple", data := .seq #[.int i tk, x'] } := (sb.2 _ (Nat.ne_of_gt hel)).trans hT
    have new : ObjOk X.prog X.w (upd H s.heap.objs.size (.tup [.int (i : Nat), x])) h'' s.heap.objs.size (.tup [.int (i : Nat), x]) :=
      ⟨by show 2 ≤ sizeLine; decide, [.int i tk, x'], .cons ⟨_, rfl⟩ (.cons ru .nil), ⟨_, hT2, rfl, _, rfl⟩⟩
    have I1 : Inv X pins σ (upd H s.heap.objs.size (.tup [.int (i : Nat), x])) { s with heap := h'', toks := tk + 1 } :=
      I.turnedNew (ch := [e, it]) (fun b ob hb q => (sb.2 b (fun z => hb (by simp [z]))).trans (hk b ob (fun z => hb (by simp [z])) (fun z => hb (by simp [z])) q)) hf (Nat.le_refl _) new
    refine ⟨.ref s.heap.objs.size, _, I1, rfl, ⟨_, x, rfl, I.hok.fresh (Nat.le_refl _), rfl, fun ys hy => by rw [I.tuple_inj hy hq]; exact hx⟩, ⟨⟨x', ?_⟩, hit'.at fun o q => (sb.2 it (Ne.symm hne)).trans q, hne⟩, fun b hb => ?_⟩
    · have e1 : ((i + 1 : Nat) : Int) = (i : Int) + 1 := by omega
      rw [e1]; exact he'
    · have hb' : b < s.heap.objs.size := by
        have e' : b = e ∨ b = it := by simpa using hb
        rcases e' with z | z
        · rw [z]; exact hel
        · rw [z]; exact hil
      rw [upd_ne (Nat.ne_of_lt hb')]
      exact (hf b hb).1
  done := by
    intro X hP hw hK hc i pins s σ H E I hf st hg
    subst hP hw hK
    obtain ⟨⟨old, he⟩, hit, hne⟩ := st
    obtain ⟨xs, hq, hx⟩ := hg
    obtain ⟨its, rv, p, hz⟩ := I.tuple hq
    obtain ⟨f0, f1, f2, f3, f4, f5⟩ := hf it (by simp)
    have hl := rv.length
    have hT : s.TypeIs (.ref e) "enumerate" := ⟨_, he, rfl⟩
    unfold pyNext
    refine wpAny_bind (wpAny_attempt (wpAny_callSpecial?_slot (name := Str.ofString "__next__") hT F.slot_enumerate_next
      (wpAny_call_entry F.slot_enumerate_next hT F.entry_enumerate_next ?_ (F.args_enumerate_next_1 _))))
    show wpAny _ _ (field (.ref e) 2 >>= _) _ _ _
    refine wpAny_bind (wpAny_field he rfl (x := .ref it) rfl ?_)
    refine wpAny_bind (wpAny_nextOf_tuple_end (show X.A.in1.handled = none from I.ok.hd hc) hit p (by simp; omega) fun h' x' he' hx' => ?_)
    obtain ⟨o, ho, hc2⟩ := hx'
    refine wpAny_bind (wpAny_isInstance (T := "StopIteration") (b := true) ⟨o, ho, hc2⟩ isSubtype_stop ?_)
    exact wpAny_pure ⟨rfl, I.turned (t' := s.toks) (fun b o hb q => he' b o hb q) f0 f1 f3 f4 f5⟩
  self := fun A i s Q E st h => let ⟨⟨_, he⟩, _⟩ := st; wpAny_pyIter_enum he h
def iEnumT (K : PySem.W.Frag) (ta : TA) : TI := fun σ H R => ta σ H fun vs H1 => ∃ a xs, vs = [.ref a] ∧ SqT K H1 a xs ∧ R (IteT K a) H1
theorem pi_enumT {X : Cx} {e : Expr} {ta : TA} {p pos tpos : Pos} {elts : List Expr} {kk : Nat} (hg : Gl X "enumerate") (hm : X.mg "enumerate" = none) (ha : PA X [e] ta) (hs : starEach [e] X.env = [(false, eval e X.env)] := by rfl) :
    PI X (.Tuple elts kk tpos) (.Call (.Name "enumerate" p) [e] [] pos) (iEnumT X.K ta) := by
  refine ⟨fun pins s σ H R I h => ?_⟩
  refine Call_ (ld_blt I hg hm boot_enumerate (PyProof.Rows.callWith_type1 (thn (ha.run pos pins s σ H _ I h) fun us s1 ⟨vs, H1, I1, r1, q1⟩ => ?_) hs rfl))
  obtain ⟨a, xs, ex, hq, q⟩ := q1
  subst ex
  cases r1 with
  | cons r rr =>
    cases rr
    cases r
    obtain ⟨its, rv, p', hz⟩ := I1.tuple hq
    refine call_new p' fun h' he hit hsz hk => wpAny_pyIter_enum he ?_
    have I2 : Inv X pins σ H1 { s1 with heap := h' } := I1.kept (t' := s1.toks) hk
    refine ⟨s1.heap.objs.size + 1, [s1.heap.objs.size + 1, s1.heap.objs.size], _, _, H1, rfl, I2, turn a (s1.heap.objs.size + 1) s1.heap.objs.size, ⟨⟨.none, he⟩, hit, Nat.succ_ne_self _⟩, fun b hb => ?_, q⟩
    have e' : b = s1.heap.objs.size + 1 ∨ b = s1.heap.objs.size := by simpa using hb
    have hle : s1.heap.objs.size ≤ b := by
      rcases e' with z | z
      · rw [z]; exact Nat.le_add_right _ _
      · rw [z]; exact Nat.le_refl _
    exact I1.fpOk hle (I1.hok.fresh hle)
/-- a for loop over the pairs of a tuple -/
theorem for_enT {K : PySem.W.Frag} {a : Addr} {xs : List V} {g : TG} {tb : TS} {D : Ends} {σ : L2.St} {H : Hp} (Pv : Nat → L2.St → Hp → Prop) (h0 : Pv 0 σ H) (hl : ∀ i σ H, i ≤ xs.length → Pv i σ H → SqT K H a xs)
    (hs : ∀ i x σ H T, xs[i]? = some x → H T = none → Pv i σ H → g (.ref T) σ (upd H T (.tup [.int (i : Nat), x])) fun σ2 H2 => tb { D with nx := Pv (i + 1), ct := Pv (i + 1), bk := D.nx } σ2 H2) (hd : ∀ σ H, Pv xs.length σ H → D.nx σ H) :
    ∃ W : Nat → Nat → L2.St → Hp → Prop, (∃ m, W 0 m σ H) ∧ ∀ i m σ H, W i m σ H →
      ((IteT K a).stop i H ∧ D.nx σ H) ∨ ((IteT K a).go i H ∧ ∃ N : L2.St → Hp → Prop, (∀ σ' H', N σ' H' → ∃ m', m' < m ∧ W (i + 1) m' σ' H') ∧ ∀ x H', (IteT K a).yld i H x H' → g x σ H' fun σ2 H2 => tb { D with nx := N, ct := N, bk := D.nx } σ2 H2) := by
  refine ⟨fun i m σ H => m = xs.length - i ∧ i ≤ xs.length ∧ Pv i σ H, ⟨xs.length, by simp, Nat.zero_le _, h0⟩, ?_⟩
  rintro i m σ H ⟨rfl, hi, p⟩
  have q := hl i σ H hi p
  by_cases hlt : i < xs.length
  · refine .inr ⟨⟨xs, xs[i], q, by simp [hlt]⟩, Pv (i + 1), fun σ' H' p' => ⟨xs.length - (i + 1), by omega, rfl, hlt, p'⟩, fun x H' y => ?_⟩
    obtain ⟨T, x, rfl, hT, rfl, y⟩ := y
    exact hs i x σ _ T (y xs q) hT p
  · have e : i = xs.length := by omega
    subst e
    exact .inl ⟨⟨xs, q, Nat.le_refl _⟩, hd σ H p⟩
end EN

end
section
set_option Elab.async false
set_option linter.all false
set_option maxRecDepth 100000
set_option maxHeartbeats 4000000
/-! go_together, x not in a tuple of changes -/
namespace P5
open PySem PySem.Spec PySem.SeqAt PyProof.Rows L2 EN
theorem shaped_ch {e : Ed} (h : ∀ x ∈ e.ws, x ∈ MRK) : shaped (chD e) = true := shaped_mk (by simp only [chD, PyData.canLay0, PyData.canLayAll0, lay_marks h, Bool.and_true, Bool.and_self]) (by
  have := depth_marks e.ws
  simp only [chD, PyData.depth, PyData.depthAll]
  omega)
def rNotInT (K : PySem.W.Frag) : R2 := fun x y H Q => ∃ (e : Ed) (C : List Ed) (t : Addr) (vs : List V), ChV K H x e ∧ y = .ref t ∧ SqT K H t vs ∧ ChsV K H vs C ∧ (∀ z ∈ e.ws, z ∈ MRK) ∧ (∀ z ∈ C, z.Ok) ∧ Q (.bl (decide (e ∉ C))) H
theorem any_eqv (C : List Ed) (e : Ed) : ((C.map chD).any fun z => PyData.eqv z (chD e)) = decide (e ∈ C) := by
  induction C with
  | nil => rfl
  | cons x C ih =>
    rw [List.map_cons, List.any_cons, ih, eqv_ch]
    by_cases h : x = e
    · simp [h]
    · have h2 : ¬ e = x := fun z => h z.symm
      simp [h, h2]
theorem op_notInT {X : Cx} (hu : X.A.units + 65 < cLine) : OpR X (compareOp .NotIn) (rNotInT X.K) := by
  intro pins s σ H x y v u Q I rx ry h
  obtain ⟨e, C, t, vs, he, rfl, hT, hV, hm, hok, q⟩ := h
  obtain ⟨as, r1⟩ := Dp.reads I (chD e) x v (dp_ch he) rx
  obtain ⟨bs, r2⟩ := Dp.reads I (.tuple (C.map chD)) (.ref t) u (.tup hT (dp_chs hV)) ry
  refine SeqAt.notIn_tuple_reads r2 r1 (SeqAt.canLay_of_shaped (shaped_chsT hok)) (SeqAt.canLay_of_shaped (shaped_ch hm)) (room_in_shaped (shaped_ch hm) hu) ⟨.bl (!((C.map chD).any fun z => PyData.eqv z (chD e))), H, I, rfl, ?_⟩
  rw [any_eqv]
  have e2 : (!decide (e ∈ C)) = decide (e ∉ C) := by
    by_cases z : e ∈ C
    · simp [z]
    · simp [z]
  rw [e2]
  exact q
section
variable {P : Program} {w : World} {K : PySem.W.Frag} {mg : Str → Option Value} {base : Heap} {aN aS CE CP CB CT CC : Addr}
abbrev sGoT : Stmt := tp 34
theorem scGoT : FnScope ["one", "other"] ["one", "other"] (defScope sGoT) := ⟨rfl, rfl, rfl, by decide +kernel, rfl, by decide +kernel, by decide +kernel⟩
def spGoT (K : PySem.W.Frag) : Sp := fun vs H Q _ => ∃ (v u : V) (e f : Ed), vs = [v, u] ∧ ChV K H v e ∧ ChV K H u f ∧ e.Ok ∧ f.Ok ∧ ∀ H', Same H H' → Q (.bl (goB e f)) H'
theorem ok_goT {f : Addr} {fd : FuncData} (F : Fun K "go_together" "go_together" sGoT f fd) : FnOk P w K mg base CX0 1 f fd ["one", "other"] (spGoT K) := by
  refine F.ok scGoT (fun vs H Q E h => ?_) (fun cdv A outer s H vs Q E hr h => ?_)
  · obtain ⟨_, _, _, _, rfl, _⟩ := h
    rfl
  obtain ⟨v, u, e, g, rfl, he, hg, oe, og, q⟩ := h
  obtain ⟨a, t, rfl, ha, ht⟩ := id he
  obtain ⟨b, r, rfl, hb, hr2⟩ := id hg
  refine ⟨_, pss_cons (ps_if (pt_cmpR (op_eqD (hu64 hr)) (pv 0) (pv 1) (nomark _)) (pss_one (ps_ret pe_bl)) pss_nil)
    (pss_cons (ps_if (PW.pt (pw_or (pt_cmpR op_le (pe_ix (r := rIxT K) ix_tup (pv 0) pe_int (fun _ _ => rfl)) (pe_ix (r := rIxT K) ix_tup (pv 1) pe_int (fun _ _ => rfl)) (nomark _)) (pw_or1 (pt_cmpR op_le (pe_ix (r := rIxT K) ix_tup (pv 1) pe_int (fun _ _ => rfl)) (pe_ix (r := rIxT K) ix_tup (pv 0) pe_int (fun _ _ => rfl)) (nomark _)))))
      (pss_one (ps_ret (pe_cmpR (op_neD (hu64 hr)) (pe_slice (r := rSlT K) sl_tup (pv 0) po_none (po_some pe_int)) (pe_slice (r := rSlT K) sl_tup (pv 1) po_none (po_some pe_int)) (nomark _)))) pss_nil)
    (pss_one (ps_ret pe_bl))), ?_⟩
  refine ⟨_, rfl, _, rfl, chD e, chD g, dp_ch he, dp_ch hg, shaped_ch oe.mrk, shaped_ch og.mrk, _, rfl, ?_⟩
  rw [eqv_ch]
  by_cases c : e = g
  · refine iteTT (decide_eq_true c) ?_
    have z : goB e g = true := goB_iff.mpr (.inl c)
    rw [z] at q
    exact q H (Same.refl _)
  refine iteFF (decide_eq_false c) ?_
  have fin : ∀ (x : Bool), (decide (e.b ≤ g.a) || decide (g.b ≤ e.a)) = x → goB e g = (x && !(decide (e.a = g.a) && decide (e.b = g.b))) := fun x hx => by
    unfold goB
    rw [hx, decide_eq_false c, Bool.false_or]
  have l1 : decide ((e.b : Int) ≤ (g.a : Int)) = decide (e.b ≤ g.a) := decide_eq_decide.mpr (by omega)
  have l2 : decide ((g.b : Int) ≤ (e.a : Int)) = decide (g.b ≤ e.a) := decide_eq_decide.mpr (by omega)
  have yes : (decide (e.b ≤ g.a) || decide (g.b ≤ e.a)) = true → tSl (rSlT K) (tVar 0) tNoPart (tPart (tC (.int 2))) (L2.start ["one", "other"] [.ref a, .ref b]) H fun x H1 => tSl (rSlT K) (tVar 1) tNoPart (tPart (tC (.int 2))) (L2.start ["one", "other"] [.ref a, .ref b]) H1 fun y H2 => rNeD K x y H2 fun v H3 => Q v H3 := fun hx => by
    refine ⟨_, rfl, 2, rfl, a, _, rfl, ha, by show ¬ (0 = 0 ∧ 2 = 3); decide, fun p hp => ?_⟩
    have s1 := Same.new hp (.tup (cutV [V.int e.a, V.int e.b, V.ref t] none (some 2)))
    have c1 : upd H p (.tup (cutV [V.int e.a, V.int e.b, V.ref t] none (some 2))) p = some (.tup [V.int e.a, V.int e.b]) := upd_same
    generalize upd H p (.tup (cutV [V.int e.a, V.int e.b, V.ref t] none (some 2))) = H1 at *
    refine ⟨_, rfl, 2, rfl, b, _, rfl, Same.tup s1 hb, by show ¬ (0 = 0 ∧ 2 = 3); decide, fun p2 hp2 => ?_⟩
    have s2 := Same.new hp2 (.tup (cutV [V.int g.a, V.int g.b, V.ref r] none (some 2)))
    have c2 : upd H1 p2 (.tup (cutV [V.int g.a, V.int g.b, V.ref r] none (some 2))) p2 = some (.tup [V.int g.a, V.int g.b]) := upd_same
    generalize upd H1 p2 (.tup (cutV [V.int g.a, V.int g.b, V.ref r] none (some 2))) = H2 at *
    refine ⟨.tuple [.int e.a, .int e.b], .tuple [.int g.a, .int g.b], .tup (SqT.of (s2 _ _ c1)) (.cons (.int _) (.cons (.int _) .nil)), .tup (SqT.of c2) (.cons (.int _) (.cons (.int _) .nil)), by rfl, by rfl, ?_⟩
    have z := q H2 (s1.trans s2)
    rw [fin _ hx, Bool.true_and] at z
    have e1 : PyData.eqv (.tuple [.int e.a, .int e.b]) (.tuple [.int g.a, .int g.b]) = (decide (e.a = g.a) && decide (e.b = g.b)) := by
      show (decide ((e.a : Int) = g.a) && (decide ((e.b : Int) = g.b) && true)) = _
      rw [Bool.and_true, show decide ((e.a : Int) = g.a) = decide (e.a = g.a) from decide_eq_decide.mpr (by omega), show decide ((e.b : Int) = g.b) = decide (e.b = g.b) from decide_eq_decide.mpr (by omega)]
    rw [e1]
    exact z
  refine ⟨_, rfl, a, _, 1, .int e.b, rfl, rfl, ha, rfl, _, rfl, b, _, 0, .int g.a, rfl, rfl, hb, rfl, _, _, rfl, rfl, _, rfl, ?_⟩
  by_cases d1 : e.b ≤ g.a
  · refine iteTT (by rw [l1]; exact decide_eq_true d1) (iteTT rfl ?_)
    exact yes (by rw [decide_eq_true d1, Bool.true_or])
  refine iteFF (by rw [l1]; exact decide_eq_false d1) ?_
  refine ⟨_, rfl, b, _, 1, .int g.b, rfl, rfl, hb, rfl, _, rfl, a, _, 0, .int e.a, rfl, rfl, ha, rfl, _, _, rfl, rfl, _, rfl, ?_⟩
  rw [l2]
  by_cases d2 : g.b ≤ e.a
  · refine iteTT (decide_eq_true d2) ?_
    exact yes (by rw [decide_eq_true d2, Bool.or_true])
  refine iteFF (decide_eq_false d2) ?_
  have z := q H (Same.refl _)
  rw [fin false (by rw [decide_eq_false d1, decide_eq_false d2]; rfl), Bool.false_and] at z
  exact z
end
end P5

end
section
set_option Elab.async false
set_option linter.all false
set_option maxRecDepth 100000
set_option maxHeartbeats 4000000
/-! as_one -/
namespace P5
open PySem PySem.Spec PySem.SeqAt PyProof.Rows L2 EN
/-- one more change behind changes that are as one -/
def stepJ (D : List Ed) (e : Ed) : List Ed :=
  match D.getLast? with
  | some c => if c.b = e.a then D.dropLast ++ [⟨c.a, e.b, c.ws ++ e.ws⟩] else D ++ [e]
  | none => [e]
theorem stepJ_cat (D : List Ed) (c e : Ed) : stepJ (D ++ [c]) e = if c.b = e.a then D ++ [⟨c.a, e.b, c.ws ++ e.ws⟩] else D ++ [c] ++ [e] := by
  unfold stepJ
  rw [List.getLast?_concat, List.dropLast_concat]
theorem fold_joinC : ∀ (C D : List Ed) (c : Ed), C.foldl stepJ (D ++ [c]) = D ++ joinC c C
  | [], D, c => rfl
  | e :: C, D, c => by
    rw [List.foldl_cons, stepJ_cat]
    show _ = D ++ (if c.b = e.a then joinC ⟨c.a, e.b, c.ws ++ e.ws⟩ C else c :: joinC e C)
    by_cases h : c.b = e.a
    · rw [if_pos h, if_pos h, fold_joinC C D]
    · rw [if_neg h, if_neg h, fold_joinC C (D ++ [c]), List.append_assoc]
      rfl
theorem fold_asOne (C : List Ed) : C.foldl stepJ [] = asOne C := by
  cases C with
  | nil => rfl
  | cons e C => exact fold_joinC C [] e
theorem asOne_next {C : List Ed} {i : Nat} {e : Ed} (h : C[i]? = some e) : asOne (C.take (i + 1)) = stepJ (asOne (C.take i)) e := by
  rw [take_more h, ← fold_asOne, List.foldl_append, fold_asOne]
  rfl
theorem at_last (xs : List V) (x : V) : atI (xs ++ [x]) (-1) = some x := by
  unfold atI ixN
  have e1 : ¬ (0 : Int) ≤ -1 := by decide
  have hl : (xs ++ [x]).length = xs.length + 1 := by rw [List.length_append, List.length_singleton]
  rw [if_neg e1, hl, if_pos (by omega : -((xs.length + 1 : Nat) : Int) ≤ -1), show (-1 + ((xs.length + 1 : Nat) : Int)).toNat = xs.length from by omega]
  show (xs ++ [x])[xs.length]? = some x
  simp
section
variable {P : Program} {w : World} {K : PySem.W.Frag} {mg : Str → Option Value} {base : Heap} {aN aS CE CP CB CT CC : Addr}
abbrev sAsO : Stmt := tp 36
abbrev NAsO : List Str := ["changes", "found", "first", "last", "words", "before"]
theorem scAsO : FnScope NAsO ["changes"] (defScope sAsO) := ⟨rfl, rfl, rfl, by decide +kernel, rfl, by decide +kernel, by decide +kernel⟩
def spAsO (K : PySem.W.Frag) : Sp := fun vs H Q _ => ∃ (l : Addr) (cs : List V) (C : List Ed), vs = [.ref l] ∧ SqL K H l cs ∧ ChsV K H cs C ∧ C.length ≤ 500 ∧ tot C ≤ 500 ∧
  ∀ H' t cv, Same H H' → SqT K H' t cv → ChsV K H' cv (asOne C) → Q (.ref t) H'
theorem ok_asO {f : Addr} {fd : FuncData} (F : Fun K "as_one" "as_one" sAsO f fd) (B : BN mg) : FnOk P w K mg base CX0 1 f fd ["changes"] (spAsO K) := by
  refine F.ok scAsO (fun vs H Q E h => ?_) (fun cdv A outer s H vs Q E hr h => ?_)
  · obtain ⟨_, _, _, rfl, _⟩ := h
    rfl
  obtain ⟨l, cs, C, rfl, hS, hC, hl, ht, q⟩ := h
  refine ⟨_, pss_cons (ps_set (i := 1) scAsO.nd rfl (Or.inl rfl) (pe_lst pa_nil))
    (pss_cons (ps_for PassesOwn.never rfl (pi_list (pv 0)) (pg_tup rfl (pgs_cons (pg_name (i := 2) scAsO.nd rfl (Or.inl rfl)) (pgs_cons (pg_name (i := 3) scAsO.nd rfl (Or.inl rfl)) (pgs_cons (pg_name (i := 4) scAsO.nd rfl (Or.inl rfl)) pgs_nil))))
      (pss_one (ps_if (PW.pt (pw_and (pt_truth (pv 1) (by intro _; rfl)) (pw_and1 (pt_cmpR op_eq (pe_ix (r := rIxT K) ix_tup (pe_ix (r := rIxL K) ix_list (pv 1) (pe_un un_neg pe_int) (fun _ _ => rfl)) pe_int (fun _ _ => rfl)) (pv 2) (nomark _)))))
        (pss_cons (ps_set (i := 5) scAsO.nd rfl (Or.inl rfl) (pe_bm0 PySem.F.plainAttrs_list PySem.F.slot_list_pop PySem.F.type_list_pop mt_pop (pv 1)))
        (pss_one (ps_expr (pe_bm PySem.F.plainAttrs_list PySem.F.slot_list_append PySem.F.type_list_append mt_append (pv 1) (pa_cons (pe_tup (pa_cons (pe_ix (r := rIxT K) ix_tup (pv 5) pe_int (fun _ _ => rfl)) (pa_cons (pv 3) (pa_cons (pe_op (r := rCatA K) op_catA (pe_ix (r := rIxT K) ix_tup (pv 5) pe_int (fun _ _ => rfl)) (pv 4)) pa_nil)))) pa_nil)))))
        (pss_one (ps_expr (pe_bm PySem.F.plainAttrs_list PySem.F.slot_list_append PySem.F.type_list_append mt_append (pv 1) (pa_cons (pe_tup (pa_cons (pv 2) (pa_cons (pv 3) (pa_cons (pv 4) pa_nil)))) pa_nil)))))))
    (pss_one (ps_ret (pe_callTy call_tuple_of rfl B.tup (by decide +kernel) (pa_cons (pv 1) pa_nil))))), ?_⟩
  have sz : ∀ {n : Nat}, n ≤ 1000 → n ≤ sizeLine := fun h => small_le h
  have hlen : cs.length = C.length := hC.len
  refine ⟨by show 0 ≤ sizeLine; decide, fun F0 hF0 => ?_⟩
  have s0 := Same.new hF0 (.lst [])
  have hF00 : upd H F0 (.lst []) F0 = some (.lst []) := upd_same
  generalize upd H F0 (.lst []) = H0 at *
  refine ⟨_, rfl, l, rfl, ⟨_, s0.seq hS⟩, ?_⟩
  refine for_list (xs := cs) (fun i σ H' => Same H H' ∧ ∃ (dv : List V) (v2 v3 v4 v5 : Option V), H' F0 = some (.lst dv) ∧ RelL (ChV K H') dv (asOne (C.take i)) ∧ σ = [some (.ref l), some (.ref F0), v2, v3, v4, v5])
    ⟨s0, [], none, none, none, none, hF00, trivial, rfl⟩ (fun i σ H' _ ⟨s, _⟩ => s.seq hS) ?_ ?_
  · rintro i x σ H2 hx ⟨s2, dv, v2, v3, v4, v5, hF, hD, rfl⟩
    obtain ⟨e, he, hch⟩ := hC.get hx
    obtain ⟨hil, _⟩ := kat_drop he
    obtain ⟨xa, t, rfl, hxa, hta⟩ := ChV.same s2 hch
    have hdl := hD.len
    have hol : (asOne (C.take i)).length ≤ (C.take i).length := asOne_len
    rw [List.length_take] at hol
    have htk := tot_take C (i + 1)
    have etk : C.take (i + 1) = C.take i ++ [e] := take_more he
    rw [etk, tot_app, show tot [e] = e.ws.length from Nat.add_zero _] at htk
    refine ⟨xa, _, rfl, hxa, rfl, _, _, rfl, _, _, rfl, _, _, rfl, rfl, ?_⟩
    have hnx := asOne_next he
    rcases List.eq_nil_or_concat (asOne (C.take i)) with c | ⟨D, c, eD⟩
    · rw [c] at hD hnx
      have edv : dv = [] := by
        cases dv with
        | nil => rfl
        | cons _ _ => exact hD.elim
      subst edv
      refine ⟨_, rfl, _, .inl ⟨_, SqL.of hF, rfl⟩, iteFF rfl ?_⟩
      refine iteFF rfl ?_
      refine ⟨_, rfl, .inl ⟨rfl, _, .inl (.inl hF)⟩, _, rfl, _, rfl, _, rfl, by show 3 ≤ sizeLine; decide, fun T hT => ?_⟩
      have s4 := Same.new hT (.tup [.int e.a, .int e.b, .ref t])
      have c4 : upd H2 T (.tup [.int e.a, .int e.b, .ref t]) T = some (.tup [.int e.a, .int e.b, .ref t]) := upd_same
      have hF4 := s4 _ _ hF
      have ht4 := Same.tup s4 hta
      generalize upd H2 T (.tup [.int e.a, .int e.b, .ref t]) = H4 at *
      have A4 : ChV K H4 (.ref T) e := ⟨T, t, rfl, SqT.of c4, ht4⟩
      refine ⟨F0, [], .ref T, rfl, rfl, hF4, by show 0 < sizeLine; decide, ?_⟩
      refine ⟨same_put hF0 (s2.trans s4), [.ref T], _, _, _, _, upd_same, ?_, rfl⟩
      rw [hnx]
      exact RelL.one (A4.put hF4)
    · rw [List.concat_eq_append] at eD
      rw [eD] at hD hnx hol hdl
      rw [stepJ_cat] at hnx
      have hct : c.ws.length ≤ 500 := by
        have z : tot (asOne (C.take i)) = tot (C.take i) := asOne_tot
        rw [eD, tot_app, show tot [c] = c.ws.length from Nat.add_zero _] at z
        omega
      obtain ⟨dv', vc, edv, hD', hc⟩ : ∃ dv' vc, dv = dv' ++ [vc] ∧ RelL (ChV K H2) dv' D ∧ ChV K H2 vc c := by
        have hl1 : dv.length = D.length + 1 := by rw [hdl, List.length_append, List.length_singleton]
        rcases List.eq_nil_or_concat dv with z | ⟨dv', vc, z⟩
        · rw [z] at hl1
          simp at hl1
        · rw [List.concat_eq_append] at z
          have h1 := RelL.take D.length hD
          have h2 := RelL.drop D.length hD
          have hl2 : dv'.length = D.length := by rw [z, List.length_append, List.length_singleton] at hl1; omega
          rw [z, ← hl2, List.take_left, hl2, List.take_left] at h1
          rw [z, ← hl2, List.drop_left, hl2, List.drop_left] at h2
          exact ⟨dv', vc, z, h1, h2.1⟩
      subst edv
      have hdl2 : dv'.length = D.length := hD'.len
      rw [List.length_append, List.length_singleton] at hol
      obtain ⟨xc, tc, rfl, hxc, htc⟩ := id hc
      refine ⟨_, rfl, _, .inl ⟨_, SqL.of hF, rfl⟩, iteTT (by cases dv' <;> rfl) ?_⟩
      refine ⟨_, rfl, 1, rfl, F0, _, -1, .ref xc, rfl, rfl, SqL.of hF, at_last _ _, xc, _, 1, .int c.b, rfl, rfl, hxc, rfl, _, rfl, rfl, _, rfl, ?_⟩
      have ed : decide (V.int (c.b : Int) = V.int (e.a : Int)) = decide (c.b = e.a) := decide_eq_decide.mpr ⟨fun z => by have := V.int.inj z; omega, fun z => by rw [z]⟩
      by_cases cb : c.b = e.a
      · rw [if_pos cb] at hnx
        refine iteTT (ed.trans (decide_eq_true cb)) ?_
        have edl : (dv' ++ [V.ref xc]).dropLast = dv' := List.dropLast_concat
        refine ⟨_, rfl, .inl ⟨rfl, _, .inl (.inl hF)⟩, F0, _, .ref xc, rfl, rfl, hF, by simp, ?_⟩
        rw [edl]
        have s3 := same_put (o := .lst dv') hF0 s2
        have hF3 : upd H2 F0 (.lst dv') F0 = some (.lst dv') := upd_same
        have hD3 : RelL (ChV K (upd H2 F0 (.lst dv'))) dv' D := RelL.imp (fun _ _ z => ChV.put hF z) hD'
        have hx3 : SqT K (upd H2 F0 (.lst dv')) xc [.int c.a, .int c.b, .ref tc] := SqT.put hF hxc
        have hc3 : SqT K (upd H2 F0 (.lst dv')) tc (c.ws.map V.str) := SqT.put hF htc
        have ht3 : SqT K (upd H2 F0 (.lst dv')) t (e.ws.map V.str) := SqT.put hF hta
        generalize upd H2 F0 (.lst dv') = H3 at *
        refine ⟨_, rfl, .inl ⟨rfl, _, .inl (.inl hF3)⟩, _, rfl, xc, _, 0, .int c.a, rfl, rfl, hx3, rfl, _, rfl, _, rfl, xc, _, 2, .ref tc, rfl, rfl, hx3, rfl, _, rfl, ?_⟩
        refine catA_of hc3 ht3 (sz (by rw [List.length_map, List.length_map]; omega)) fun H4 w4 s4 hw4 => ?_
        rw [← List.map_append] at hw4
        refine ⟨by show 3 ≤ sizeLine; decide, fun T hT => ?_⟩
        have s5 := Same.new hT (.tup [.int c.a, .int e.b, .ref w4])
        have c5 : upd H4 T (.tup [.int c.a, .int e.b, .ref w4]) T = some (.tup [.int c.a, .int e.b, .ref w4]) := upd_same
        have hF5 := s5 _ _ (s4 _ _ hF3)
        have hw5 := Same.tup s5 hw4
        generalize upd H4 T (.tup [.int c.a, .int e.b, .ref w4]) = H5 at *
        have A5 : ChV K H5 (.ref T) ⟨c.a, e.b, c.ws ++ e.ws⟩ := ⟨T, w4, rfl, SqT.of c5, hw5⟩
        refine ⟨F0, dv', .ref T, rfl, rfl, hF5, Nat.lt_of_lt_of_le (by omega : dv'.length < 1000) (sz (Nat.le_refl _)), ?_⟩
        refine ⟨same_put hF0 (s3.trans (s4.trans s5)), dv' ++ [.ref T], _, _, _, _, upd_same, ?_, rfl⟩
        rw [hnx]
        exact RelL.app (RelL.imp (fun _ _ z => ChV.put hF5 (ChV.same (s4.trans s5) z)) hD3) (RelL.one (A5.put hF5))
      · rw [if_neg cb] at hnx
        refine iteFF (ed.trans (decide_eq_false cb)) ?_
        refine ⟨_, rfl, .inl ⟨rfl, _, .inl (.inl hF)⟩, _, rfl, _, rfl, _, rfl, by show 3 ≤ sizeLine; decide, fun T hT => ?_⟩
        have s4 := Same.new hT (.tup [.int e.a, .int e.b, .ref t])
        have c4 : upd H2 T (.tup [.int e.a, .int e.b, .ref t]) T = some (.tup [.int e.a, .int e.b, .ref t]) := upd_same
        have hF4 := s4 _ _ hF
        have ht4 := Same.tup s4 hta
        have hD4 : RelL (ChV K (upd H2 T (.tup [.int e.a, .int e.b, .ref t]))) (dv' ++ [V.ref xc]) (D ++ [c]) := RelL.imp (fun _ _ z => ChV.same s4 z) hD
        generalize upd H2 T (.tup [.int e.a, .int e.b, .ref t]) = H4 at *
        have A4 : ChV K H4 (.ref T) e := ⟨T, t, rfl, SqT.of c4, ht4⟩
        refine ⟨F0, dv' ++ [V.ref xc], .ref T, rfl, rfl, hF4, Nat.lt_of_lt_of_le (by rw [List.length_append, List.length_singleton]; omega : (dv' ++ [V.ref xc]).length < 1000) (sz (Nat.le_refl _)), ?_⟩
        refine ⟨same_put hF0 (s2.trans s4), dv' ++ [V.ref xc] ++ [.ref T], _, _, _, _, upd_same, ?_, rfl⟩
        rw [hnx]
        exact RelL.app (RelL.imp (fun _ _ z => ChV.put hF4 z) hD4) (RelL.one (A4.put hF4))
  · rintro σ H2 ⟨s2, dv, v2, v3, v4, v5, hF, hD, rfl⟩
    rw [List.take_of_length_le (by omega)] at hD
    refine ⟨_, rfl, F0, dv, rfl, .inl ⟨SqL.of hF, fun t ht => ?_⟩⟩
    have s3 := Same.new ht (.tup dv)
    exact q _ t dv (s2.trans s3) (SqT.of upd_same) (chs_rel.mpr (RelL.imp (fun _ _ z => ChV.same s3 z) hD))
end
end P5

end
section
set_option Elab.async false
set_option linter.all false
set_option maxRecDepth 100000
set_option maxHeartbeats 4000000
namespace P5
open PySem PySem.Spec PySem.SeqAt PyProof.Rows L2
section
variable {K : PySem.W.Frag}
theorem filterMap_len {α β : Type} (f : α → Option β) : ∀ l : List α, (l.filterMap f).length ≤ l.length := fun l => List.length_filterMap_le _ _
/-- a comprehension whose items are made: R tells what each stands for -/
theorem lcM {α β : Type} {J : It} {G : Hp → Prop} {g : TG} {tt : TT} {te : TE} {vs : List Nat} {σ : L2.St} {H1 : Hp} {D : Addr} {Qd : Hp → Prop} {xs : List V} {as : List α} (f : α → Option β) (R : Hp → V → α → Prop) (S : Hp → V → β → Prop) (w : Walk J xs.length G (YAt xs)) (hz : xs.length ≤ 1000)
    (hG : ∀ H', Same H1 H' → G H') (hD : H1 D = none) (hR : RelL (R H1) xs as) (mR : ∀ H' v a, Same H1 H' → R H1 v a → R H' v a) (mS : ∀ H2 H' v b, (∀ a ys, SqT K H2 a ys → SqT K H' a ys) → S H2 v b → S H' v b)
    (turn : ∀ (x : V) (a : α) (H' : Hp) (Q : VK) (Rn : Hp → Prop), a ∈ as → R H' x a → Same H1 H' → (∀ y b H4, f a = some b → Same H' H4 → S H4 y b → Q y H4) → (f a = none → ∀ H4, Same H' H4 → Rn H4) →
      g x (wipe σ vs) H' fun σ2 H2 => wipe σ2 vs = wipe σ vs ∧ tt σ2 H2 fun b H3 => if b = true then te σ2 H3 Q else Rn H3)
    (hd : ∀ H' ys, Same H1 H' → H' D = some (.lst ys) → RelL (S H') ys (as.filterMap f) → Qd H') :
    ∃ W : Nat → Nat → Hp → Prop, (∃ m, W 0 m (upd H1 D (.lst []))) ∧ ∀ i m H, W i m H →
      (J.stop i H ∧ Qd H) ∨ (J.go i H ∧ ∃ Nx : Hp → Prop, (∀ H', Nx H' → ∃ m', m' < m ∧ W (i + 1) m' H') ∧ ∀ x H', J.yld i H x H' → g x (wipe σ vs) H' fun σ2 H2 => wipe σ2 vs = wipe σ vs ∧ tt σ2 H2 fun b H3 =>
        if b = true then te σ2 H3 fun y H4 => ∃ acc, H4 D = some (.lst acc) ∧ acc.length < sizeLine ∧ Nx (upd H4 D (.lst (acc ++ [y]))) else Nx H3) := by
  have hl := hR.len
  refine lc_it w (fun i H => Same H1 H ∧ ∃ ys, H D = some (.lst ys) ∧ RelL (S H) ys ((as.take i).filterMap f)) ⟨same_acc hD (Same.refl _), [], upd_same, trivial⟩ (fun i H _ p => hG H p.1) (fun i x H H' hi p y => ?_) fun H p => ?_
  · obtain ⟨e, hx⟩ := y
    subst e
    obtain ⟨s, ys, hL, hS⟩ := p
    obtain ⟨a, ha, hRa⟩ := hR.get hx
    have step : (as.take (i + 1)).filterMap f = (as.take i).filterMap f ++ (f a).toList := by
      rw [take_more ha, List.filterMap_append]
      cases e : f a <;> simp [e]
    have hlen : ys.length < sizeLine := small1000 (by
      rw [hS.len]
      refine Nat.le_trans (filterMap_len f _) ?_
      rw [List.length_take]
      exact Nat.le_trans (Nat.min_le_left _ _) (Nat.le_trans (Nat.le_of_lt hi) hz))
    refine turn x a H' _ _ (List.mem_of_getElem? ha) (mR _ _ _ s hRa) s (fun y b H4 e s4 hb => ?_) fun e H4 s4 => ?_
    · refine ⟨ys, s4 _ _ hL, hlen, same_acc hD (s.trans s4), ys ++ [y], upd_same, ?_⟩
      have hL4 := s4 _ _ hL
      rw [step, e]
      exact RelL.app (RelL.imp (fun v b q => mS _ _ v b (fun _ _ z => SqT.put hL4 (Same.tup s4 z)) q) hS) (RelL.one (mS _ _ _ _ (fun _ _ z => SqT.put hL4 z) hb))
    · refine ⟨s.trans s4, ys, s4 _ _ hL, ?_⟩
      rw [step, e]
      show RelL _ ys (_ ++ [])
      rw [List.append_nil]
      exact RelL.imp (fun v b q => mS _ _ v b (fun _ _ z => Same.tup s4 z) q) hS
  · obtain ⟨s, ys, hL, hS⟩ := p
    rw [List.take_of_length_le (by omega)] at hS
    exact hd H ys s hL hS
end
end P5

end
section
set_option Elab.async false
set_option linter.all false
set_option maxRecDepth 100000
set_option maxHeartbeats 4000000
/-! rest_behind -/
namespace P5
open PySem PySem.Spec PySem.SeqAt PyProof.Rows L2 EN
theorem filterMap_filter {α : Type} (p : α → Bool) : ∀ l : List α, (l.filterMap fun x => if p x = true then some x else none) = l.filter p
  | [] => rfl
  | x :: l => by
    have ih := filterMap_filter p l
    by_cases h : p x = true
    · rw [List.filterMap_cons_some (by rw [if_pos h]), List.filter_cons_of_pos h, ih]
    · rw [List.filterMap_cons_none (by rw [if_neg h]), List.filter_cons_of_neg h, ih]
section
variable {P : Program} {w : World} {K : PySem.W.Frag} {mg : Str → Option Value} {base : Heap} {aN aS CE CP CB CT CC : Addr}
abbrev sRb : Stmt := tp 37
abbrev NRb : List Str := ["one", "other", "changes", "first", "last", "words", "ahead", "more", "change"]
theorem scRb : FnScope NRb ["one", "other"] (defScope sRb) := ⟨rfl, rfl, rfl, by decide +kernel, rfl, by decide +kernel, by decide +kernel⟩
def spRb (K : PySem.W.Frag) (CP : Addr) : Sp := fun vs H Q _ => ∃ (p r : Addr) (C D : List Ed) (m k j : Nat), vs = [.ref p, .ref r] ∧ PtH K CP H p D k ∧ PtH K CP H r C m ∧ Tg C D m k ∧ (j : Int) = max m k + growC C ∧ j ≤ 200 ∧ D.length ≤ 100 ∧ tot D ≤ 100 ∧
  ∀ H' x, Same H H' → H x = none → PtH K CP H' x (asOne (rest0 C D)) j → Q (.ref x) H'
theorem ok_rb {f : Addr} {fd : FuncData} (F : Fun K "rest_behind" "rest_behind" sRb f fd) (B : BN mg) (EP : PC K CP) (Gr : Dk P w K mg base "growth_of" 1 ["change"] (spGof K)) (As : Dk P w K mg base "as_one" 1 ["changes"] (spAsO K))
    (G : MtK P w K mg base CP 2 "growth" ["self"] (spPGrow K CP)) (M : MkC P w K mg base "Patch" CP 5 ["self", "changes", "least"] (spPInit K CP)) : FnOk P w K mg base CX0 12 f fd ["one", "other"] (spRb K CP) := by
  refine F.ok scRb (fun vs H Q E h => ?_) (fun cdv A outer s H vs Q E hr h => ?_)
  · obtain ⟨_, _, _, _, _, _, _, rfl, _⟩ := h
    rfl
  obtain ⟨p, r, C, D, m, k, j, rfl, q1, q2, hT, hj, hj2, hDl, hDt, q⟩ := h
  obtain ⟨f1, fd1, G1, b1, k1, m1⟩ := Gr.ex
  obtain ⟨f2, fd2, G2, b2, k2, m2⟩ := As.ex
  obtain ⟨fG, fdG, MG, GG, bG⟩ := G.ex
  obtain ⟨fI, fdI, MI, GI, bI⟩ := M.ex
  refine ⟨_, pss_cons (ps_set (i := 2) scRb.nd rfl (Or.inl rfl) (pe_lst pa_nil))
    (pss_cons (ps_for PassesOwn.never rfl (pi_tup (pe_fld (pv 0) rfl)) (pg_tup rfl (pgs_cons (pg_name (i := 3) scRb.nd rfl (Or.inr rfl)) (pgs_cons (pg_name (i := 4) scRb.nd rfl (Or.inl rfl)) (pgs_cons (pg_name (i := 5) scRb.nd rfl (Or.inl rfl)) pgs_nil))))
      (pss_one (ps_if (pt_cmpR (op_notInT (hu65 hr)) (pe_tup (pa_cons (pv 3) (pa_cons (pv 4) (pa_cons (pv 5) pa_nil)))) (pe_fld (pv 1) rfl) (by rfl))
        (pss_cons (ps_setLc (i := 6) (own := [("change", 8)]) (g := gName 8) rfl scRb.nd rfl rfl (sw_true rfl rfl rfl (by decide +kernel)) (pi_tup (pe_fld (pv 1) rfl))
          (blkOk_by (N := NRb) (sc := defScope sRb) (by decide +kernel)) (fun _ _ _ _ _ => pg_name (i := 8) scRb.nd rfl (Or.inl rfl)) (fun _ _ _ _ _ => pts_one (pt_cmpR op_le (pe_ix (r := rIxT K) ix_tup (pv 8) pe_int (fun _ _ => rfl)) (pv 3) (nomark _))) (fun _ _ _ _ _ => pv 8))
        (pss_cons (ps_set (i := 7) scRb.nd rfl (Or.inl rfl) (pe_callB (cr_sum rfl) rfl B.sum (by decide +kernel) (pa_cons (pe_lc (own := [("change", 8)]) (g := gName 8) rfl scRb.nd (pi_list (pv 6))
          (blkOk_by (N := NRb) (sc := defScope sRb) (by decide +kernel)) (fun _ _ _ _ _ => pg_name (i := 8) scRb.nd rfl (Or.inl rfl)) (fun _ _ _ _ _ => pts_nil) (fun _ _ _ _ _ => pe_call G1 (hr.mono (by decide)) rfl m1 k1 b1 .nil pass0 (pa_cons (pv 8) pa_nil))) pa_nil)))
        (pss_one (ps_expr (pe_bm PySem.F.plainAttrs_list PySem.F.slot_list_append PySem.F.type_list_append mt_append (pv 2) (pa_cons (pe_tup (pa_cons (pe_op op_add (pv 3) (pv 7)) (pa_cons (pe_op op_add (pv 4) (pv 7)) (pa_cons (pv 5) pa_nil)))) pa_nil)))))) pss_nil)))
    (pss_one (ps_ret (pe_make (E := E0) MI GI (hr.mono (by decide)) rfl M.m bI .nil pass0 (pa_cons (pe_call G2 (hr.mono (by decide)) rfl m2 k2 b2 .nil pass0 (pa_cons (pv 2) pa_nil))
      (pa_cons (pe_op op_add (pe_callB (call_max2 rfl) rfl B.max (by decide +kernel) (pa_cons (pe_fld (pv 0) rfl) (pa_cons (pe_fld (pv 1) rfl) pa_nil))) (pe_meth0 (pv 1) EP.cl MG GG (hr.mono (by decide)) bG .nil pass0)) pa_nil)))))), ?_⟩
  obtain ⟨dx, t, vs, hp, hTt, hV, hO⟩ := id q1
  obtain ⟨dx2, t2, vs2, hp2, hT2, hV2, hO2⟩ := id q2
  have sz : ∀ {n : Nat}, n ≤ 1000 → n ≤ sizeLine := fun h => small_le h
  have hlV : vs.length = D.length := hV.len
  have hl2 : vs2.length = C.length := hV2.len
  have hfC := hO2.few
  refine ⟨by show 0 ≤ sizeLine; decide, fun F0 hF0 => ?_⟩
  have s0 := Same.new hF0 (.lst [])
  have hF00 : upd H F0 (.lst []) F0 = some (.lst []) := upd_same
  generalize upd H F0 (.lst []) = H0 at *
  refine ⟨_, rfl, p, CP, dx, _, .ref t, rfl, s0 _ _ hp, EP.cl, EP.nC, rfl, t, rfl, ⟨_, Same.tup s0 hTt⟩, ?_⟩
  refine for_tup (xs := vs) (fun i σ H' => Same H H' ∧ ∃ (dv : List V) (v3 v4 v5 v6 v7 v8 : Option V), H' F0 = some (.lst dv) ∧ RelL (ChV K H') dv (rest0 C (D.take i)) ∧ σ = [some (.ref p), some (.ref r), some (.ref F0), v3, v4, v5, v6, v7, v8])
    ⟨s0, [], none, none, none, none, none, none, hF00, trivial, rfl⟩ (fun i σ H' _ ⟨s, _⟩ => Same.tup s hTt) ?_ ?_
  · rintro i x σ H2 hx ⟨s2, dv, v3, v4, v5, v6, v7, v8, hF, hD, rfl⟩
    obtain ⟨e, he, hch⟩ := hV.get hx
    have heD := List.mem_of_getElem? he
    have oe := hO.ok e heD
    obtain ⟨xa, te, rfl, hxa, hta⟩ := ChV.same s2 hch
    have etk : D.take (i + 1) = D.take i ++ [e] := take_more he
    have hdl := hD.len
    have hdl2 : dv.length ≤ 200 := by
      rw [hdl]
      unfold rest0
      rw [List.length_map]
      have := List.length_filter_le (fun e => decide (e ∉ C)) (D.take i)
      rw [List.length_take] at this
      omega
    refine ⟨xa, _, rfl, hxa, rfl, _, _, rfl, _, _, rfl, _, _, rfl, rfl, ?_⟩
    refine ⟨_, rfl, _, rfl, _, rfl, by show 3 ≤ sizeLine; decide, fun T hTn => ?_⟩
    have s3 := Same.new hTn (.tup [.int e.a, .int e.b, .ref te])
    have c3 : upd H2 T (.tup [.int e.a, .int e.b, .ref te]) T = some (.tup [.int e.a, .int e.b, .ref te]) := upd_same
    have hF3 := s3 _ _ hF
    have ht3 := Same.tup s3 hta
    have hD3 : RelL (ChV K (upd H2 T (.tup [.int e.a, .int e.b, .ref te]))) dv (rest0 C (D.take i)) := RelL.imp (fun _ _ z => ChV.same s3 z) hD
    generalize upd H2 T (.tup [.int e.a, .int e.b, .ref te]) = H3 at *
    have s03 := s2.trans s3
    refine ⟨_, rfl, r, CP, dx2, _, .ref t2, rfl, s03 _ _ hp2, EP.cl, EP.nC, rfl, e, C, t2, vs2, ⟨T, te, rfl, SqT.of c3, ht3⟩, rfl, Same.tup s03 hT2, hV2.imp (fun _ _ z => Same.tup s03 z), oe.mrk, hO2.ok, _, rfl, ?_⟩
    by_cases c : e ∈ C
    · refine iteFF (decide_eq_false fun z => z c) ?_
      refine ⟨s03, dv, _, _, _, _, _, _, hF3, ?_, rfl⟩
      have er : rest0 C (D.take (i + 1)) = rest0 C (D.take i) := by
        rw [etk]
        unfold rest0
        rw [List.filter_append, List.filter_cons_of_neg (by rw [decide_eq_true_eq]; exact fun z => z c), List.filter_nil, List.append_nil]
      rw [er]
      exact hD3
    refine iteTT (decide_eq_true c) ?_
    have er : rest0 C (D.take (i + 1)) = rest0 C (D.take i) ++ [shE C e] := by
      rw [etk]
      unfold rest0
      rw [List.filter_append, List.filter_cons_of_pos (by rw [decide_eq_true_eq]; exact c), List.filter_nil, List.map_append]
      rfl
    have hwith := (hT.with_ e (List.mem_filter.mpr ⟨heD, decide_eq_true c⟩)).1
    obtain ⟨sa1, sa2, _⟩ := sh_at hT.c.apt hwith
    refine ⟨_, rfl, r, CP, dx2, _, .ref t2, rfl, s03 _ _ hp2, EP.cl, EP.nC, rfl, t2, rfl, ⟨_, Same.tup s03 hT2⟩, fun L hL => ?_⟩
    refine lcM (K := K) (as := C) (fun x => if (decide (x.b ≤ e.a)) = true then some x else none) (fun H v x => ChV K H v x) (fun H v x => ChV K H v x) walk_tup (by omega) (fun H' s => Same.tup (s03.trans s) hT2) hL (chs_rel.mp (hV2.imp fun _ _ z => Same.tup s03 z)) (fun H' v a s z => ChV.same s z) (fun H2 H' v b f z => z.imp f) (fun x a H' Q' Rn ha hR s kq kr => ?_) fun H4 ys s4 hL4 hys => ?_
    · obtain ⟨xb, tb, rfl, hxb, htb⟩ := id hR
      refine ⟨rfl, _, rfl, xb, _, 1, .int a.b, rfl, rfl, hxb, rfl, _, rfl, _, _, rfl, rfl, _, rfl, ?_⟩
      by_cases d : a.b ≤ e.a
      · exact iteTT (decide_eq_true (by omega)) ⟨_, rfl, kq _ a _ (if_pos (decide_eq_true d)) (Same.refl _) hR⟩
      · exact iteFF (decide_eq_false (by omega)) (kr (if_neg (by rw [decide_eq_true_eq]; exact d)) _ (Same.refl _))
    rw [filterMap_filter] at hys
    have s04 := s03.trans s4
    have hylen : ys.length ≤ C.length := by rw [hys.len]; exact List.length_filter_le _ _
    refine ⟨_, rfl, L, rfl, ⟨_, SqL.of hL4⟩, fun L2 hLn => lcL (((C.filter fun x => decide (x.b ≤ e.a)).map grow).map V.int) (by rw [List.length_map, List.length_map]; exact hys.len.symm) (by omega) (SqL.of hL4) hLn (fun i2 y x H' Q' hx2 hy s kk => ?_) fun H5 s5 hL5 => ?_⟩
    · obtain ⟨a, ha, hca⟩ := hys.get hx2
      rw [List.getElem?_map, List.getElem?_map, ha] at hy
      cases hy
      exact ⟨rfl, _, rfl, x, a, rfl, ChV.same s hca, kk H' (Same.refl _)⟩
    refine ⟨L2, (C.filter fun x => decide (x.b ≤ e.a)).map grow, rfl, SqL.of hL5, ?_⟩
    have s35 := s4.trans s5
    have s05 := s03.trans s35
    have hF5 := s35 _ _ hF3
    refine ⟨_, rfl, .inl ⟨rfl, _, .inl (.inl hF5)⟩, _, rfl, _, rfl, _, _, rfl, rfl, _, rfl, _, rfl, _, _, rfl, rfl, _, rfl, by show 3 ≤ sizeLine; decide, fun T2 hT2n => ?_⟩
    have eg : ((C.filter fun x => decide (x.b ≤ e.a)).map grow).sum = gBe C e := rfl
    dsimp only
    rw [eg, ← sa1, ← sa2]
    have s6 := Same.new hT2n (.tup [.int (shE C e).a, .int (shE C e).b, .ref te])
    have c6 : upd H5 T2 (.tup [.int (shE C e).a, .int (shE C e).b, .ref te]) T2 = some (.tup [.int (shE C e).a, .int (shE C e).b, .ref te]) := upd_same
    have hF6 := s6 _ _ hF5
    have ht6 := Same.tup (s35.trans s6) ht3
    have hD6 : RelL (ChV K (upd H5 T2 (.tup [.int (shE C e).a, .int (shE C e).b, .ref te]))) dv (rest0 C (D.take i)) := RelL.imp (fun _ _ z => ChV.same (s35.trans s6) z) hD3
    generalize upd H5 T2 (.tup [.int (shE C e).a, .int (shE C e).b, .ref te]) = H6 at *
    have A6 : ChV K H6 (.ref T2) (shE C e) := ⟨T2, te, rfl, SqT.of c6, ht6⟩
    refine ⟨F0, dv, .ref T2, rfl, rfl, hF6, Nat.lt_of_lt_of_le (by omega : dv.length < 1000) (sz (Nat.le_refl _)), ?_⟩
    refine ⟨same_put hF0 (s05.trans s6), dv ++ [.ref T2], _, _, _, _, _, _, upd_same, ?_, rfl⟩
    rw [er]
    exact RelL.app (RelL.imp (fun _ _ z => ChV.put hF6 z) hD6) (RelL.one (A6.put hF6))
  · rintro σ H2 ⟨s2, dv, v3, v4, v5, v6, v7, v8, hF, hD, rfl⟩
    rw [List.take_of_length_le (by omega)] at hD
    obtain ⟨hRow, hOk⟩ := hT.rest hj hj2 (by omega) (by omega)
    have hl3 : (rest0 C D).length ≤ D.length := by
      unfold rest0
      rw [List.length_map]
      exact List.length_filter_le _ _
    have ht3 : tot (rest0 C D) ≤ tot D := by
      have e1 : tot (rest0 C D) = tot (D.filter (fun e => decide (e ∉ C))) := by
        unfold tot rest0
        rw [List.map_map]
        rfl
      rw [e1]
      exact (sub_len (pw_nodup ((apt_pw hT.d.apt).sublist List.filter_sublist)) fun x hx => (List.mem_filter.mp hx).1).2
    refine ⟨_, rfl, F0, dv, rest0 C D, rfl, SqL.of hF, chs_rel.mpr hD, by omega, by omega, fun H3 t3 cv s3 ht3 hcv => ?_⟩
    have s03 := s2.trans s3
    refine ⟨_, rfl, p, CP, dx, _, .int k, rfl, s03 _ _ hp, EP.cl, EP.nL, rfl, _, rfl, r, CP, dx2, _, .int m, rfl, s03 _ _ hp2, EP.cl, EP.nL, rfl, _, _, rfl, ?_⟩
    refine ⟨_, rfl, r, dx2, _, rfl, s03 _ _ hp2, rfl, r, C, m, rfl, q2.same s03, fun H4 s4 => ⟨_, _, rfl, rfl, ?_⟩⟩
    have emax : (if ((m : Int)) > (k : Int) then (m : Int) else (k : Int)) + growC C = (j : Int) := by
      rw [hj]
      by_cases z : (m : Int) > (k : Int)
      · rw [if_pos z]; omega
      · rw [if_neg z]; omega
    dsimp only
    rw [emax]
    exact mk_pt (Q := fun x H2 => Q (.ref x) H2) (Same.tup s4 ht3) (hcv.imp fun _ _ z => Same.tup s4 z) hOk fun H7 x s7 fx q7 => q H7 x (s03.trans (s4.trans s7)) (fresh_of (s03.trans s4) fx) q7
end
end P5

end
section
set_option Elab.async false
set_option linter.all false
set_option maxRecDepth 100000
set_option maxHeartbeats 4000000
/-! dicts whose keys are tuples, nested -/
namespace ND
open PySem PySem.Spec PySem.SeqAt PyProof.Rows L2
abbrev NK := NestedKey
mutual
/-- the value v stands for the key k -/
inductive KeyV (K : PySem.W.Frag) (H : Hp) : V → NK → Prop
  | none : KeyV K H .non .none
  | num (i : Int) : KeyV K H (.int i) (.num i)
  | text (x : Str) : KeyV K H (.str x) (.text x)
  | tup {a : Addr} {xs : List V} {ks : List NK} : SqT K H a xs → KeysV K H xs ks → KeyV K H (.ref a) (.tup ks)
inductive KeysV (K : PySem.W.Frag) (H : Hp) : List V → List NK → Prop
  | nil : KeysV K H [] []
  | cons {v : V} {k : NK} {vs : List V} {ks : List NK} : KeyV K H v k → KeysV K H vs ks → KeysV K H (v :: vs) (k :: ks)
end
mutual
theorem KeyV.imp {K : PySem.W.Frag} {H H' : Hp} (f : ∀ a xs, SqT K H a xs → SqT K H' a xs) : ∀ {k : NK} {v : V}, KeyV K H v k → KeyV K H' v k
  | .none, _, h => by cases h; exact .none
  | .num i, _, h => by cases h; exact .num i
  | .text x, _, h => by cases h; exact .text x
  | .tup ks, _, h => by
    cases h with
    | tup h1 h2 => exact .tup (f _ _ h1) (KeysV.imp f h2)
theorem KeysV.imp {K : PySem.W.Frag} {H H' : Hp} (f : ∀ a xs, SqT K H a xs → SqT K H' a xs) : ∀ {ks : List NK} {vs : List V}, KeysV K H vs ks → KeysV K H' vs ks
  | [], _, h => by cases h; exact .nil
  | k :: ks, _, h => by
    cases h with
    | cons h1 h2 => exact .cons (KeyV.imp f h1) (KeysV.imp f h2)
end
theorem sqT_mono {K : PySem.W.Frag} {H H' : Hp} (f : ∀ a o, H a = some o → H' a = some o) {a : Addr} {xs : List V} (h : SqT K H a xs) : SqT K H' a xs := by
  rcases h with (h | ⟨o, h⟩) | h
  · exact .inl (.inl (f _ _ h))
  · exact .inl (.inr ⟨o, f _ _ h⟩)
  · exact .inr h
/-- tuples stand where something else is written -/
theorem sqT_upd {K : PySem.W.Frag} {H : Hp} {d : Addr} {o : Option HO} {u : HO} (hd : H d = o) (hn : ∀ ys, o ≠ some (.tup ys)) (hf : ∀ ob ys, o ≠ some (.frz ob (.tup ys))) {a : Addr} {xs : List V} (h : SqT K H a xs) : SqT K (upd H d u) a xs := by
  rcases h with (h | ⟨ob, h⟩) | h
  · refine .inl (.inl ?_)
    rw [upd_ne fun z => ?_]
    · exact h
    · rw [z, hd] at h
      exact hn _ h
  · refine .inl (.inr ⟨ob, ?_⟩)
    rw [upd_ne fun z => ?_]
    · exact h
    · rw [z, hd] at h
      exact hf _ _ h
  · exact .inr h
section
variable {X : Cx} {pins : List (Addr × Obj)} {σ : L2.St} {H : Hp} {s : Shared}
mutual
theorem nested_of (I : Inv X pins σ H s) : ∀ {k : NK} {v : V} {u : Value}, KeyV X.K H v k → RelV v u → NestedIs s.heap k u
  | .none, _, _, h, r => by cases h; cases r; exact .none
  | .num i, _, _, h, r => by
    cases h
    obtain ⟨t, rfl⟩ := r
    exact .int i t
  | .text x, _, _, h, r => by
    cases h
    obtain ⟨t, rfl⟩ := r
    exact .text x t
  | .tup ks, _, _, h, r => by
    cases h with
    | tup h1 h2 =>
      cases r
      obtain ⟨its, rv, ⟨o, e1, e2, n, e3⟩, _⟩ := I.tuple h1
      exact .tup e1 e2 e3 (by simpa using nested_all I h2 rv)
theorem nested_all (I : Inv X pins σ H s) : ∀ {ks : List NK} {vs : List V} {us : List Value}, KeysV X.K H vs ks → Vals vs us → NestedAll s.heap ks us
  | [], _, _, h, r => by cases h; cases r; exact .nil
  | k :: ks, _, _, h, r => by
    cases h with
    | cons h1 h2 =>
      cases r with
      | cons r1 r2 => exact .cons (nested_of I h1 r1) (nested_all I h2 r2)
end
end
mutual
theorem KeyV.dp {K : PySem.W.Frag} {H : Hp} : ∀ {k : NK} {v : V}, KeyV K H v k → Dp K H v k.data
  | .none, _, h => by cases h; exact .non
  | .num i, _, h => by cases h; exact .int i
  | .text x, _, h => by cases h; exact .str x
  | .tup ks, _, h => by
    cases h with
    | tup h1 h2 => exact .tup h1 (KeysV.dp h2)
theorem KeysV.dp {K : PySem.W.Frag} {H : Hp} : ∀ {ks : List NK} {vs : List V}, KeysV K H vs ks → DpAll K H vs (NestedKey.datas ks)
  | [], _, h => by cases h; exact .nil
  | k :: ks, _, h => by
    cases h with
    | cons h1 h2 => exact .cons (KeyV.dp h1) (KeysV.dp h2)
end
/-! ### the dict -/
/-- at a dict of these raw entries -/
def NdO (P : Program) (w : World) (a : Addr) (xs : List (NK × Addr × Value)) : HO := .ext fun h => ∃ o es ep, h.get? a = some o ∧ o.ExactDict ∧ o.data = .dict es ep ∧ es.toList = xs.map (entryOfKey (nestedKind P w))
/-- a table's rows as they stand -/
def NdR (K : PySem.W.Frag) (H : Hp) : List (NK × V) → List (NK × Addr × Value) → Prop := Paired fun p q => p.1 = q.1 ∧ (KeyV K H (.ref q.2.1) p.1 ∧ p.1.depth ≤ 8) ∧ RelV p.2 q.2.2
/-- at a dict of keys and values, in its order -/
def NdH (P : Program) (w : World) (K : PySem.W.Frag) (H : Hp) (a : Addr) (kvs : List (NK × V)) : Prop :=
  ∃ xs, Rd H a (NdO P w a xs) ∧ NdR K H kvs xs ∧ (kvs.map (·.1)).Nodup ∧ (a == sysModules) = false ∧ kvs.length ≤ sizeLine
theorem NdR.imp {K : PySem.W.Frag} {H H' : Hp} {kvs : List (NK × V)} {xs : List (NK × Addr × Value)} (f : ∀ a ys, SqT K H a ys → SqT K H' a ys) (r : NdR K H kvs xs) : NdR K H' kvs xs :=
  Paired.mapP r fun _ _ z => ⟨z.1, ⟨z.2.1.1.imp f, z.2.1.2⟩, z.2.2⟩
theorem NdR.val {K : PySem.W.Frag} {H : Hp} {kvs : List (NK × V)} {xs : List (NK × Addr × Value)} (r : NdR K H kvs xs) (k : NK) : RelO (valV kvs k) ((atKey xs k).map (·.2)) := by
  induction r with
  | nil => exact True.intro
  | @cons p q ps qs h t ih =>
    by_cases e : p.1 = k
    · rw [valV_pos e, show atKey (q :: qs) k = some q.2 from by simp [atKey, List.find?_cons, h.1.symm.trans e]]
      exact h.2.2
    · rw [valV_neg e, show atKey (q :: qs) k = atKey qs k from by simp [atKey, List.find?_cons, show ¬ q.1 = k from fun z => e (h.1.trans z)]]
      exact ih
theorem NdR.keys {K : PySem.W.Frag} {H : Hp} {kvs : List (NK × V)} {xs : List (NK × Addr × Value)} (r : NdR K H kvs xs) : kvs.map (·.1) = xs.map (·.1) := by
  induction r with
  | nil => rfl
  | cons h t ih => rw [List.map_cons, List.map_cons, ih, h.1]
theorem NdR.put {K : PySem.W.Frag} {H : Hp} {kvs : List (NK × V)} {xs : List (NK × Addr × Value)} (r : NdR K H kvs xs) {k : NK} {b : Addr} {y : V} {u : Value} (hb : KeyV K H (.ref b) k) (hd : k.depth ≤ 8) (ry : RelV y u) : NdR K H (putK kvs k y) (storedH xs k b u) := by
  unfold putK storedH
  rw [show (kvs.any fun kv => decide (kv.1 = k)) = (atKey xs k).isSome from by rw [valV_any, (r.val k).isSome_eq, Option.isSome_map]]
  by_cases q : (atKey xs k).isSome = true
  · rw [if_pos q, if_pos q]
    clear q
    induction r with
    | nil => exact .nil
    | @cons p q ps qs h t ih =>
      rw [List.map_cons, List.map_cons]
      refine .cons ?_ ih
      obtain ⟨h1, h2, h3⟩ := h
      unfold putAt
      by_cases e : p.1 = k
      · rw [if_pos e, if_pos (h1.symm.trans e)]
        exact ⟨h1, h2, ry⟩
      · rw [if_neg e, if_neg (fun z => e (h1.trans z))]
        exact ⟨h1, h2, h3⟩
  · rw [if_neg q, if_neg q]
    exact Paired.snoc r ⟨rfl, ⟨hb, hd⟩, ry⟩
theorem NdH.mono {P : Program} {w : World} {K : PySem.W.Frag} {H H' : Hp} {a : Addr} {kvs : List (NK × V)} (f : ∀ a o, H a = some o → H' a = some o) (h : NdH P w K H a kvs) : NdH P w K H' a kvs := by
  obtain ⟨xs, h1, h2, h3⟩ := h
  exact ⟨xs, h1.elim (fun z => .inl (f _ _ z)) fun ⟨o, z⟩ => .inr ⟨o, f _ _ z⟩, h2.imp fun _ _ z => sqT_mono f z, h3⟩
theorem nodup_put {kvs : List (NK × V)} {k : NK} {v : V} (h : (kvs.map (·.1)).Nodup) : ((putK kvs k v).map (·.1)).Nodup := by
  unfold putK
  by_cases q : (kvs.any fun kv => decide (kv.1 = k)) = true
  · rw [if_pos q, List.map_map]
    have e : ((fun x : NK × V => x.1) ∘ fun kv => if kv.1 = k then (kv.1, v) else kv) = fun x => x.1 := by
      funext kv
      show (if kv.1 = k then (kv.1, v) else kv).1 = kv.1
      by_cases z : kv.1 = k
      · rw [if_pos z]
      · rw [if_neg z]
    rw [e]
    exact h
  · rw [if_neg q, List.map_append, List.nodup_append]
    refine ⟨h, by simp, fun a ha b hb e => q ?_⟩
    obtain ⟨p, hp, e1⟩ := List.mem_map.mp ha
    rw [List.any_eq_true]
    exact ⟨p, hp, decide_eq_true (e1.trans (e.trans (by simpa using hb)))⟩
section
variable {X : Cx} {pins : List (Addr × Obj)} {σ : L2.St} {H : Hp} {s : Shared} {a b : Addr} {kvs : List (NK × V)} {k : NK} {v : V} {A : Around} {E : Value → Shared → Prop}
theorem nd_raw (I : Inv X pins σ H s) (h : NdH X.prog X.w X.K H a kvs) : ∃ xs, NdR X.K H kvs xs ∧ s.heap.DictOfH (nestedKind X.prog X.w) a xs ∧ Rd H a (NdO X.prog X.w a xs) := by
  obtain ⟨xs, h1, h2, h3, _, _⟩ := h
  obtain ⟨⟨o, es, ep, e1, e2, e3, e4⟩, _⟩ := (show ObjOk X.prog X.w H s.heap a (NdO X.prog X.w a xs) from h1.ok I.hok)
  refine ⟨xs, h2, ⟨o, es, ep, e1, e2, e3, e4, fun x hx => ?_, by rw [← h2.keys]; exact h3⟩, h1⟩
  have all : ∀ {l : List (NK × V)} {m : List (NK × Addr × Value)}, NdR X.K H l m → ∀ x ∈ m, (nestedKind X.prog X.w).is s.heap x.1 x.2.1 := by
    intro l m r
    induction r with
    | nil => intro x hx; cases hx
    | @cons p q ps qs hq t ih =>
      intro x hx
      rcases List.mem_cons.mp hx with e | hx
      · rw [e, ← hq.1]
        exact ⟨nested_of I hq.2.1.1 rfl, hq.2.1.2⟩
      · exact ih x hx
  exact all h2 x hx
theorem nd_key (I : Inv X pins σ H s) (h : KeyV X.K H (.ref b) k) (hd : k.depth ≤ 8) : (nestedKind X.prog X.w).is s.heap k b := ⟨nested_of I h rfl, hd⟩
theorem nd_ext {P : Program} {w : World} {h : Heap} {xs : List (NK × Addr × Value)} {o : Obj} {es : Array DictEntry} {ep : Nat} (e1 : h.get? a = some o) (e2 : o.ExactDict) (e3 : o.data = .dict es ep) (e4 : es.toList = xs.map (entryOfKey (nestedKind P w))) : ObjOk P w H h a (NdO P w a xs) :=
  ⟨⟨o, es, ep, e1, e2, e3, e4⟩, ⟨o, e1⟩, fun h1 h2 q k => let ⟨o, es, ep, z, r⟩ := q; ⟨o, es, ep, k o z, r⟩⟩
/-- {} -/
theorem pe_new {pos : Pos} : PE X (.Dict [] [] pos) (fun _ H Q => ∀ p, H p = none → (p == sysModules) = false → Q (.ref p) (upd H p (NdO X.prog X.w p []))) := by
  refine ⟨fun pins s σ H Q I h => wpAny_Dict_empty ?_⟩
  have hb : (s.heap.objs.size == sysModules) = false := beq_eq_false_iff_ne.mpr (Nat.ne_of_gt I.big)
  have e : (s.heap.push { cls := .type "dict", data := .dict #[] }).get? s.heap.objs.size = some { cls := .type "dict", data := .dict #[] } := Heap.get?_push_size _ rfl
  exact ⟨.ref s.heap.objs.size, _, I.laid (a := s.heap.objs.size) (o := NdO X.prog X.w s.heap.objs.size []) (t' := s.toks) (fun _ _ q => Heap.get?_push_of_some _ q) (Nat.le_refl _) (nd_ext e ⟨rfl, rfl, rfl⟩ rfl rfl), rfl, h _ (I.hok.fresh (Nat.le_refl _)) hb⟩
theorem NdH.new {P : Program} {w : World} {K : PySem.W.Frag} (hb : (a == sysModules) = false) : NdH P w K (upd H a (NdO P w a [])) a [] := ⟨[], .inl upd_same, .nil, List.nodup_nil, hb, Nat.zero_le _⟩
/-- a dict of its own, to be written -/
def NdW (P : Program) (w : World) (K : PySem.W.Frag) (H : Hp) (a : Addr) (kvs : List (NK × V)) : Prop :=
  ∃ xs, H a = some (NdO P w a xs) ∧ NdR K H kvs xs ∧ (kvs.map (·.1)).Nodup ∧ (a == sysModules) = false ∧ kvs.length ≤ sizeLine
theorem NdW.rd {P : Program} {w : World} {K : PySem.W.Frag} (h : NdW P w K H a kvs) : NdH P w K H a kvs := let ⟨xs, h1, h2⟩ := h; ⟨xs, .inl h1, h2⟩
theorem NdW.new {P : Program} {w : World} {K : PySem.W.Frag} (hb : (a == sysModules) = false) : NdW P w K (upd H a (NdO P w a [])) a [] := ⟨[], upd_same, .nil, List.nodup_nil, hb, Nat.zero_le _⟩
theorem NdW.imp {P : Program} {w : World} {K : PySem.W.Frag} {H' : Hp} (h : NdW P w K H a kvs) (f1 : H' a = H a) (f2 : ∀ b ys, SqT K H b ys → SqT K H' b ys) : NdW P w K H' a kvs := by
  obtain ⟨xs, h1, h2, h3⟩ := h
  exact ⟨xs, f1.trans h1, h2.imp f2, h3⟩
theorem NdH.imp {P : Program} {w : World} {K : PySem.W.Frag} {H' : Hp} (h : NdH P w K H a kvs) (f1 : H' a = H a) (f2 : ∀ b ys, SqT K H b ys → SqT K H' b ys) : NdH P w K H' a kvs := by
  obtain ⟨xs, h1, h2, h3⟩ := h
  refine ⟨xs, ?_, h2.imp f2, h3⟩
  unfold Rd
  rw [f1]
  exact h1
theorem NdW.mono {P : Program} {w : World} {K : PySem.W.Frag} {H' : Hp} (f : ∀ a o, H a = some o → H' a = some o) (h : NdW P w K H a kvs) : NdW P w K H' a kvs := by
  obtain ⟨xs, h1, h2, h3⟩ := h
  exact ⟨xs, f _ _ h1, h2.imp fun _ _ z => sqT_mono f z, h3⟩
theorem NdH.typ (I : Inv X pins σ H s) (h : NdH X.prog X.w X.K H a kvs) : s.TypeIs (.ref a) "dict" := by
  obtain ⟨xs, _, dd, _⟩ := nd_raw I h
  exact dd.typeIs
/-- d[k] = v: what then stands -/
def NdPut (P : Program) (w : World) (K : PySem.W.Frag) (H : Hp) (x y v : V) (Q : Hp → Prop) : Prop :=
  ∃ (a b : Addr) (kvs : List (NK × V)) (k : NK), x = .ref a ∧ y = .ref b ∧ NdW P w K H a kvs ∧ KeyV K H (.ref b) k ∧ k.depth ≤ 8 ∧ kvs.length < sizeLine ∧
    ∀ xs, NdW P w K (upd H a (NdO P w a xs)) a (putK kvs k v) → Q (upd H a (NdO P w a xs))
theorem nd_writ {P : Program} {w : World} {h' : Heap} {t' : Nat} {xs : List (NK × Addr × Value)} (I : Inv X pins σ H s) (ha : H a = some (NdO X.prog X.w a xs)) {ys : List (NK × Addr × Value)} (dd : h'.DictOfH (nestedKind X.prog X.w) a ys) (hs : Heap.SameBut a s.heap h') :
    Inv X pins σ (upd H a (NdO X.prog X.w a ys)) { s with heap := h', toks := t' } := by
  obtain ⟨o, es, ep, e1, e2, e3, e4, _⟩ := dd
  exact d_write I (by rw [ha]; exact True.intro) hs ⟨o, e1⟩ (nd_ext e1 e2 e3 e4)
theorem nd_stored {P : Program} {w : World} {K : PySem.W.Frag} {xs : List (NK × Addr × Value)} (ha : H a = some (NdO P w a xs)) (r : NdR K H kvs xs) (hn : (kvs.map (·.1)).Nodup) (hb : (a == sysModules) = false) (hl : kvs.length < sizeLine)
    (hk : KeyV K H (.ref b) k) (hd : k.depth ≤ 8) {u : Value} (rv : RelV v u) : NdW P w K (upd H a (NdO P w a (storedH xs k b u))) a (putK kvs k v) := by
  refine ⟨_, upd_same, (r.put hk hd rv).imp fun c ys q => ?_, nodup_put hn, hb, ?_⟩
  · exact sqT_upd ha (fun ys z => nomatch z) (fun ob ys z => nomatch z) q
  · have := length_putK kvs k v
    omega
theorem nd_set (hu : A.units + 16 < cLine) (I : Inv X pins σ H s) {x y : V} {ux uy r : Value} {Q : Hp → Prop} {Q' : Unit → Shared → Prop} (rx : RelV x ux) (ry : RelV y uy) (rv : RelV v r) (g : NdPut X.prog X.w X.K H x y v Q) (h : ∀ s' H', Inv X pins σ H' s' → Q H' → Q' () s') :
    wpAny (model X.prog X.w) A (setItem ux uy r) Q' E s := by
  obtain ⟨a, b, kvs, k, rfl, rfl, hW, hk, hd, hl, q⟩ := g
  cases rx
  cases ry
  obtain ⟨xs', r2, dd, _⟩ := nd_raw I hW.rd
  obtain ⟨xs, h1, h2, h3, h4, h5⟩ := hW
  have dd : s.heap.DictOfH (nestedKind X.prog X.w) a xs := by
    obtain ⟨xs2, r3, dd3, z⟩ := nd_raw I (X := X) (a := a) (kvs := kvs) ⟨xs, .inl h1, h2, h3, h4, h5⟩
    obtain ⟨⟨o, es, ep, e1, e2, e3, e4⟩, _⟩ := (show ObjOk X.prog X.w H s.heap a (NdO X.prog X.w a xs) from I.hok a _ h1)
    have all : ∀ {l : List (NK × V)} {m : List (NK × Addr × Value)}, NdR X.K H l m → ∀ x ∈ m, (nestedKind X.prog X.w).is s.heap x.1 x.2.1 := by
      intro l m r
      induction r with
      | nil => intro x hx; cases hx
      | @cons p q ps qs hq t ih =>
        intro x hx
        rcases List.mem_cons.mp hx with e | hx
        · rw [e, ← hq.1]
          exact ⟨nested_of I hq.2.1.1 rfl, hq.2.1.2⟩
        · exact ih x hx
    exact ⟨o, es, ep, e1, e2, e3, e4, all h2, by rw [← h2.keys]; exact h3⟩
  have hz : xs.length ≤ sizeLine := by rw [← Paired.length h2]; exact h5
  refine wpAny_setItem_heap (hsz := hz) (by show A.in1.units + 8 < cLine; have : A.in1.units = A.units + 1 := rfl; omega) (nd_key I hk hd) dd fun h' dd' hs => h _ _ (nd_writ (P := X.prog) (w := X.w) I h1 dd' hs) (q _ (nd_stored h1 h2 h3 h4 hl hk hd rv))
/-- d[k], there -/
def NdGet (P : Program) (w : World) (K : PySem.W.Frag) (H : Hp) (x y : V) (o : Option V) : Prop :=
  ∃ (a b : Addr) (kvs : List (NK × V)) (k : NK), x = .ref a ∧ y = .ref b ∧ NdH P w K H a kvs ∧ KeyV K H (.ref b) k ∧ k.depth ≤ 8 ∧ valV kvs k = o
theorem nd_get (hu : A.units + 16 < cLine) (I : Inv X pins σ H s) {x y z : V} {ux uy : Value} {Q : Value → Shared → Prop} (rx : RelV x ux) (ry : RelV y uy) (g : NdGet X.prog X.w X.K H x y (some z)) (h : ∀ u s', Inv X pins σ H s' → RelV z u → Q u s') :
    s.TypeIs ux "dict" ∧ wpAny (model X.prog X.w) A (getItem ux uy) Q E s := by
  obtain ⟨a, b, kvs, k, rfl, rfl, hH, hk, hd, hv⟩ := g
  cases rx
  cases ry
  obtain ⟨xs, rel, dd, _⟩ := nd_raw I hH
  obtain ⟨w', hw, rw'⟩ := RelO.some_of (v := z) (o := (atKey xs k).map (·.2)) (by rw [← hv]; exact rel.val k)
  obtain ⟨p, hp, hp2⟩ := Option.map_eq_some_iff.mp hw
  refine ⟨dd.typeIs, wpAny_getItem_heap (by show A.in1.units + 8 < cLine; have : A.in1.units = A.units + 1 := rfl; omega) (nd_key I hk hd) dd hp ?_⟩
  rw [hp2]
  exact h w' _ (I.tok _) rw'
theorem nd_in (hu : A.units + 16 < cLine) (I : Inv X pins σ H s) {x y : V} {o : Option V} {ux uy : Value} {Q : Value → Shared → Prop} (rx : RelV x ux) (ry : RelV y uy) (g : NdGet X.prog X.w X.K H x y o) (h : ∀ s', Inv X pins σ H s' → Q (.bool o.isSome) s') :
    wpAny (model X.prog X.w) A (compareOp .In uy ux) Q E s := by
  obtain ⟨a, b, kvs, k, rfl, rfl, hH, hk, hd, hv⟩ := g
  cases rx
  cases ry
  obtain ⟨xs, rel, dd, _⟩ := nd_raw I hH
  have hb : (a == sysModules) = false := let ⟨_, _, _, _, z, _⟩ := hH; z
  refine wpAny_in_heap (by show A.in1.units + 8 < cLine; have : A.in1.units = A.units + 1 := rfl; omega) (nd_key I hk hd) hb dd ?_
  have q := (rel.val k).isSome_eq
  rw [Option.isSome_map] at q
  rw [← q, hv]
  exact h _ (I.tok _)
end
/-! ### readings -/
def tNdGet (P : Program) (w : World) (K : PySem.W.Frag) (td ty : TE) : TE := fun σ H Q => td σ H fun x H1 => ty σ H1 fun y H2 => ∃ z, NdGet P w K H2 x y (some z) ∧ Q z H2
def tNdIn (P : Program) (w : World) (K : PySem.W.Frag) (ty td : TE) : TE := fun σ H Q => ty σ H fun y H1 => td σ H1 fun x H2 => ∃ o, NdGet P w K H2 x y o ∧ Q (.bl o.isSome) H2
def sNdPut (P : Program) (w : World) (K : PySem.W.Frag) (td ty tv : TE) : TS := fun D σ H => tv σ H fun v H1 => td σ H1 fun x H2 => ty σ H2 fun y H3 => NdPut P w K H3 x y v fun H4 => D.nx σ H4
section
variable {X : Cx} {o i e value : Expr} {pos pos' : Pos} {td ty tv : TE}
theorem pe_ndget (hu : X.A.units + 16 < cLine) (ho : PE X o td) (hi : PE X i ty) (hs : NoSl i) : PE X (.Subscript o i pos) (tNdGet X.prog X.w X.K td ty) := by
  refine ⟨fun pins s σ H Q I h => ?_⟩
  exact subD_of PySem.F.slot_dict_getitem.lookup hs (thn (ho.run pins s σ H _ I h) fun u s1 ⟨x, H1, I1, rx, q1⟩ => thn (hi.run pins s1 σ H1 _ I1 q1) fun iv s2 ⟨y, H2, I2, ry, z, g, q2⟩ =>
    nd_get hu I2 rx ry g fun w' s3 I3 rw' => ⟨z, H2, I3, rw', q2⟩)
theorem pc_ndin (hu : X.A.units + 16 < cLine) (hi : PE X i ty) (ho : PE X o td) : PC X .In i o (tNdIn X.prog X.w X.K ty td) := by
  refine ⟨fun pins s σ H Q I h => ?_⟩
  exact thn (hi.run pins s σ H _ I h) fun iv s1 ⟨y, H1, I1, ry, q1⟩ => thn (ho.run pins s1 σ H1 _ I1 q1) fun u s2 ⟨x, H2, I2, rx, ov, g, q2⟩ =>
    nd_in hu I2 rx ry g fun s3 I3 => ⟨.bl ov.isSome, H2, I3, rfl, q2⟩
theorem ps_ndput (hu : X.A.units + 16 < cLine) (ho : PE X o td) (hi : PE X i ty) (hv : PE X value tv) (hs : swapsWith value (some (.Subscript o i pos')) pos.line X.env = pure false) :
    PS X (.Assign [.Subscript o i pos'] value pos) (sNdPut X.prog X.w X.K td ty tv) := by
  refine ⟨fun pins s σ H D I h => ?_⟩
  exact wpAny_Assign_Subscript (thn (hv.run pins s σ H _ I h) fun r s1 ⟨v, H1, I1, rv, q1⟩ => thn (ho.run pins s1 σ H1 _ I1 q1) fun u s2 ⟨x, H2, I2, rx, q2⟩ => thn (hi.run pins s2 σ H2 _ I2 q2) fun iv s3 ⟨y, H3, I3, ry, g⟩ =>
    nd_set hu I3 rx ry rv g fun s4 H4 I4 q => ⟨σ, H4, I4, q⟩) hs
end
/-- len(d) -/
theorem call_len_nd {X : Cx} : CallR X (.builtin "len") (fun xs H Q => ∃ (p : Addr) (kvs : List (NK × V)), xs = [.ref p] ∧ NdH X.prog X.w X.K H p kvs ∧ Q (.int ((kvs.length : Nat) : Int)) H) := by
  intro pins s σ H xs us Q I r h
  obtain ⟨p, kvs, rfl, hp, q⟩ := h
  obtain ⟨u, rfl, rx⟩ := vals1 r
  obtain rfl : u = .ref p := rx
  obtain ⟨ys, rel, dd, _⟩ := nd_raw I hp
  obtain ⟨_, _, _, _, hd, z⟩ := hp
  have hl : kvs.length = ys.length := Paired.length rel
  refine call_len_dictH hd dd (by rw [← hl]; rw [sizeLine_eq] at z; omega) ?_
  rw [← hl]
  exact ⟨.int ((kvs.length : Nat) : Int), H, I.tok _, ⟨_, rfl⟩, q⟩
end ND

end
section
set_option Elab.async false
set_option linter.all false
set_option maxRecDepth 100000
set_option maxHeartbeats 4000000
set_option pp.maxSteps 200
/-! dict comprehensions whose keys are nested tuples: one clause, two clauses -/
namespace ND
open PySem PySem.Spec PySem.SeqAt PyProof.Rows L2
section
variable {X : Cx} {pins : List (Addr × Obj)} {σ : L2.St} {H : Hp} {s : Shared} {A : Around} {E : Value → Shared → Prop}
theorem nd_dd (I : Inv X pins σ H s) {a : Addr} {kvs : List (NK × V)} {xs : List (NK × Addr × Value)} (h1 : H a = some (NdO X.prog X.w a xs)) (h2 : NdR X.K H kvs xs) (h3 : (kvs.map (·.1)).Nodup) : s.heap.DictOfH (nestedKind X.prog X.w) a xs := by
  obtain ⟨⟨o, es, ep, e1, e2, e3, e4⟩, _⟩ := (show ObjOk X.prog X.w H s.heap a (NdO X.prog X.w a xs) from I.hok a _ h1)
  have all : ∀ {l : List (NK × V)} {m : List (NK × Addr × Value)}, NdR X.K H l m → ∀ x ∈ m, (nestedKind X.prog X.w).is s.heap x.1 x.2.1 := by
    intro l m r
    induction r with
    | nil => intro x hx; cases hx
    | @cons p q ps qs hq t ih =>
      intro x hx
      rcases List.mem_cons.mp hx with e | hx
      · rw [e, ← hq.1]
        exact ⟨nested_of I hq.2.1.1 rfl, hq.2.1.2⟩
      · exact ih x hx
  exact ⟨o, es, ep, e1, e2, e3, e4, all h2, by rw [← h2.keys]; exact h3⟩
/-- a comprehension's store -/
theorem nd_dset (hu : A.units + 16 < cLine) (I : Inv X pins σ H s) {D : Addr} {y v : V} {uy r : Value} {Q : Hp → Prop} {Q' : Unit → Shared → Prop} (ry : RelV y uy) (rv : RelV v r) (g : NdPut X.prog X.w X.K H (.ref D) y v Q) (h : ∀ s' H', Inv X pins σ H' s' → Q H' → Q' () s') :
    wpAny (model X.prog X.w) A (dictSet D uy r) Q' E s := by
  obtain ⟨a, b, kvs, k, ea, rfl, hW, hk, hd, hl, q⟩ := g
  cases ea
  cases ry
  obtain ⟨xs, h1, h2, h3, h4, h5⟩ := hW
  have hz : xs.length ≤ sizeLine := by rw [← Paired.length h2]; exact h5
  exact wpAny_dictSet_heap (hsz := hz) (by show A.units + 8 < cLine; omega) (nd_key I hk hd) (nd_dd I h1 h2 h3) fun h' dd' hs => h _ _ (nd_writ (P := X.prog) (w := X.w) I h1 dd' hs) (q _ (nd_stored h1 h2 h3 h4 hl hk hd rv))
end
/-! ### two clauses: the model's own steps -/
section
variable {kx vx ta ia tb ib : Expr} {fa fb : List Expr} {sc : Scope} {ps : Pos}
abbrev dcE (kx vx ta ia : Expr) (fa : List Expr) (tb ib : Expr) (fb : List Expr) (sc : Scope) (ps : Pos) : Expr := .DictComp kx vx [⟨ta, ia, fa, 0⟩, ⟨tb, ib, fb, 0⟩] sc ps
theorem turn_outer (acc it : Value) (env : Env) : compTurn (dcE kx vx ta ia fa tb ib fb sc ps) 0 it acc env = (do
    standAt ia.pos
    match ← pyNext it with
    | none => pure (.done .next)
    | some v =>
      letOwnedTupleGo ta it v
      assign ta env v
      let mut ok := true
      for c in fa do
        if ok then ok ← isTrue c env (eval c env)
      if ok then
        let x ← eval ib env
        standAt ib.pos
        let x ← foldedSetIterable ib env x
        let _ ← runOwn (.compStart (dcE kx vx ta ia fa tb ib fb sc ps) 1 (← holding [x] (pyIter x)) acc env) env
      again (.compLoop (dcE kx vx ta ia fa tb ib fb sc ps) 0 it acc env)) := by rfl
theorem turn_inner (D : Addr) (it : Value) (env : Env) : compTurn (dcE kx vx ta ia fa tb ib fb sc ps) 1 it (.ref D) env = (do
    standAt ib.pos
    match ← pyNext it with
    | none => pure (.done .next)
    | some v =>
      letOwnedTupleGo tb it v
      assign tb env v
      let mut ok := true
      for c in fb do
        if ok then ok ← isTrue c env (eval c env)
      if ok then
        (do
          let kv ← eval kx env
          let vv ← holding [kv] (eval vx env)
          standAt { kx.pos with endLine := vx.pos.endLine, endCol := vx.pos.endCol }
          holding [kv, vv] (dictSet D kv vv))
      again (.compLoop (dcE kx vx ta ia fa tb ib fb sc ps) 1 it (.ref D) env)) := by rfl
variable {prog : Program} {w : World} {A : Around} {R : Result → Shared → Prop} {s : Shared} {it : Value} {env : Env}
/-- what noting leaves of a fault -/
abbrev Nt (prog : Program) (w : World) (A : Around) (env : Env) (R : Result → Shared → Prop) : Value → Shared → Prop := notedBy (model prog w) A env fun e s' => R (.error e) s'
/-- a clause's step: its next value, taken and tested; G goes on with it -/
def Step (prog : Program) (w : World) (A : Around) (R : Result → Shared → Prop) (it : Value) (env : Env) (t : Expr) (fs : List Expr) (skip : Shared → Prop) (G : Shared → Prop) (s : Shared) : Prop :=
  wpAny (model prog w) A (pyNext it) (fun r s₁ => match r with
    | none => R (.ok .next) s₁
    | some v => wpAny (model prog w) A (letOwnedTupleGo t it v) (fun _ s₂ => wpAny (model prog w) A (assign t env v) (fun _ s₃ =>
        wpAny (model prog w) A (forIn fs true fun c r => if r = true then do let ok ← isTrue c env (eval c env); pure (ForInStep.yield ok) else pure (ForInStep.yield r)) (fun ok s₄ =>
          if ok = true then G s₄ else skip s₄) (Nt prog w A env R) s₃) (Nt prog w A env R) s₂) (Nt prog w A env R) s₁) (Nt prog w A env R) s
theorem loop_outer {acc : Value} (hs : ∀ x, foldedSetIterable ib env x = pure x) (I : Nat → Shared → Prop)
    (turn : ∀ n s, I n s → Step prog w A R it env ta fa (fun s' => ∃ m, m < n ∧ I m s') (fun s₄ => wpAny (model prog w) A (eval ib env) (fun x s₅ => wpAny (model prog w) A (pyIter x) (fun it1 s₆ =>
      codeAny (model prog w) A (.compStart (dcE kx vx ta ia fa tb ib fb sc ps) 1 it1 acc env) (fun r s' => match r with
        | .ok _ => ∃ m, m < n ∧ I m s'
        | .error _ => False) s₆) (Nt prog w A env R) s₅) (Nt prog w A env R) s₄) s)
    (n : Nat) (h : I n s) : codeAny (model prog w) A (.compLoop (dcE kx vx ta ia fa tb ib fb sc ps) 0 it acc env) R s := by
  refine codeAny_loop rfl I (fun n s hI => ?_) n h
  show wpAny _ A ((compTurn (dcE kx vx ta ia fa tb ib fb sc ps) 0 it acc env).onRaise (fun x => do noteFrame x env; theTreesLotGoes x)) _ _ s
  refine wpAny_noted ?_
  rw [turn_outer]
  refine wpAny_bind (wpAny_standAt (wpAny_bind (wpAny_mono (turn n s hI) (fun r s₁ k1 => ?_) fun _ _ z => z)))
  cases r with
  | none => exact wpAny_pure k1
  | some v =>
    refine wpAny_bind (wpAny_mono k1 (fun _ s₂ k2 => ?_) fun _ _ z => z)
    refine wpAny_bind (wpAny_mono k2 (fun _ s₃ k3 => wpAny_bind (wpAny_mono k3 (fun ok s₄ k4 => ?_) fun _ _ z => z)) fun _ _ z => z)
    cases ok with
    | false => exact wpAny_pure ⟨rfl, k4⟩
    | true =>
      refine wpAny_bind (wpAny_mono k4 (fun x s₅ k5 => ?_) fun _ _ z => z)
      refine wpAny_bind (wpAny_standAt (wpAny_bind (wpAny_of_eq (hs x) (wpAny_bind (wpAny_holding (wpAny_mono k5 (fun it1 s₆ k6 => ?_) fun _ _ z => z))))))
      refine wpAny_bind (wpAny_runOwn ?_)
      rw [Around.mark_none]
      refine codeAny_mono k6 fun r s' hr => ?_
      cases r with
      | ok f =>
        first
          | exact wpAny_pure ⟨rfl, hr⟩
          | exact wpAny_bind (wpAny_pure (wpAny_pure ⟨rfl, hr⟩))
      | error e => exact hr.elim
theorem loop_inner {D : Addr} (I : Nat → Shared → Prop)
    (turn : ∀ n s, I n s → Step prog w A R it env tb fb (fun s' => ∃ m, m < n ∧ I m s') (fun s₄ => wpAny (model prog w) A (eval kx env) (fun kv s₅ => wpAny (model prog w) A (eval vx env) (fun vv s₆ =>
      wpAny (model prog w) A (dictSet D kv vv) (fun _ s₇ => ∃ m, m < n ∧ I m s₇) (Nt prog w A env R) s₆) (Nt prog w A env R) s₅) (Nt prog w A env R) s₄) s)
    (n : Nat) (h : I n s) : codeAny (model prog w) A (.compLoop (dcE kx vx ta ia fa tb ib fb sc ps) 1 it (.ref D) env) R s := by
  refine codeAny_loop rfl I (fun n s hI => ?_) n h
  show wpAny _ A ((compTurn (dcE kx vx ta ia fa tb ib fb sc ps) 1 it (.ref D) env).onRaise (fun x => do noteFrame x env; theTreesLotGoes x)) _ _ s
  refine wpAny_noted ?_
  rw [turn_inner]
  refine wpAny_bind (wpAny_standAt (wpAny_bind (wpAny_mono (turn n s hI) (fun r s₁ k1 => ?_) fun _ _ z => z)))
  cases r with
  | none => exact wpAny_pure k1
  | some v =>
    refine wpAny_bind (wpAny_mono k1 (fun _ s₂ k2 => ?_) fun _ _ z => z)
    refine wpAny_bind (wpAny_mono k2 (fun _ s₃ k3 => wpAny_bind (wpAny_mono k3 (fun ok s₄ k4 => ?_) fun _ _ z => z)) fun _ _ z => z)
    cases ok with
    | false => exact wpAny_pure ⟨rfl, k4⟩
    | true =>
      exact wpAny_bind (wpAny_bind (wpAny_mono k4 (fun kv s₅ k5 => wpAny_bind (wpAny_holding (wpAny_mono k5 (fun vv s₆ k6 => wpAny_bind (wpAny_standAt (wpAny_holding (wpAny_mono k6 (fun _ s₇ k7 => wpAny_pure ⟨rfl, k7⟩) fun _ _ z => z)))) fun _ _ z => z))) fun _ _ z => z))
theorem start_inner {acc : Value} (h0 : codeAny (model prog w) A (.compLoop (dcE kx vx ta ia fa tb ib fb sc ps) 1 it acc env) R s)
    (h : wpAny (model prog w) A (pyIter it) (fun it' s' => codeAny (model prog w) A (.compLoop (dcE kx vx ta ia fa tb ib fb sc ps) 1 it' acc env) R s') (Nt prog w A env R) s) :
    codeAny (model prog w) A (.compStart (dcE kx vx ta ia fa tb ib fb sc ps) 1 it acc env) R s := by
  refine codeAny_of_tree ?_
  show wpAny _ _ ((compStart (dcE kx vx ta ia fa tb ib fb sc ps) 1 it acc env).onRaise (fun x => do noteFrame x env; standAt theWindowsPlace)) _ _ s
  refine wpAny_notedAt ?_
  unfold compStart
  show wpAny _ _ (ask >>= _) _ _ s
  refine wpAny_bind (wpAny_askSetting (wpAny_ite ?_))
  split
  · first
      | exact wpAny_bind (wpAny_pure (wpAny_pure (And.intro rfl h0)))
      | exact wpAny_pure (And.intro rfl h0)
  · first
      | exact wpAny_bind (wpAny_rule (wpAny_bind (wpAny_standAt (wpAny_bind (wpAny_mono h (fun it' s' k => wpAny_pure (And.intro rfl k)) fun _ _ x => x)))))
      | (refine wpAny_bind (wpAny_rule ?_); show wpAny _ _ (standAt ib.pos >>= _) _ _ s; exact wpAny_bind (wpAny_standAt (wpAny_bind (wpAny_mono h (fun it' s' k => wpAny_pure (And.intro rfl k)) fun _ _ x => x))))
end
end ND

end
section
set_option Elab.async false
set_option linter.all false
set_option maxRecDepth 100000
set_option maxHeartbeats 4000000
set_option pp.maxSteps 200
/-! the block of a dict comprehension whose keys are nested tuples -/
namespace ND
open PySem PySem.Spec PySem.SeqAt PyProof.Rows L2
/-- the block stands open: s3 before its names, s4 behind them -/
structure Opn (X : Cx) (pins : List (Addr × Obj)) (σ : L2.St) (sc : Scope) (own : List (Str × Nat)) (tg : Expr) (J : It) (tn : Nat → Heap → Prop) (it : Addr) (s3 s4 : Shared) (H3 : Hp) (C : Addr) (cl : List (Str × Addr)) (fp : List Addr) : Prop where
  before : Inv X pins σ H3 s3
  turn : Turn X.prog X.w X.K tg J fp it tn
  at0 : tn 0 s4.heap
  fps : ∀ b ∈ fp, FpOk X pins H3 b ∧ b < s3.heap.objs.size
  inv : Inv (X.blk s3 H3 sc (compEnvC sc cl C X.env) fp) [] (wipe σ (own.map (·.2))) H3 s4
  locs : (compEnvC sc cl C X.env).locals = s3.heap.objs.size
namespace Opn
variable {X : Cx} {pins : List (Addr × Obj)} {σ : L2.St} {sc : Scope} {own : List (Str × Nat)} {tg : Expr} {J : It} {tn : Nat → Heap → Prop} {it : Addr} {s3 s4 : Shared} {H3 : Hp} {C : Addr} {cl : List (Str × Addr)} {fp : List Addr}
theorem none_of (O : Opn X pins σ sc own tg J tn it s3 s4 H3 C cl fp) : ∀ b ∈ fp, H3 b = none := fun b hb => (O.fps b hb).1.1
theorem stat (O : Opn X pins σ sc own tg J tn it s3 s4 H3 C cl fp) {σ' : L2.St} {H' : Hp} {s' : Shared} (I' : Inv (X.blk s3 H3 sc (compEnvC sc cl C X.env) fp) [] σ' H' s') (hn : ∀ b ∈ fp, H' b = none) : ∀ b ∈ fp, FpOk (X.blk s3 H3 sc (compEnvC sc cl C X.env) fp) [] H' b := fun b hb =>
  ⟨hn b hb, (I'.ok.exf b hb).1, I'.ok.exfs b hb, .inl hb, fun x c e => (I'.ok.exf b hb).2 x c e, fun p hp => absurd (show p ∈ ([] : List (Addr × Obj)) ++ [] from hp) (by simp)⟩
/-- the block is left -/
theorem leave (O : Opn X pins σ sc own tg J tn it s3 s4 H3 C cl fp) {σ' : L2.St} {H' : Hp} {s' : Shared} (I' : Inv (X.blk s3 H3 sc (compEnvC sc cl C X.env) fp) [] σ' H' s') :
    Inv X pins σ H' s' ∧ FpOk X pins H' s3.heap.objs.size ∧ ∃ m, s'.heap.Ns s3.heap.objs.size m := by
  have nC : H' s3.heap.objs.size = none := by
    have z : H' (compEnvC sc cl C X.env).locals = none := I'.free
    rw [O.locs] at z
    exact z
  obtain ⟨m, hn, _⟩ := I'.loc
  have hn : s'.heap.Ns (compEnvC sc cl C X.env).locals m := hn
  rw [O.locs] at hn
  refine ⟨O.before.call' (ch := fp) I'.os I'.base I'.hok I'.bare fun b hb => ?_, O.before.fpOk (Nat.le_refl _) nC, m, hn⟩
  obtain ⟨q, _⟩ := O.fps b hb
  exact ⟨q.2.2.2.1, q.2.1, q.2.2.2.2.1, q.2.2.2.2.2⟩
end Opn
section
variable {X : Cx} {pins : List (Addr × Obj)} {s : Shared} {σ : L2.St} {H : Hp}
/-- a dict comprehension's block: what is left is its first loop -/
theorem nc_open {kx vx tg iter : Expr} {ifs : List Expr} {rest : List Comprehension} {sc : Scope} {own : List (Str × Nat)} {pos pos' : Pos} {wi : TI} {use : Option (Value → Sem Unit)} {Qf : Value → Shared → Prop} {Body : It → Addr → Hp → Prop}
    (hN : X.N.Nodup) (I : Inv X pins σ H s) (hi : PI X tg iter wi) (ok : BlkOk X.N X.env.scope sc own) (hs : ∀ x, foldedSetIterable iter X.env x = pure x)
    (h : wi σ H fun J H1 => ∀ D, H1 D = none → (D == sysModules) = false → Body J D (upd H1 D (NdO X.prog X.w D [])))
    (loop : ∀ {J tn it s3 s4 H3 C cl fp D}, Opn X pins σ sc own tg J tn it s3 s4 H3 C cl fp → Body J D H3 →
      codeAny (model X.prog X.w) X.A (.compLoop (.DictComp kx vx (⟨tg, iter, ifs, 0⟩ :: rest) sc pos) 0 (.ref it) (.ref D) (compEnvC sc cl C X.env)) (compPost (model X.prog X.w) X.A X.xe use Qf (.ref D) s3.heap.objs.size) s4) :
    wpAny (model X.prog X.w) X.A (comprehension (.DictComp kx vx (⟨tg, iter, ifs, 0⟩ :: rest) sc pos) sc X.env pos' newDict false (eval iter X.env) use) Qf X.xe s := by
  have hfree : ∀ y ∈ sc.names, y.2 = .free → ∃ c, X.env.cells.lookup y.1 = some c := fun y hy e => (ok.free y hy e).elim (fun k => I.ok.has _ (.inl k)) fun k => I.ok.has _ (.inr k)
  refine wpAny_comprehension_free (use := use) rfl hs (closure_ok hfree) ok.kind (fun y hy e => by rw [ok.uniq y hy, e]) (thn (hi.run pins s σ H _ I h) fun xv s1 hx => thn hx fun itv s2 h2 => ?_)
  obtain ⟨it, fp, tn, J, H2, e, I2, T, st2, f2, q⟩ := h2
  subst e
  refine wpAny_newObj_type (newEnv_comp ?_)
  have hb : (s2.heap.objs.size == sysModules) = false := beq_eq_false_iff_ne.mpr (Nat.ne_of_gt I2.big)
  have bd := q s2.heap.objs.size (I2.hok.fresh (Nat.le_refl _)) hb
  have got : (s2.heap.push { cls := .type "dict", data := .dict #[] }).get? s2.heap.objs.size = some { cls := .type "dict", data := .dict #[] } := Heap.get?_push_size _ rfl
  have I3 : Inv X pins σ (upd H2 s2.heap.objs.size (NdO X.prog X.w s2.heap.objs.size [])) { s2 with heap := s2.heap.push { cls := .type "dict", data := .dict #[] } } :=
    I2.laid (a := s2.heap.objs.size) (t' := s2.toks) (fun _ _ q => Heap.get?_push_of_some _ q) (Nat.le_refl _) (nd_ext got ⟨rfl, rfl, rfl⟩ rfl rfl)
  have f3 : ∀ b ∈ fp, FpOk X pins (upd H2 s2.heap.objs.size (NdO X.prog X.w s2.heap.objs.size [])) b ∧ b < (s2.heap.push { cls := .type "dict", data := .dict #[] }).objs.size := fun b hb => by
    obtain ⟨o, e, _⟩ := T.obj _ _ st2 b hb
    have lt := Heap.lt_size e
    refine ⟨⟨?_, (f2 b hb).2⟩, by rw [Heap.size_push]; exact Nat.lt_succ_of_lt lt⟩
    rw [upd_ne (Nat.ne_of_lt lt)]
    exact (f2 b hb).1
  have st3 : tn 0 (s2.heap.push { cls := .type "dict", data := .dict #[] }) := T.keep _ _ _ st2 fun b _ o e => Heap.get?_push_of_some _ e
  have I4 := block_start I3 ok hN f3
  have st4 : tn 0 (pushCells ((s2.heap.push { cls := .type "dict", data := .dict #[] }).push { cls := .type "dict", data := .dict #[] }) sc.names) := T.keep _ _ _ st3 fun b _ o e => pushCells_keeps _ _ _ _ (Heap.get?_push_of_some _ e)
  have lp := loop (J := J) (tn := tn) (it := it) (D := s2.heap.objs.size) ⟨I3, T, st4, f3, I4, rfl⟩ bd
  exact codeAny_compStart_dict lp (T.self X.A 0 _ _ _ st4 lp)
end
end ND

end
section
set_option Elab.async false
set_option linter.all false
set_option maxRecDepth 100000
set_option maxHeartbeats 4000000
set_option pp.maxSteps 200
/-! dict comprehensions whose keys are nested tuples: the readings -/
namespace ND
open PySem PySem.Spec PySem.SeqAt PyProof.Rows L2
/-- a loop: turn by turn, a number falls -/
def Lp (J : It) (H0 : Hp) (stop : Hp → Prop) (item : (Hp → Prop) → V → Hp → Prop) : Prop :=
  ∃ W : Nat → Nat → Hp → Prop, (∃ m, W 0 m H0) ∧ ∀ i m H, W i m H → (J.stop i H ∧ stop H) ∨ (J.go i H ∧ ∃ Nx : Hp → Prop, (∀ H', Nx H' → ∃ m', m' < m ∧ W (i + 1) m' H') ∧ ∀ x H', J.yld i H x H' → item Nx x H')
/-- a clause: its target and tests, then F -/
def cl1 (g : TG) (tt : TT) (vs : List Nat) (σ : L2.St) (F : (Hp → Prop) → L2.St → Hp → Prop) : (Hp → Prop) → V → Hp → Prop :=
  fun Nx x H => g x (wipe σ vs) H fun σ2 H2 => wipe σ2 vs = wipe σ vs ∧ tt σ2 H2 fun b H3 => if b = true then F Nx σ2 H3 else Nx H3
def ndF (P : Program) (w : World) (K : PySem.W.Frag) (tk tv : TE) (D : Addr) : (Hp → Prop) → L2.St → Hp → Prop := fun Nx σ H => tk σ H fun y H4 => tv σ H4 fun z H5 => NdPut P w K H5 (.ref D) y z Nx
/-- {k: v for .. in .. if ..} -/
def tNc (P : Program) (w : World) (K : PySem.W.Frag) (wi : TI) (g : TG) (tt : TT) (tk tv : TE) (vs : List Nat) : TE := fun σ H Q => wi σ H fun J H1 => ∀ D, H1 D = none → (D == sysModules) = false →
  Lp J (upd H1 D (NdO P w D [])) (Q (.ref D)) (cl1 g tt vs σ (ndF P w K tk tv D))
/-- {k: v for .. in .. if .. for .. in .. if ..}; vs: the block's names, vs1: those of the second clause's target -/
def tNc2 (P : Program) (w : World) (K : PySem.W.Frag) (wi : TI) (g : TG) (tt : TT) (wi1 : TI) (g1 : TG) (tt1 : TT) (tk tv : TE) (vs vs1 : List Nat) : TE := fun σ H Q => wi σ H fun J H1 => ∀ D, H1 D = none → (D == sysModules) = false →
  Lp J (upd H1 D (NdO P w D [])) (Q (.ref D)) (cl1 g tt vs σ fun Nx σ2 H3 => wi1 σ2 H3 fun J1 H4 => Lp J1 H4 Nx (cl1 g1 tt1 vs1 σ2 (ndF P w K tk tv D)))
abbrev ForB (X : Cx) (sc : Scope) (F : Cx → Prop) : Prop := ∀ (s : Shared) (H : Hp) (C : Addr) (cl : List (Str × Addr)) (fp : List Addr), F (X.blk s H sc (compEnvC sc cl C X.env) fp)
section
variable {X : Cx}
theorem pe_nc {kx vx tg iter : Expr} {ifs : List Expr} {sc : Scope} {own : List (Str × Nat)} {pos : Pos} {wi : TI} {g : TG} {tt : TT} {tk tv : TE} (hc : X.calm = true) (hu : X.A.units + 16 < cLine) (hN : X.N.Nodup) (hi : PI X tg iter wi) (ok : BlkOk X.N X.env.scope sc own)
    (hg : ForB X sc fun Y => PG Y tg g) (ht : ForB X sc fun Y => PTs Y ifs tt) (hk : ForB X sc fun Y => PE Y kx tk) (hv : ForB X sc fun Y => PE Y vx tv) (hs : ∀ x, foldedSetIterable iter X.env x = pure x := by intro _; rfl) :
    PE X (.DictComp kx vx [⟨tg, iter, ifs, 0⟩] sc pos) (tNc X.prog X.w X.K wi g tt tk tv (own.map (·.2))) := by
  refine ⟨fun pins s σ H Q I h => ?_⟩
  rw [arm_eval_DictComp]
  refine nc_open (Body := fun J D H0 => Lp J H0 (Q (.ref D)) (cl1 g tt (List.map (fun x : Str × Nat => x.2) own) σ (ndF X.prog X.w X.K tk tv D))) hN I hi ok hs h fun {J tn it s3 s4 H3 C cl fp D} O ⟨W, ⟨m0, w0⟩, turn⟩ => ?_
  refine compLoop_anyD (fun n s' => ∃ i H', Inv (X.blk s3 H3 sc (compEnvC sc cl C X.env) fp) [] (wipe σ (own.map (·.2))) H' s' ∧ tn i s'.heap ∧ (∀ b ∈ fp, H' b = none) ∧ W i n H') ?_ m0 ⟨0, H3, O.inv, O.at0, O.none_of, w0⟩
  rintro n s5 ⟨i, H5, I5, st5, n5, w5⟩
  have T := O.turn
  rcases turn i n H5 w5 with ⟨stop, qq⟩ | ⟨go, Nx, hNx, step⟩
  · refine thnF (T.done (X.blk s3 H3 sc (compEnvC sc cl C X.env) fp) rfl rfl rfl hc i [] s5 _ H5 (fun _ _ => False) I5 (O.stat I5 n5) st5 stop) fun r s6 ⟨hr, I6⟩ => ?_
    subst hr
    obtain ⟨I7, ⟨f0, f1, f2, f3, f4, f5⟩, m, hn⟩ := O.leave I6
    exact ⟨m, hn, fun h'' sb => ⟨.ref D, H5, I7.turned (t' := s6.toks) (fun b o hb e => (sb.2 b hb).trans e) f0 f1 f3 f4 f5, rfl, qq⟩⟩
  · refine thnF (T.item (X.blk s3 H3 sc (compEnvC sc cl C X.env) fp) rfl rfl rfl hc i [] s5 _ H5 (fun _ _ => False) I5 (O.stat I5 n5) st5 go) fun r s6 ⟨u, hr, h6⟩ => ?_
    subst hr
    refine thnF h6 fun _ s7 ⟨x, H7, I7, r7, y7, st7, n7⟩ => ?_
    refine thnF ((hg s3 H3 C cl fp).run _ s7 _ H7 x u _ (I7.pinned (O.stat I7 n7) (T.obj _ _ st7)) r7 (step x H7 y7)) fun _ s8 ⟨σ8, H8, I8, hw8, q8⟩ => ?_
    refine thnF ((ht s3 H3 C cl fp).run _ s8 σ8 H8 _ I8 q8) fun b s9 ⟨H9, I9, q9⟩ => ?_
    have fin : ∀ {s' : Shared} {H' : Hp}, Inv (X.blk s3 H3 sc (compEnvC sc cl C X.env) fp) ([] ++ pinsAt fp s7.heap) σ8 H' s' → Nx H' → ∃ m, m < n ∧ ∃ i H', Inv (X.blk s3 H3 sc (compEnvC sc cl C X.env) fp) [] (wipe σ (own.map (·.2))) H' s' ∧ tn i s'.heap ∧ (∀ b ∈ fp, H' b = none) ∧ W i m H' := fun {s' H'} I' nx => by
      obtain ⟨m', hm, w'⟩ := hNx H' nx
      have pin' : ∀ b ∈ fp, ∀ o, s7.heap.get? b = some o → s'.heap.get? b = some o ∧ H' b = none := fun b hb o e =>
        let z := I'.pin (b, o) (List.mem_append_right _ (List.mem_append_right _ (mem_pinsAt hb e)))
        ⟨z.1, z.2.1⟩
      refine ⟨m', hm, i + 1, H', (I'.unpinned (pins := [])).weak (by rw [← hw8, wipe_length]) (fun j v e => by rw [← hw8] at e; exact (wipe_some e).1), T.keep _ _ _ st7 fun b hb o e => (pin' b hb o e).1, fun b hb => ?_, w'⟩
      obtain ⟨o, e, _⟩ := T.obj _ _ st7 b hb
      exact (pin' b hb o e).2
    cases b with
    | false =>
      simp only [Bool.false_eq_true, if_false] at q9 ⊢
      exact fin I9 q9
    | true =>
      simp only [if_true] at q9 ⊢
      refine thnF ((hk s3 H3 C cl fp).run _ s9 σ8 H9 _ I9 q9) fun z s10 ⟨yk, H10, I10, r10, q10⟩ => ?_
      refine thnF ((hv s3 H3 C cl fp).run _ s10 σ8 H10 _ I10 q10) fun z2 s11 ⟨yv, H11, I11, r11, g11⟩ => ?_
      exact nd_dset (X := X.blk s3 H3 sc (compEnvC sc cl C X.env) fp) hu I11 r10 r11 g11 fun s12 H12 I12 nx => fin I12 nx
theorem pe_nc2 {kx vx tg iter tg1 iter1 : Expr} {ifs ifs1 : List Expr} {sc : Scope} {own : List (Str × Nat)} {vs1 : List Nat} {pos : Pos} {wi wi1 : TI} {g g1 : TG} {tt tt1 : TT} {tk tv : TE} (hc : X.calm = true) (hu : X.A.units + 16 < cLine) (hN : X.N.Nodup) (hi : PI X tg iter wi) (ok : BlkOk X.N X.env.scope sc own)
    (hsub : ∀ i ∈ vs1, i ∈ own.map (·.2)) (hg : ForB X sc fun Y => PG Y tg g) (ht : ForB X sc fun Y => PTs Y ifs tt) (hi1 : ForB X sc fun Y => PI Y tg1 iter1 wi1) (hg1 : ForB X sc fun Y => PG Y tg1 g1) (ht1 : ForB X sc fun Y => PTs Y ifs1 tt1)
    (hk : ForB X sc fun Y => PE Y kx tk) (hv : ForB X sc fun Y => PE Y vx tv) (hs : ∀ x, foldedSetIterable iter X.env x = pure x := by intro _; rfl) (hs1 : ∀ env x, foldedSetIterable iter1 env x = pure x := by intro _ _; rfl) :
    PE X (.DictComp kx vx [⟨tg, iter, ifs, 0⟩, ⟨tg1, iter1, ifs1, 0⟩] sc pos) (tNc2 X.prog X.w X.K wi g tt wi1 g1 tt1 tk tv (own.map (·.2)) vs1) := by
  refine ⟨fun pins s σ H Q I h => ?_⟩
  rw [arm_eval_DictComp]
  refine nc_open (Body := fun J D H0 => Lp J H0 (Q (.ref D)) (cl1 g tt (List.map (fun x : Str × Nat => x.2) own) σ fun Nx σ2 H3 => wi1 σ2 H3 fun J1 H4 => Lp J1 H4 Nx (cl1 g1 tt1 vs1 σ2 (ndF X.prog X.w X.K tk tv D)))) hN I hi ok hs h fun {J tn it s3 s4 H3 C cl fp D} O ⟨W, ⟨m0, w0⟩, turn⟩ => ?_
  refine loop_outer (hs1 _) (fun n s' => ∃ i H', Inv (X.blk s3 H3 sc (compEnvC sc cl C X.env) fp) [] (wipe σ (own.map (·.2))) H' s' ∧ tn i s'.heap ∧ (∀ b ∈ fp, H' b = none) ∧ W i n H') ?_ m0 ⟨0, H3, O.inv, O.at0, O.none_of, w0⟩
  rintro n s5 ⟨i, H5, I5, st5, n5, w5⟩
  have T := O.turn
  rcases turn i n H5 w5 with ⟨stop, qq⟩ | ⟨go, Nx, hNx, step⟩
  · refine thnF (T.done (X.blk s3 H3 sc (compEnvC sc cl C X.env) fp) rfl rfl rfl hc i [] s5 _ H5 (fun _ _ => False) I5 (O.stat I5 n5) st5 stop) fun r s6 ⟨hr, I6⟩ => ?_
    subst hr
    obtain ⟨I7, ⟨f0, f1, f2, f3, f4, f5⟩, m, hn⟩ := O.leave I6
    exact ⟨m, hn, fun h'' sb => ⟨.ref D, H5, I7.turned (t' := s6.toks) (fun b o hb e => (sb.2 b hb).trans e) f0 f1 f3 f4 f5, rfl, qq⟩⟩
  refine thnF (T.item (X.blk s3 H3 sc (compEnvC sc cl C X.env) fp) rfl rfl rfl hc i [] s5 _ H5 (fun _ _ => False) I5 (O.stat I5 n5) st5 go) fun r s6 ⟨u, hr, h6⟩ => ?_
  subst hr
  refine thnF h6 fun _ s7 ⟨x, H7, I7, r7, y7, st7, n7⟩ => ?_
  refine thnF ((hg s3 H3 C cl fp).run _ s7 _ H7 x u _ (I7.pinned (O.stat I7 n7) (T.obj _ _ st7)) r7 (step x H7 y7)) fun _ s8 ⟨σ8, H8, I8, hw8, q8⟩ => ?_
  refine thnF ((ht s3 H3 C cl fp).run _ s8 σ8 H8 _ I8 q8) fun b s9 ⟨H9, I9, q9⟩ => ?_
  -- a turn ends, at any slots that know what the block knew
  have fin : ∀ {σ9 : L2.St} {s' : Shared} {H' : Hp}, Inv (X.blk s3 H3 sc (compEnvC sc cl C X.env) fp) ([] ++ pinsAt fp s7.heap) σ9 H' s' → (wipe σ (own.map (·.2))).length = σ9.length ∧ (∀ (j : Nat) v, (wipe σ (own.map (·.2)))[j]? = some (some v) → σ9[j]? = some (some v)) → Nx H' →
      ∃ m, m < n ∧ ∃ i H', Inv (X.blk s3 H3 sc (compEnvC sc cl C X.env) fp) [] (wipe σ (own.map (·.2))) H' s' ∧ tn i s'.heap ∧ (∀ b ∈ fp, H' b = none) ∧ W i m H' := fun {σ9 s' H'} I' ⟨hl, hk⟩ nx => by
    obtain ⟨m', hm, w'⟩ := hNx H' nx
    have pin' : ∀ b ∈ fp, ∀ o, s7.heap.get? b = some o → s'.heap.get? b = some o ∧ H' b = none := fun b hb o e =>
      let z := I'.pin (b, o) (List.mem_append_right _ (List.mem_append_right _ (mem_pinsAt hb e)))
      ⟨z.1, z.2.1⟩
    refine ⟨m', hm, i + 1, H', (I'.unpinned (pins := [])).weak hl hk, T.keep _ _ _ st7 fun b hb o e => (pin' b hb o e).1, fun b hb => ?_, w'⟩
    obtain ⟨o, e, _⟩ := T.obj _ _ st7 b hb
    exact (pin' b hb o e).2
  have k8 : (wipe σ (own.map (·.2))).length = σ8.length ∧ ∀ (j : Nat) v, (wipe σ (own.map (·.2)))[j]? = some (some v) → σ8[j]? = some (some v) :=
    ⟨by rw [← hw8, wipe_length], fun j v e => by rw [← hw8] at e; exact (wipe_some e).1⟩
  have k9 : (wipe σ (own.map (·.2))).length = (wipe σ8 vs1).length ∧ ∀ (j : Nat) v, (wipe σ (own.map (·.2)))[j]? = some (some v) → (wipe σ8 vs1)[j]? = some (some v) := by
    refine ⟨k8.1.trans (wipe_length σ8 vs1).symm, fun j v e => ?_⟩
    rw [← hw8] at e
    obtain ⟨e1, e2⟩ := wipe_some e
    rw [wipe_out fun z => e2 (hsub j z)]
    exact e1
  cases b with
  | false =>
    simp only [Bool.false_eq_true, if_false] at q9 ⊢
    exact fin I9 k8 q9
  | true =>
    simp only [if_true] at q9 ⊢
    refine thnF ((hi1 s3 H3 C cl fp).run _ s9 σ8 H9 _ I9 q9) fun xv s10 hx => thnF hx fun itv s11 h11 => ?_
    obtain ⟨it1, fp1, tn1, J1, H11, e1, I11, T1, st11, f11, W1, ⟨m1, w1⟩, turn1⟩ := h11
    subst e1
    have stat1 : ∀ {H' : Hp}, (∀ b ∈ fp1, H' b = none) → ∀ b ∈ fp1, FpOk (X.blk s3 H3 sc (compEnvC sc cl C X.env) fp) ([] ++ pinsAt fp s7.heap) H' b := fun hn b hb => ⟨hn b hb, (f11 b hb).2⟩
    have loop1 : codeAny (model X.prog X.w) X.A (.compLoop (dcE kx vx tg iter ifs tg1 iter1 ifs1 sc pos) 1 (.ref it1) (.ref D) (compEnvC sc cl C X.env))
        (fun r s' => match r with
          | .ok _ => ∃ m, m < n ∧ ∃ i H', Inv (X.blk s3 H3 sc (compEnvC sc cl C X.env) fp) [] (wipe σ (own.map (·.2))) H' s' ∧ tn i s'.heap ∧ (∀ b ∈ fp, H' b = none) ∧ W i m H'
          | .error _ => False) s11 := by
      refine loop_inner (fun k s' => ∃ j H', Inv (X.blk s3 H3 sc (compEnvC sc cl C X.env) fp) ([] ++ pinsAt fp s7.heap) (wipe σ8 vs1) H' s' ∧ tn1 j s'.heap ∧ (∀ b ∈ fp1, H' b = none) ∧ W1 j k H') ?_ m1 ⟨0, H11, I11.weak (wipe_length _ _) (fun j v e => (wipe_some e).1), st11, fun b hb => (f11 b hb).1, w1⟩
      rintro k s12 ⟨j, H12, I12, st12, n12, w12⟩
      rcases turn1 j k H12 w12 with ⟨stop1, nx1⟩ | ⟨go1, Nx1, hNx1, step1⟩
      · refine thnF (T1.done (X.blk s3 H3 sc (compEnvC sc cl C X.env) fp) rfl rfl rfl hc j _ s12 (wipe σ8 vs1) H12 (fun _ _ => False) I12 (stat1 n12) st12 stop1) fun r s13 ⟨hr, I13⟩ => ?_
        subst hr
        exact fin I13 k9 nx1
      · refine thnF (T1.item (X.blk s3 H3 sc (compEnvC sc cl C X.env) fp) rfl rfl rfl hc j _ s12 (wipe σ8 vs1) H12 (fun _ _ => False) I12 (stat1 n12) st12 go1) fun r s13 ⟨u1, hr, h13⟩ => ?_
        subst hr
        refine thnF h13 fun _ s14 ⟨x1, H14, I14, r14, y14, st14, n14⟩ => ?_
        refine thnF ((hg1 s3 H3 C cl fp).run _ s14 (wipe σ8 vs1) H14 x1 u1 _ (I14.pinned (stat1 n14) (T1.obj _ _ st14)) r14 (step1 x1 H14 y14)) fun _ s15 ⟨σ15, H15, I15, hw15, q15⟩ => ?_
        refine thnF ((ht1 s3 H3 C cl fp).run _ s15 σ15 H15 _ I15 q15) fun b1 s16 ⟨H16, I16, q16⟩ => ?_
        have fin1 : ∀ {s' : Shared} {H' : Hp}, Inv (X.blk s3 H3 sc (compEnvC sc cl C X.env) fp) (([] ++ pinsAt fp s7.heap) ++ pinsAt fp1 s14.heap) σ15 H' s' → Nx1 H' → ∃ m, m < k ∧ ∃ j H', Inv (X.blk s3 H3 sc (compEnvC sc cl C X.env) fp) ([] ++ pinsAt fp s7.heap) (wipe σ8 vs1) H' s' ∧ tn1 j s'.heap ∧ (∀ b ∈ fp1, H' b = none) ∧ W1 j m H' := fun {s' H'} I' nx => by
          obtain ⟨m', hm, w'⟩ := hNx1 H' nx
          have pin' : ∀ b ∈ fp1, ∀ o, s14.heap.get? b = some o → s'.heap.get? b = some o ∧ H' b = none := fun b hb o e =>
            let z := I'.pin (b, o) (List.mem_append_right _ (List.mem_append_right _ (mem_pinsAt hb e)))
            ⟨z.1, z.2.1⟩
          refine ⟨m', hm, j + 1, H', I'.unpinned.weak (by rw [← hw15, wipe_length]) (fun j v e => by rw [← hw15] at e; exact (wipe_some e).1), T1.keep _ _ _ st14 fun b hb o e => (pin' b hb o e).1, fun b hb => ?_, w'⟩
          obtain ⟨o, e, _⟩ := T1.obj _ _ st14 b hb
          exact (pin' b hb o e).2
        cases b1 with
        | false =>
          simp only [Bool.false_eq_true, if_false] at q16 ⊢
          exact fin1 I16 q16
        | true =>
          simp only [if_true] at q16 ⊢
          refine thnF ((hk s3 H3 C cl fp).run _ s16 σ15 H16 _ I16 q16) fun z s17 ⟨yk, H17, I17, r17, q17⟩ => ?_
          refine thnF ((hv s3 H3 C cl fp).run _ s17 σ15 H17 _ I17 q17) fun z2 s18 ⟨yv, H18, I18, r18, g18⟩ => ?_
          exact nd_dset (X := X.blk s3 H3 sc (compEnvC sc cl C X.env) fp) hu I18 r17 r18 g18 fun s19 H19 I19 nx => fin1 I19 nx
    exact start_inner loop1 (T1.self X.A 0 _ _ _ st11 loop1)
end
end ND

end
section
set_option Elab.async false
set_option linter.all false
set_option maxRecDepth 100000
set_option maxHeartbeats 4000000
set_option pp.maxSteps 200
/-! dicts whose keys are nested tuples: their keys one by one, list(d) -/
namespace ND
open PySem PySem.Spec PySem.SeqAt PyProof.Rows L2
/-- a comprehension's loop over a walk: Pv by the turn and the heap -/
theorem lp_it {J : It} {n : Nat} {G : Hp → Prop} {Y : Nat → Hp → V → Hp → Prop} (w : Walk J n G Y) {H0 : Hp} {stop : Hp → Prop} {item : (Hp → Prop) → V → Hp → Prop} (Pv : Nat → Hp → Prop) (h0 : Pv 0 H0) (hG : ∀ i H, i ≤ n → Pv i H → G H)
    (hs : ∀ i x H H', i < n → Pv i H → Y i H x H' → item (Pv (i + 1)) x H') (hd : ∀ H, Pv n H → stop H) : Lp J H0 stop item := by
  refine ⟨fun i m H => m = n - i ∧ i ≤ n ∧ Pv i H, ⟨n, by simp, Nat.zero_le _, h0⟩, ?_⟩
  rintro i m H ⟨rfl, hi, p⟩
  have q := hG i H hi p
  by_cases hlt : i < n
  · exact .inr ⟨w.goes i H hlt q, Pv (i + 1), fun H' p' => ⟨n - (i + 1), by omega, rfl, hlt, p'⟩, fun x H' y => hs i x H H' hlt p (w.yields i H x H' hlt q y)⟩
  · have e : i = n := by omega
    subst e
    exact .inl ⟨w.stops H q, hd H p⟩
/-- the dict stands locked -/
def NdF (P : Program) (w : World) (K : PySem.W.Frag) (H : Hp) (d : Addr) (o : Obj) (kvs : List (NK × V)) : Prop :=
  ∃ xs, H d = some (.frz o (NdO P w d xs)) ∧ NdR K H kvs xs ∧ (kvs.map (·.1)).Nodup ∧ (d == sysModules) = false ∧ kvs.length ≤ sizeLine
theorem NdF.rd {P : Program} {w : World} {K : PySem.W.Frag} {H : Hp} {d : Addr} {o : Obj} {kvs : List (NK × V)} (h : NdF P w K H d o kvs) : NdH P w K H d kvs := let ⟨xs, h1, h2⟩ := h; ⟨xs, .inr ⟨o, h1⟩, h2⟩
theorem NdF.imp {P : Program} {w : World} {K : PySem.W.Frag} {H H' : Hp} {d : Addr} {o : Obj} {kvs : List (NK × V)} (h : NdF P w K H d o kvs) (f1 : H' d = H d) (f2 : ∀ b ys, SqT K H b ys → SqT K H' b ys) : NdF P w K H' d o kvs := by
  obtain ⟨xs, h1, h2, h3⟩ := h
  exact ⟨xs, f1.trans h1, h2.imp f2, h3⟩
theorem pairedGet {α β : Type} {R : α → β → Prop} : ∀ {xs : List α} {ys : List β} {i : Nat} {x : α}, Paired R xs ys → xs[i]? = some x → ∃ y, ys[i]? = some y ∧ R x y
  | _, _, i, x, .nil, e => by simp at e
  | _, _, 0, x, .cons h t, e => by
    cases e
    exact ⟨_, rfl, h⟩
  | _, _, i + 1, x, .cons h t, e => by
    obtain ⟨y, h1, h2⟩ := pairedGet (i := i) t (by simpa using e)
    exact ⟨y, by simpa using h1, h2⟩
section
variable {X : Cx} {pins : List (Addr × Obj)} {σ : L2.St} {H : Hp} {s : Shared} {d : Addr} {o : Obj} {kvs : List (NK × V)}
/-- what stands there, raw -/
theorem nd_objs (I : Inv X pins σ H s) (h : NdH X.prog X.w X.K H d kvs) : ∃ (o : Obj) (es : Array DictEntry) (ep : Nat), s.heap.get? d = some o ∧ o.ExactDict ∧ o.data = .dict es ep ∧ es.size = kvs.length ∧
    ∀ (i : Nat) (k : NK) (v : V), kvs[i]? = some (k, v) → ∃ (en : DictEntry) (q : Addr), es[i]? = some en ∧ en.key = .ref q ∧ KeyV X.K H (.ref q) k ∧ k.depth ≤ 8 := by
  obtain ⟨xs, rel, ⟨o, es, ep, e1, e2, e3, e4, _⟩, _⟩ := nd_raw I h
  have l1 : es.size = xs.length := size_of_entries e4
  have l2 : kvs.length = xs.length := Paired.length rel
  refine ⟨o, es, ep, e1, e2, e3, by omega, fun i k v e => ?_⟩
  obtain ⟨b, hb, r1, r2, r3⟩ := pairedGet rel e
  have q := entry_at e4 i
  rw [hb] at q
  exact ⟨_, b.2.1, q, rfl, r2.1, r2.2⟩
theorem nd_frz (I : Inv X pins σ H s) (h : NdF X.prog X.w X.K H d o kvs) : (d == sysModules) = false ∧ s.heap.get? d = some o ∧ o.ExactDict ∧ ∃ (es : Array DictEntry) (ep : Nat), o.data = .dict es ep ∧ es.size = kvs.length ∧
    ∀ (i : Nat) (k : NK) (v : V), kvs[i]? = some (k, v) → ∃ (en : DictEntry) (q : Addr), es[i]? = some en ∧ en.key = .ref q ∧ KeyV X.K H (.ref q) k ∧ k.depth ≤ 8 := by
  obtain ⟨o', es, ep, e1, e2, e3, e4, e5⟩ := nd_objs I h.rd
  obtain ⟨xs, h1, _, _, h4, _⟩ := h
  obtain ⟨e0, _⟩ := I.hok d _ h1
  rw [e0] at e1
  cases e1
  exact ⟨h4, e0, e2, es, ep, e3, e4, e5⟩
/-- for k in d, the dict locked -/
def Itn (P : Program) (w : World) (K : PySem.W.Frag) (d : Addr) (o : Obj) (kvs : List (NK × V)) : It :=
  ⟨fun i H => NdF P w K H d o kvs ∧ i < kvs.length, fun i H x H' => H' = H ∧ ∃ (k : NK) (v : V) (q : Addr), kvs[i]? = some (k, v) ∧ x = .ref q ∧ KeyV K H (.ref q) k ∧ k.depth ≤ 8, fun i H => NdF P w K H d o kvs ∧ kvs.length ≤ i⟩
theorem walk_nd {P : Program} {w : World} {K : PySem.W.Frag} : Walk (Itn P w K d o kvs) kvs.length (fun H => NdF P w K H d o kvs) (fun i H x H' => H' = H ∧ ∃ (k : NK) (v : V) (q : Addr), kvs[i]? = some (k, v) ∧ x = .ref q ∧ KeyV K H (.ref q) k ∧ k.depth ≤ 8) :=
  ⟨fun _ _ hi q => ⟨q, hi⟩, fun _ q => ⟨q, Nat.le_refl _⟩, fun _ _ _ _ _ _ y => y⟩
theorem turn_nd {P : Program} {w : World} {K : PySem.W.Frag} {tg : Expr} {es : Array DictEntry} {ep : Nat} (it : Addr) (hod : o.data = .dict es ep) : Turn P w K tg (Itn P w K d o kvs) [it] it (fun i h => h.IsKeyIter it d i kvs.length ep) where
  mem := by simp
  obj := fun i h st b hb => by
    obtain rfl : b = it := by simpa using hb
    obtain ⟨oi, e, c, dd⟩ := st
    exact ⟨oi, e, fun v z => by rw [dd] at z; cases z⟩
  keep := fun i h h' st k => st.at fun oi e => k it (by simp) oi e
  item := by
    intro X hP hw hK hc i pins s σ H E I hf st ⟨hd, hi⟩
    subst hP hw hK
    obtain ⟨f0, f1, f2, f3, f4, f5⟩ := hf it (by simp)
    obtain ⟨hs, hgd, hx, es', ep', hdt, hsz, ent⟩ := nd_frz I hd
    obtain ⟨rfl, rfl⟩ := dict_ep hod hdt
    obtain ⟨⟨k, v⟩, hkv⟩ : ∃ p, kvs[i]? = some p := ⟨kvs[i], List.getElem?_eq_getElem hi⟩
    obtain ⟨en, q, hen, hkey, hq⟩ := ent i k v hkv
    refine next_key_item st hgd hdt hsz hen fun h' st' sb => ?_
    obtain ⟨oi, e, c, dd⟩ := id st'
    exact ⟨en.key, rfl, go_of (s := { s with heap := h' }) e c dd (by decide) ⟨.ref q, H, I.turned (t' := s.toks) (fun b ob hb e => (sb.2 b hb).trans e) f0 f1 f3 f4 f5, hkey, ⟨rfl, k, v, q, hkv, rfl, hq⟩, st', fun b hb => (hf b hb).1⟩⟩
  done := by
    intro X hP hw hK hc i pins s σ H E I hf st ⟨hd, hi⟩
    subst hP hw hK
    obtain ⟨f0, f1, f2, f3, f4, f5⟩ := hf it (by simp)
    obtain ⟨hs, hgd, hx, es', ep', hdt, hsz, ent⟩ := nd_frz I hd
    obtain ⟨rfl, rfl⟩ := dict_ep hod hdt
    exact next_key_end (I.ok.hd hc) st hgd hdt hsz hi fun h' eb => ⟨rfl, I.turned (t' := s.toks) (fun b ob hb e => eb b ob hb e) f0 f1 f3 f4 f5⟩
  self := fun A i s Q E st h => wpAny_pyIter_keyiter st h
/-- the dict is locked (pe_lock) -/
def iNd (P : Program) (w : World) (K : PySem.W.Frag) (td : TE) : TI := fun σ H R => td σ H fun x H1 => ∃ d o kvs, x = .ref d ∧ NdF P w K H1 d o kvs ∧ R (Itn P w K d o kvs) H1
theorem pi_nd {tg e : Expr} {td : TE} (he : PE X e td) : PI X tg e (iNd X.prog X.w X.K td) := by
  refine ⟨fun pins s σ H R I h => ?_⟩
  refine thn (he.run pins s σ H _ I h) fun u s1 ⟨x, H1, I1, rx, d, o, kvs, ex, hd, q⟩ => ?_
  subst ex
  cases rx
  obtain ⟨hs, hgd, hx, es, ep, hdt, hsz, ent⟩ := nd_frz I1 hd
  refine iter_keys hs hgd hx hdt (pi_one (tk := s1.toks) I1 _ (turn_nd _ hdt) ⟨_, Heap.get?_push_size _ rfl, rfl, ?_⟩ q)
  rw [hsz] <;> rfl
/-- the keys' own tuples, in order -/
def KeyAds (K : PySem.W.Frag) (H : Hp) (ks : List NK) (bs : List Addr) : Prop := Paired (fun k b => KeyV K H (.ref b) k ∧ k.depth ≤ 8) ks bs
theorem keyAds_of {K : PySem.W.Frag} {H : Hp} {kvs : List (NK × V)} {ys : List (NK × Addr × Value)} (rel : NdR K H kvs ys) : KeyAds K H (kvs.map (·.1)) (ys.map fun x => x.2.1) := by
  unfold KeyAds
  induction rel with
  | nil => exact .nil
  | cons z _ ih => exact .cons z.2.1 ih
theorem call_list_nd (hc : X.calm = true) : CallR X (.type "list") (fun xs H Q => ∃ d kvs, xs = [V.ref d] ∧ NdH X.prog X.w X.K H d kvs ∧ ∀ p bs, H p = none → KeyAds X.K H (kvs.map (·.1)) bs → Q (.ref p) (upd H p (.lst (bs.map V.ref)))) := by
  intro pins s σ H xs us Q I r h
  obtain ⟨d, kvs, rfl, hd, q⟩ := h
  obtain ⟨u, rfl, rx⟩ := r.one
  cases rx
  obtain ⟨ys, rel, ⟨o, es, ep, ho, hx, hdt, he, _⟩, _⟩ := nd_raw I hd
  obtain ⟨_, _, _, _, hs, hz⟩ := hd
  have l1 : es.size = ys.length := size_of_entries he
  have l2 : kvs.length = ys.length := Paired.length rel
  refine PySem.W.kdl_call (kdl_raw hs hx hdt) (I.ok.hd hc) ho (by omega) fun h' tk acc' c' kp e it => ?_
  have eb : acc'.toList = (ys.map fun x => x.2.1).map Value.ref := by
    apply List.ext_getElem?
    intro j
    rw [List.getElem?_map, List.getElem?_map]
    by_cases hj : j < acc'.toList.length
    · obtain ⟨v, hv⟩ : ∃ v, acc'.toList[j]? = some v := ⟨_, List.getElem?_eq_getElem hj⟩
      obtain ⟨en, hen, ev⟩ := it.2 j v (by rw [← Array.getElem?_toList]; exact hv)
      have z := entry_at he j
      rw [hen] at z
      cases hb : ys[j]? with
      | none => rw [hb] at z; cases z
      | some b =>
        rw [hb] at z
        cases z
        rw [hv, ev]
        all_goals rfl
    · have e1 : acc'.toList.length = ys.length := by rw [Array.length_toList, it.1]; exact l1
      rw [List.getElem?_eq_none (by omega), List.getElem?_eq_none (by omega)]
      all_goals rfl
  have rv : Vals ((ys.map fun x => x.2.1).map V.ref) acc'.toList := by rw [eb]; exact vals_refs _
  have ha := keyAds_of rel
  refine ⟨.ref s.heap.objs.size, _, I.laid (t' := tk) (o := .lst ((ys.map fun x => x.2.1).map V.ref)) kp (Nat.le_refl _) ?_, rfl, q _ _ (I.hok.fresh (Nat.le_refl _)) ha⟩
  exact ⟨by rw [List.length_map, List.length_map]; omega, acc'.toList, c', rv, by rw [Array.toArray_toList]; exact e⟩
end
end ND

end
section
set_option Elab.async false
set_option linter.all false
set_option maxRecDepth 100000
set_option maxHeartbeats 4000000
set_option pp.maxSteps 200
/-! two dicts whose keys are nested tuples, with the same pairs: == and != -/
namespace ND
open PySem PySem.Spec PySem.SeqAt PyProof.Rows L2
section
variable {prog : Program} {w : World} {A : Around} {E : Value → Shared → Prop} {s : Shared} {K : Type} [DecidableEq K] {knd : HeapKind prog w K}
theorem same_pairs {nm : String} {a b : Addr} {xa xb : List (K × Addr × Value)} {Q : Bool → Shared → Prop} (ha : (a == sysModules) = false) (hb : (b == sysModules) = false) (da : s.heap.DictOfH knd a xa) (db : s.heap.DictOfH knd b xb)
    (hu : knd.room A) (hl : xa.length = xb.length) (hits : ∀ x ∈ xa, ∃ y, atKey xb x.1 = some y ∧ EqAt A s x.2.2 y.2 true) (h : Q true s) : wpAny (model prog w) A (Builtin.Dict.samePairs nm a b) Q E s := by
  obtain ⟨oa, es, ep, hoa, _, hda, hea, hia, hna⟩ := da
  obtain ⟨ob, es', ep', hob, _, hdb, heb, hib, hnb⟩ := db
  have hla := size_of_entries hea
  have hlb := size_of_entries heb
  have hsz : es.size = es'.size := by omega
  unfold Builtin.Dict.samePairs Builtin.Dict.showsAll
  rw [if_neg (show ¬ (a == sysModules) = true by rw [ha]; exact Bool.false_ne_true), if_neg (show ¬ (b == sysModules) = true by rw [hb]; exact Bool.false_ne_true)]
  refine wpAny_bind (wpAny_pure (wpAny_bind (wpAny_pure ?_)))
  refine wpAny_bind (wpAny_dictEntries hoa hda ?_)
  dsimp only
  refine wpAny_bind (wpAny_dictEntries hob hdb ?_)
  rw [if_neg (by rw [hsz]; simp)]
  refine wpAny_bind (wpAny_dictEpoch hoa hda ?_)
  refine wpAny_bind ?_
  rw [Std.Legacy.Range.forIn_eq_forIn_range']
  simp only [Std.Legacy.Range.size, Nat.sub_zero, Nat.add_sub_cancel, Nat.div_one]
  refine wpAny_forIn_list _ (fun rest q s' => s' = s ∧ q = (none, ()) ∧ ∃ i, rest = List.range' i (es.size - i) ∧ i ≤ es.size) _ ?_ ?_ _ _ ⟨rfl, rfl, 0, by simp, Nat.zero_le _⟩
  · rintro x rest q s' ⟨rfl, rfl, i, hr, hi⟩
    have hlt : i < es.size := by
      by_cases z : i < es.size
      · exact z
      · rw [Nat.sub_eq_zero_of_le (by omega)] at hr
        cases hr
    obtain ⟨rfl, hrest⟩ : x = i ∧ rest = List.range' (i + 1) (es.size - (i + 1)) := by
      rw [show es.size - i = (es.size - (i + 1)) + 1 by omega, List.range'_succ] at hr
      exact List.cons.inj hr
    refine wpAny_bind (wpAny_dictEntries hoa hda ?_)
    rw [Array.getElem?_eq_getElem hlt]
    have hlt' : x < xa.length := by omega
    obtain ⟨⟨k, c, v⟩, hkv⟩ : ∃ p, xa[x]? = some p := ⟨_, List.getElem?_eq_getElem hlt'⟩
    have hex : es[x] = entryOfKey knd (k, c, v) := by
      have z := entry_at hea x
      rw [hkv, Array.getElem?_eq_getElem hlt] at z
      exact Option.some.inj z
    have hm := List.mem_of_getElem? hkv
    obtain ⟨⟨c2, y⟩, hat, heq⟩ := hits _ hm
    show wpAny _ _ (holding [es[x].key, es[x].val] _ >>= _) _ _ _
    rw [hex]
    refine wpAny_bind (wpAny_holding (wpAny_bind (wpAny_dictFind_heap hu (hia _ hm) hob hdb heb hib hnb (fun hno => ?_) fun j p hj => ?_)))
    · have z := atKey_none_of_get hno
      rw [hat] at z
      cases z
    · have z := atKey_of_get hnb hj
      rw [hat] at z
      cases z
      have hjlt : j < es'.size := by
        have : j < xb.length := (List.getElem?_eq_some_iff.mp hj).1
        omega
      refine wpAny_bind (wpAny_dictEntries hob hdb ?_)
      have hej : es'[j] = entryOfKey knd (k, c2, y) := by
        have z := entry_at heb j
        rw [hj, Array.getElem?_eq_getElem hjlt] at z
        exact Option.some.inj z
      rw [Array.getElem?_eq_getElem hjlt, hej]
      refine wpAny_holding (heq prog w _ _ ?_)
      show wpAny _ _ (if (!true) = true then _ else _) _ _ _
      rw [if_neg (by decide)]
      refine wpAny_bind (wpAny_dictEpoch hoa hda ?_)
      rw [if_neg (by simp)]
      exact wpAny_pure ⟨rfl, rfl, x + 1, hrest, hlt⟩
  · rintro q s' ⟨rfl, rfl, i, hr, hi⟩
    exact wpAny_pure h
theorem eq_same {a b : Addr} {xa xb : List (K × Addr × Value)} {Q : Value → Shared → Prop} (ha : (a == sysModules) = false) (hb : (b == sysModules) = false) (da : s.heap.DictOfH knd a xa) (db : s.heap.DictOfH knd b xb)
    (hu : A.units < cLine) (hr : knd.room A.in1) (hl : xa.length = xb.length) (hits : ∀ x ∈ xa, ∃ y, atKey xb x.1 = some y ∧ EqAt A.in1 s x.2.2 y.2 true) (h : Q (.bool true) s) : wpAny (model prog w) A (compareOp .Eq (.ref a) (.ref b)) Q E s := by
  refine wpAny_richCompare_same_room (op := .Eq) da.typeIs db.typeIs PySem.F.slot_dict_eq (wpAny_call_entry PySem.F.slot_dict_eq da.typeIs PySem.F.entry_dict_eq ?_ (PySem.F.args_dict_eq_2 _ _)) hu
  show wpAny _ _ (Builtin.Dict.dictSlotArgs "__eq__" ⟨[.ref a, .ref b], []⟩ >>= _) _ _ s
  refine wpAny_bind ?_
  unfold Builtin.Dict.dictSlotArgs
  refine wpAny_bind (wpAny_notOrdered_dict da.typeIs (wpAny_pure ?_))
  refine wpAny_bind (wpAny_isInstance (T := "dict") db.typeIs PySem.F.sub_dict_dict ?_)
  simp only [Bool.not_true, Bool.false_eq_true, if_false]
  refine wpAny_bind (wpAny_pure (wpAny_bind (wpAny_pure ?_)))
  exact wpAny_bind (same_pairs ha hb da db hr hl hits (by
    refine wpAny_pure ⟨_, rfl, ?_, ?_⟩
    · exact fun x => nomatch x
    · simpa using h))
end
theorem valN_at : ∀ {kvs : List (NK × V)} {i : Nat} {k : NK} {v : V}, (kvs.map (·.1)).Nodup → kvs[i]? = some (k, v) → valV kvs k = some v
  | [], i, _, _, _, h => by simp at h
  | (k', v') :: kvs, 0, _, _, _, h => by
    cases h
    exact valV_pos rfl
  | (k', v') :: kvs, i + 1, k, v, hn, h => by
    rw [List.map_cons, List.nodup_cons] at hn
    have h : kvs[i]? = some (k, v) := by simpa using h
    rw [valV_neg fun e => hn.1 (by rw [show k' = k from e]; exact List.mem_map.mpr ⟨(k, v), List.mem_of_getElem? h, rfl⟩)]
    exact valN_at hn.2 h
/-- two such dicts of the same whole numbers are equal -/
def rEqN (P : Program) (w : World) (K : PySem.W.Frag) : R2 := fun x y H Q => ∃ (a b : Addr) (ks : List (NK × Int)), x = .ref a ∧ y = .ref b ∧ NdH P w K H a (ks.map fun k => (k.1, V.int k.2)) ∧ NdH P w K H b (ks.map fun k => (k.1, V.int k.2)) ∧ Q (.bl true) H
theorem op_eqN {X : Cx} (hu : X.A.units + 16 < cLine) : OpR X (compareOp .Eq) (rEqN X.prog X.w X.K) := by
  intro pins s σ H x y v u Q I rx ry h
  obtain ⟨a, b, ks, rfl, rfl, ha, hb, q⟩ := h
  cases rx
  cases ry
  obtain ⟨xa, ra, da, _⟩ := nd_raw I ha
  obtain ⟨xb, rb, db, _⟩ := nd_raw I hb
  obtain ⟨_, _, _, hna, sa, _⟩ := ha
  obtain ⟨_, _, _, _, sb, _⟩ := hb
  have la := Paired.length ra
  have lb := Paired.length rb
  refine eq_same sa sb da db (by omega) (by show X.A.in1.units + 8 < cLine; have : X.A.in1.units = X.A.units + 1 := rfl; omega) (by omega) (fun p hp => ?_) ⟨.bl true, H, I, rfl, q⟩
  obtain ⟨i, hi⟩ := List.getElem?_of_mem hp
  have hil : i < (ks.map fun k => (k.1, V.int k.2)).length := by
    have := (List.getElem?_eq_some_iff.mp hi).1
    omega
  obtain ⟨p2, h1, e1, _, e3⟩ := pairedGet ra (List.getElem?_eq_getElem hil)
  rw [hi] at h1
  cases h1
  have hv := rb.val p.1
  rw [← e1] at hv
  have hk : (ks.map fun k => (k.1, V.int k.2))[i]? = some ((ks.map fun k => (k.1, V.int k.2))[i].1, (ks.map fun k => (k.1, V.int k.2))[i].2) := List.getElem?_eq_getElem hil
  have e4 := valN_at hna hk
  rw [e4] at hv
  obtain ⟨w', hw, hrel⟩ := RelO.some_of hv
  obtain ⟨p3, hp3, hp4⟩ := Option.map_eq_some_iff.mp hw
  have hz : ∃ z : Int, (ks.map fun k => (k.1, V.int k.2))[i].2 = V.int z := ⟨ks[i]'(by simpa using hil) |>.2, by rw [List.getElem_map]⟩
  obtain ⟨z, hz⟩ := hz
  rw [hz] at e3 hrel
  obtain ⟨t2, e5⟩ := e3
  obtain ⟨t3, e6⟩ := hrel
  refine ⟨p3, by rw [← e1]; exact hp3, ?_⟩
  rw [e5, hp4, e6]
  exact EqAt.cast (PySem.W.keq_flat (.int z t2) (.int z t3)) (by simp [PyData.eqv])
end ND

end
section
set_option Elab.async false
set_option linter.all false
set_option maxRecDepth 100000
set_option maxHeartbeats 4000000
set_option pp.maxSteps 200
/-! dict(d) of a dict whose keys are nested tuples, no two of which hash alike -/
namespace ND
open PySem PySem.Spec PySem.SeqAt PyProof.Rows L2
section
variable {prog : Program} {w : World} {K : Type} [DecidableEq K] {knd : HeapKind prog w K} {A : Around} {E : Value → Shared → Prop} {s : Shared}
theorem call_dictH {o : Addr} {more : List (K × Addr × Value)} {Q : Value → Shared → Prop} (hu : knd.room A.in1.in1) (hoS : (o == sysModules) = false) (ho : s.heap.DictOfH knd o more)
    (hty : ∀ x ∈ more, s.TypeIs (.ref x.2.1) "tuple") (hap : (more.map fun x => knd.hash x.1).Nodup) (hpush : ∀ x ∈ more, knd.is (s.heap.push { cls := .type "dict", data := .dict #[] }) x.1 x.2.1) (hsz : more.length ≤ sizeLine)
    (h : ∀ h', h'.DictOfH knd s.heap.objs.size more → Heap.SameBut s.heap.objs.size (s.heap.push { cls := .type "dict", data := .dict #[] }) h' → Q (.ref s.heap.objs.size) { s with heap := h' }) :
    wpAny (model prog w) A (call (.type "dict") [.ref o]) Q E s := by
  refine callType_codes (Q₁ := fun obj s₁ => obj = .ref s.heap.objs.size ∧ s₁ = { s with heap := s.heap.push { cls := .type "dict", data := .dict #[] } }) F.kt_called_dict (F.kt_typeCall_dict_1 _) F.entry_dict_init (kt_code_dict_new _ ⟨rfl, rfl⟩) ?_
  rintro obj s₁ ⟨rfl, rfl⟩
  have hnew : (s.heap.push { cls := .type "dict", data := .dict #[] }).DictOfH knd s.heap.objs.size [] := Heap.DictOfH.new s.heap
  obtain ⟨oo, es, ep, hg, hc, hd, he, his, hn⟩ := ho
  have ho' : (s.heap.push { cls := .type "dict", data := .dict #[] }).DictOfH knd o more := ⟨oo, es, ep, Heap.get?_push_of_some _ hg, hc, hd, he, hpush, hn⟩
  have hdo : s.heap.objs.size ≠ o := fun e => absurd (Heap.lt_size hg) (by rw [e]; exact Nat.lt_irrefl _)
  refine ⟨hnew.typeIs (s := { s with heap := s.heap.push { cls := .type "dict", data := .dict #[] } }), F.args_dict_init_2 _ _, ?_⟩
  unfold Builtin.«dict.__init__»
  refine wpAny_bind ?_
  unfold Builtin.Dict.selfAndRest
  refine wpAny_bind (wpAny_notOrdered_dict (hnew.typeIs (s := { s with heap := s.heap.push { cls := .type "dict", data := .dict #[] } })) ?_)
  show wpAny _ _ (pure (s.heap.objs.size, [Value.ref o])) _ _ _
  refine wpAny_pure ?_
  show wpAny _ _ (Builtin.Dict.updateFrom "dict.__init__" s.heap.objs.size (.ref o) [] .none) _ _ _
  unfold Builtin.Dict.updateFrom
  have ht' := ho'.typeIs (s := { s with heap := s.heap.push { cls := .type "dict", data := .dict #[] } })
  refine wpAny_bind (wpAny_typeOf ht' ?_)
  rw [if_neg (by decide)]
  refine wpAny_bind ?_
  unfold Builtin.Dict.merge
  refine wpAny_bind ?_
  unfold Builtin.Dict.readDirectly
  refine wpAny_bind (wpAny_isInstance ht' isSubtype_dict_dict ?_)
  simp only [Bool.not_true, Bool.false_eq_true, if_false]
  refine wpAny_bind (wpAny_specialOf ht' F.slot_dict_iter.lookup (wpAny_pure ?_))
  simp only [beq_self_eq_true, if_true]
  refine wpAny_bind (wpAny_pure ?_)
  refine wpAny_mergeDict_heap (hsz := by simpa using hsz) hu hdo hoS hnew ho' (.inr ⟨fun x hx => ?_, hap⟩) fun h' hd' _ hs' => ?_
  · obtain ⟨o2, e1, e2⟩ := hty x hx
    exact ⟨o2, Heap.get?_push_of_some _ e1, e2⟩
  · show wpAny _ _ (Builtin.Dict.addKeywords s.heap.objs.size [] >>= _) _ _ _
    rw [storedAllH_nil_of_nodup more hn] at hd'
    exact wpAny_bind (wpAny_pure (wpAny_pure ⟨rfl, h h' hd' hs'⟩))
end
/-- dict(d) -/
def rDictN (P : Program) (w : World) (K : PySem.W.Frag) : List V → Hp → VK → Prop := fun xs H Q => ∃ (a : Addr) (kvs : List (NK × V)), xs = [V.ref a] ∧ NdH P w K H a kvs ∧ (kvs.map fun k => k.1.hash w).Nodup ∧
  ∀ p, H p = none → ∀ ys, NdW P w K (upd H p (NdO P w p ys)) p kvs → Q (.ref p) (upd H p (NdO P w p ys))
theorem call_dict_nd {X : Cx} (hu : X.A.units + 16 < cLine) : CallR X (.type "dict") (rDictN X.prog X.w X.K) := by
  intro pins s σ H xs us Q I r h
  obtain ⟨a, kvs, rfl, hd, hap, q⟩ := h
  obtain ⟨u, rfl, rx⟩ := r.one
  cases rx
  obtain ⟨ys, rel, dd, _⟩ := nd_raw I hd
  obtain ⟨_, _, _, hnd, hs, hz⟩ := hd
  have hb : (s.heap.objs.size == sysModules) = false := beq_eq_false_iff_ne.mpr (Nat.ne_of_gt I.big)
  have l2 : kvs.length = ys.length := Paired.length rel
  have his : ∀ x ∈ ys, (nestedKind X.prog X.w).is s.heap x.1 x.2.1 := let ⟨_, _, _, _, _, _, _, z, _⟩ := dd; z
  have hh : (ys.map fun x => (nestedKind X.prog X.w).hash x.1) = kvs.map fun k => k.1.hash X.w := by
    have z := congrArg (List.map fun k : NK => k.hash X.w) rel.keys
    rw [List.map_map, List.map_map] at z
    exact z.symm
  refine call_dictH (by show X.A.in1.in1.units + 8 < cLine; have : X.A.in1.in1.units = X.A.units + 1 + 1 := rfl; omega) hs dd (fun x hx => ?_) (by rw [hh]; exact hap) (fun x hx => ?_) (by rw [← l2]; exact hz) fun h' dd' sb => ?_
  · have z := (his x hx).1
    generalize x.1 = k at z
    cases z with
    | tup e1 e2 e3 _ => exact ⟨_, e1, e2⟩
  · exact ⟨NestedIs.at (fun b o vs n e _ => Heap.get?_push_of_some _ e) _ _ (his x hx).1, (his x hx).2⟩
  · obtain ⟨o, es, ep, e1, e2, e3, e4, _⟩ := dd'
    have hn : H s.heap.objs.size = none := I.hok.fresh (Nat.le_refl _)
    refine ⟨.ref s.heap.objs.size, upd H s.heap.objs.size (NdO X.prog X.w s.heap.objs.size ys), I.laid (t' := s.toks) (fun b u e => ?_) (Nat.le_refl _) (nd_ext e1 e2 e3 e4), rfl, q _ hn ys ⟨ys, upd_same, rel.imp fun b zs z => sqT_mono (fun b u e => by rw [upd_ne (ne_of_none e hn)]; exact e) z, hnd, hb, hz⟩⟩
    exact (sb.2 b (Nat.ne_of_lt (Heap.lt_size e))).trans (Heap.get?_push_of_some _ e)
end ND

end
section
set_option Elab.async false
set_option linter.all false
set_option maxRecDepth 100000
set_option maxHeartbeats 4000000
set_option pp.maxSteps 200
/-! sorted(d) of a dict whose keys are nested tuples, alike -/
namespace ND
open PySem PySem.Spec PySem.SeqAt PySem.Calls PyProof.Rows L2 PySem.W
theorem perm_mapN {α β : Type} {f : α → β} {vs ws : List β} (h : vs.Perm ws) : ∀ L : List α, ws = L.map f → ∃ L1 : List α, L1.Perm L ∧ vs = L1.map f := by
  induction h with
  | nil =>
    intro L e
    cases L with
    | nil => exact ⟨[], List.Perm.refl _, rfl⟩
    | cons _ _ => cases e
  | cons x _ ih =>
    intro L e
    cases L with
    | nil => cases e
    | cons a L =>
      injection e with e1 e2
      obtain ⟨L1, h1, h2⟩ := ih L e2
      exact ⟨a :: L1, h1.cons a, by rw [List.map_cons, e1, h2]⟩
  | swap x y l =>
    intro L e
    match L, e with
    | a :: b :: L, e =>
      injection e with e1 e2
      injection e2 with e2 e3
      exact ⟨b :: a :: L, .swap _ _ _, by rw [List.map_cons, List.map_cons, e1, e2, e3]⟩
  | trans _ _ ih1 ih2 =>
    intro L e
    obtain ⟨L2, h1, h2⟩ := ih2 L e
    obtain ⟨L1, h3, h4⟩ := ih1 L2 h2
    exact ⟨L1, h3.trans h1, h4⟩
theorem each_of_map {α : Type} {f : α → Value} {R : Value → α → Prop} : ∀ {L : List α}, (∀ q ∈ L, R (f q) q) → EachIs R (L.map f) L
  | [], _ => .nil
  | _ :: _, h => .cons (h _ List.mem_cons_self) (each_of_map fun q hq => h q (List.mem_cons_of_mem _ hq))
theorem each_of_eq {α : Type} {f : α → Value} : ∀ {us : List Value} {L : List α}, EachIs (fun v q => v = f q) us L → us = L.map f
  | _, _, .nil => rfl
  | _, _, .cons h t => by rw [h, each_of_eq t, List.map_cons]
section
variable {P : Program} {w : World} {A : Around} {E : Value → Shared → Prop} {s : Shared}
/-- sorted(d), the keys told as L -/
theorem sorted_dictN {a : Addr} {o : Obj} {es : Array DictEntry} {ep : Nat} {L : List (Addr × NK)} {Q : Value → Shared → Prop} (lo : (a == sysModules) = false) (hx : o.ExactDict) (hdt : o.data = .dict es ep) (ho : s.heap.get? a = some o)
    (he : es.toList.map (·.key) = L.map fun q => Value.ref q.1) (hr : ∀ q ∈ L, ∃ as, Reads s.heap (.ref q.1) q.2.data as) (hdp : ∀ q ∈ L, q.2.data.depth ≤ 8) (hal : AllAlike (L.map fun q => q.2.data)) (hk : Sortable (L.map fun q => q.2.data))
    (hh : A.handled = none) (hu : A.units + 16 < cLine) (hl : L.length ≤ sizeLine)
    (hQ : ∀ (h1 h' : Heap) (tk : Nat) (out : Array Value) (c : Nat) (L' : List (Addr × NK)), (∀ b o, s.heap.get? b = some o → h1.get? b = some o) → (∀ b o, h1.get? b = some o → h'.get? b = some o) →
      h'.get? h1.objs.size = some (seqObj "list" out c) → out.toList = L'.map (fun q => Value.ref q.1) → L'.Perm L → Q (.ref h1.objs.size) { s with heap := h', toks := tk }) :
    wpAny (model P w) A (call (.builtin "sorted") [.ref a]) Q E s := by
  have hsz : es.size = L.length := by
    have z := congrArg List.length he
    rw [List.length_map, List.length_map, Array.length_toList] at z
    exact z
  refine Calls.call_function_entry kind_sorted plain_sorted entry_sorted (args_sorted1 _) ?_
  unfold Builtin.«sorted»
  refine wpAny_bind (m := checkCount "sorted" 1 1 _) (wpAny_pure ?_)
  refine wpAny_bind (kdu_collect (A := A.in1) (kdl_raw lo hx hdt) hh ho (by omega) fun h1 tk acc k1 it => ?_)
  have eb : acc.toList = L.map fun q => Value.ref q.1 := by
    rw [← he]
    apply List.ext_getElem?
    intro j
    rw [List.getElem?_map]
    by_cases hj : j < acc.toList.length
    · obtain ⟨v, hv⟩ : ∃ v, acc.toList[j]? = some v := ⟨_, List.getElem?_eq_getElem hj⟩
      obtain ⟨en, hen, ev⟩ := it.2 j v (by rw [← Array.getElem?_toList]; exact hv)
      rw [hv, Array.getElem?_toList, hen, ev]
      rfl
    · have e1 : acc.toList.length = es.size := by rw [Array.length_toList, it.1]
      rw [List.getElem?_eq_none (by omega), List.getElem?_eq_none (by rw [Array.length_toList]; omega)]
      rfl
  rw [eb]
  refine wpAny_bind (wpAny_newList ?_ (by rw [List.length_map]; exact hl))
  have hoL : (h1.push (seqObj "list" (L.map fun q => Value.ref q.1).toArray 0)).get? h1.objs.size = some (seqObj "list" (L.map fun q => Value.ref q.1).toArray 0) := Heap.get?_push_size _ rfl
  have er : EachIs (fun v q => ∃ as, Reads (sortingHeap (h1.push (seqObj "list" (L.map fun q => Value.ref q.1).toArray 0)) h1.objs.size (L.map fun q => Value.ref q.1)) v q.2.data as) (L.map fun q => Value.ref q.1) L :=
    each_of_map fun q hq => by
      obtain ⟨as, r⟩ := hr q hq
      exact ⟨as, PyProof.Rows.Reads.keeps (fun b u e => sortingHeap_old (Nat.ne_of_lt (Heap.lt_size (k1 b u e))) (Heap.get?_push_of_some _ (k1 b u e))) r⟩
  have hd1 : ∀ d, d ∈ L.map (fun q => q.2.data) → A.in1.in1.units + d.depth < cLine := fun d hd => by
    obtain ⟨q, hq, rfl⟩ := List.mem_map.mp hd
    have := hdp q hq
    simp
    omega
  refine wpAny_bind (wpAny_holding (wpAny_call_entry slot_list_sort ⟨_, hoL, rfl⟩ entry_list_sort (list_sort_vals (κ := dataKind (sortingHeap (h1.push (seqObj "list" (L.map fun q => Value.ref q.1).toArray 0)) h1.objs.size (L.map fun q => Value.ref q.1)) (L.map fun q => q.2.data)) hoL
    (SortsAt.data (s := { s with heap := sortingHeap (h1.push (seqObj "list" (L.map fun q => Value.ref q.1).toArray 0)) h1.objs.size (L.map fun q => Value.ref q.1), toks := tk }) (each_map (R := fun v d => ∃ as, Reads _ v d as) (fun q : Addr × NK => q.2.data) er) hal hk hd1) (by rw [List.length_map]; exact hl) ⟨_, rfl, ?_⟩) (args_list_sort _)))
  have eo := sortVals_data (h' := sortingHeap (h1.push (seqObj "list" (L.map fun q => Value.ref q.1).toArray 0)) h1.objs.size (L.map fun q => Value.ref q.1)) (R := fun v q => v = Value.ref q.1) false (each_of_map fun q _ => rfl) er hal
  have eo := each_of_eq eo
  rw [eo]
  obtain ⟨c, hc⟩ := sortedHeap_at (vs := L.map fun q => Value.ref q.1) (out := ((L.mergeSort (dataLe false fun q : Addr × NK => q.2.data)).map fun q => Value.ref q.1).toArray) hoL
  refine wpAny_pure ⟨_, rfl, hQ h1 _ tk _ c (L.mergeSort (dataLe false fun q : Addr × NK => q.2.data)) k1 (fun b u q => ?_) hc (by simp) (List.mergeSort_perm _ _)⟩
  have hlt := Heap.lt_size q
  show (sortedHeap (h1.push (seqObj "list" (L.map fun q => Value.ref q.1).toArray 0)) h1.objs.size (L.map fun q => Value.ref q.1) _).get? b = some u
  rw [sortedHeap_old (Nat.ne_of_lt hlt) (by rw [size_push']; exact Nat.lt_succ_of_lt hlt)]
  exact Heap.get?_push_of_some _ q
end
/-- sorted(d), as a call: the keys' own tuples, in some order -/
def rSortedN (P : Program) (w : World) (K : PySem.W.Frag) : List V → Hp → VK → Prop := fun xs H Q => ∃ (a : Addr) (kvs : List (NK × V)), xs = [V.ref a] ∧ NdH P w K H a kvs ∧ AllAlike (kvs.map fun k => k.1.data) ∧ Sortable (kvs.map fun k => k.1.data) ∧ (∀ k ∈ kvs, k.1.data.depth ≤ 8) ∧
  ∀ p (bs : List Addr), H p = none → bs.length = kvs.length → (∀ b ∈ bs, ∃ k v, (k, v) ∈ kvs ∧ KeyV K H (.ref b) k ∧ k.depth ≤ 8) → Q (.ref p) (upd H p (.lst (bs.map V.ref)))
theorem rel_mem {K : PySem.W.Frag} {H : Hp} {kvs : List (NK × V)} {ys : List (NK × Addr × Value)} (rel : NdR K H kvs ys) : ∀ y ∈ ys, ∃ v, (y.1, v) ∈ kvs ∧ KeyV K H (.ref y.2.1) y.1 ∧ y.1.depth ≤ 8 := by
  unfold NdR at rel
  induction rel with
  | nil => intro y hy; cases hy
  | @cons p q ps qs h t ih =>
    intro y hy
    rcases List.mem_cons.mp hy with e | e
    · subst e
      obtain ⟨h1, h2, _⟩ := h
      refine ⟨p.2, ?_, by rw [← h1]; exact h2.1, by rw [← h1]; exact h2.2⟩
      rw [← h1]
      exact List.mem_cons_self
    · obtain ⟨v, h1, h2⟩ := ih y e
      exact ⟨v, List.mem_cons_of_mem _ h1, h2⟩
theorem call_sorted_nd {X : Cx} (hc : X.calm = true) (hu : X.A.units + 64 < cLine) : CallR X (.builtin "sorted") (rSortedN X.prog X.w X.K) := by
  intro pins s σ H xs us Q I r h
  obtain ⟨d, kvs, rfl, hd, hal, hk, hdp, q⟩ := h
  obtain ⟨u, rfl, rx⟩ := r.one
  cases rx
  obtain ⟨ys, rel, ⟨o, es, ep, ho, hx, hdt, he, _⟩, _⟩ := nd_raw I hd
  obtain ⟨_, _, _, _, hs, hz⟩ := hd
  have l2 : kvs.length = ys.length := Paired.length rel
  have ek : (kvs.map fun k => k.1.data) = (ys.map fun y => (y.2.1, y.1)).map fun q : Addr × NK => q.2.data := by
    have z := congrArg (List.map NestedKey.data) rel.keys
    rw [List.map_map, List.map_map] at z
    rw [List.map_map]
    exact z
  rw [ek] at hal hk
  have hmem := rel_mem rel
  refine sorted_dictN (L := ys.map fun y => (y.2.1, y.1)) hs hx hdt ho (by rw [he, List.map_map, List.map_map]; rfl) (fun q hq => ?_) (fun q hq => ?_) hal hk (I.ok.hd hc) (by omega) (by rw [List.length_map]; omega) fun h1 h' tk out c L' k1 k2 hp hout pm => ?_
  · obtain ⟨y, hy, rfl⟩ := List.mem_map.mp hq
    obtain ⟨v, _, hkv, _⟩ := hmem y hy
    exact Dp.reads I _ _ _ hkv.dp rfl
  · obtain ⟨y, hy, rfl⟩ := List.mem_map.mp hq
    obtain ⟨v, hin, _⟩ := hmem y hy
    exact hdp _ hin
  · have I1 : Inv X pins σ H { s with heap := h1, toks := tk } := I.kept (t' := tk) k1
    have el : L'.length = kvs.length := by rw [pm.length_eq, List.length_map, l2]
    have hlen : ((L'.map (·.1)).map V.ref).length ≤ sizeLine := by rw [List.length_map, List.length_map, el]; exact hz
    have hv : Vals ((L'.map (·.1)).map V.ref) out.toList := by
      rw [hout]
      have z := vals_refs (L'.map (·.1))
      rw [List.map_map, List.map_map] at z
      rw [List.map_map]
      exact z
    refine ⟨.ref h1.objs.size, upd H h1.objs.size (.lst ((L'.map (·.1)).map V.ref)), I1.laid (t' := tk) k2 (Nat.le_refl _) ⟨hlen, out.toList, c, hv, hp⟩, rfl, q _ _ (I1.hok.fresh (Nat.le_refl _)) (by rw [List.length_map, el]) fun b hb => ?_⟩
    obtain ⟨q1, hq1, rfl⟩ := List.mem_map.mp hb
    obtain ⟨y, hy, rfl⟩ := List.mem_map.mp (pm.mem_iff.mp hq1)
    obtain ⟨v, h1, h2⟩ := hmem y hy
    exact ⟨y.1, v, h1, h2⟩
end ND

end
section
set_option Elab.async false
set_option linter.all false
set_option maxRecDepth 100000
set_option maxHeartbeats 4000000
set_option pp.maxSteps 200
/-! sorted(d) of a dict with nested keys, the order told -/
namespace ND
open PySem PySem.Spec PySem.SeqAt PySem.Calls PyProof.Rows L2 PySem.W
theorem sort_pw (L : List (Addr × NK)) : (L.mergeSort (dataLe false fun q : Addr × NK => q.2.data)).Pairwise (fun q r => dataLt r.2.data q.2.data = false) := by
  refine (sort_pairwise (sortLe_total (listOrd itemOrd) false fun q : Addr × NK => keyToks q.2.data) L).imp fun {q r} h => ?_
  have h2 : (!dataLt r.2.data q.2.data) = true := h
  rw [Bool.not_eq_true'] at h2
  exact h2
theorem keyAds_pair {K : PySem.W.Frag} {H : Hp} : ∀ (L : List (Addr × NK)), (∀ q ∈ L, KeyV K H (.ref q.1) q.2 ∧ q.2.depth ≤ 8) → KeyAds K H (L.map (·.2)) (L.map (·.1))
  | [], _ => .nil
  | q :: L, h => .cons (h q List.mem_cons_self) (keyAds_pair L fun r hr => h r (List.mem_cons_of_mem _ hr))
section
variable {P : Program} {w : World} {A : Around} {E : Value → Shared → Prop} {s : Shared}
/-- sorted(d), the keys told as L -/
theorem sorted_dictO {a : Addr} {o : Obj} {es : Array DictEntry} {ep : Nat} {L : List (Addr × NK)} {Q : Value → Shared → Prop} (lo : (a == sysModules) = false) (hx : o.ExactDict) (hdt : o.data = .dict es ep) (ho : s.heap.get? a = some o)
    (he : es.toList.map (·.key) = L.map fun q => Value.ref q.1) (hr : ∀ q ∈ L, ∃ as, Reads s.heap (.ref q.1) q.2.data as) (hdp : ∀ q ∈ L, q.2.data.depth ≤ 8) (hal : AllAlike (L.map fun q => q.2.data)) (hk : Sortable (L.map fun q => q.2.data))
    (hh : A.handled = none) (hu : A.units + 16 < cLine) (hl : L.length ≤ sizeLine)
    (hQ : ∀ (h1 h' : Heap) (tk : Nat) (out : Array Value) (c : Nat) (L' : List (Addr × NK)), (∀ b o, s.heap.get? b = some o → h1.get? b = some o) → (∀ b o, h1.get? b = some o → h'.get? b = some o) →
      h'.get? h1.objs.size = some (seqObj "list" out c) → out.toList = L'.map (fun q => Value.ref q.1) → L'.Perm L → L'.Pairwise (fun q r => dataLt r.2.data q.2.data = false) → Q (.ref h1.objs.size) { s with heap := h', toks := tk }) :
    wpAny (model P w) A (call (.builtin "sorted") [.ref a]) Q E s := by
  have hsz : es.size = L.length := by
    have z := congrArg List.length he
    rw [List.length_map, List.length_map, Array.length_toList] at z
    exact z
  refine Calls.call_function_entry kind_sorted plain_sorted entry_sorted (args_sorted1 _) ?_
  unfold Builtin.«sorted»
  refine wpAny_bind (m := checkCount "sorted" 1 1 _) (wpAny_pure ?_)
  refine wpAny_bind (kdu_collect (A := A.in1) (kdl_raw lo hx hdt) hh ho (by omega) fun h1 tk acc k1 it => ?_)
  have eb : acc.toList = L.map fun q => Value.ref q.1 := by
    rw [← he]
    apply List.ext_getElem?
    intro j
    rw [List.getElem?_map]
    by_cases hj : j < acc.toList.length
    · obtain ⟨v, hv⟩ : ∃ v, acc.toList[j]? = some v := ⟨_, List.getElem?_eq_getElem hj⟩
      obtain ⟨en, hen, ev⟩ := it.2 j v (by rw [← Array.getElem?_toList]; exact hv)
      rw [hv, Array.getElem?_toList, hen, ev]
      rfl
    · have e1 : acc.toList.length = es.size := by rw [Array.length_toList, it.1]
      rw [List.getElem?_eq_none (by omega), List.getElem?_eq_none (by rw [Array.length_toList]; omega)]
      rfl
  rw [eb]
  refine wpAny_bind (wpAny_newList ?_ (by rw [List.length_map]; exact hl))
  have hoL : (h1.push (seqObj "list" (L.map fun q => Value.ref q.1).toArray 0)).get? h1.objs.size = some (seqObj "list" (L.map fun q => Value.ref q.1).toArray 0) := Heap.get?_push_size _ rfl
  have er : EachIs (fun v q => ∃ as, Reads (sortingHeap (h1.push (seqObj "list" (L.map fun q => Value.ref q.1).toArray 0)) h1.objs.size (L.map fun q => Value.ref q.1)) v q.2.data as) (L.map fun q => Value.ref q.1) L :=
    each_of_map fun q hq => by
      obtain ⟨as, r⟩ := hr q hq
      exact ⟨as, PyProof.Rows.Reads.keeps (fun b u e => sortingHeap_old (Nat.ne_of_lt (Heap.lt_size (k1 b u e))) (Heap.get?_push_of_some _ (k1 b u e))) r⟩
  have hd1 : ∀ d, d ∈ L.map (fun q => q.2.data) → A.in1.in1.units + d.depth < cLine := fun d hd => by
    obtain ⟨q, hq, rfl⟩ := List.mem_map.mp hd
    have := hdp q hq
    simp
    omega
  refine wpAny_bind (wpAny_holding (wpAny_call_entry slot_list_sort ⟨_, hoL, rfl⟩ entry_list_sort (list_sort_vals (κ := dataKind (sortingHeap (h1.push (seqObj "list" (L.map fun q => Value.ref q.1).toArray 0)) h1.objs.size (L.map fun q => Value.ref q.1)) (L.map fun q => q.2.data)) hoL
    (SortsAt.data (s := { s with heap := sortingHeap (h1.push (seqObj "list" (L.map fun q => Value.ref q.1).toArray 0)) h1.objs.size (L.map fun q => Value.ref q.1), toks := tk }) (each_map (R := fun v d => ∃ as, Reads _ v d as) (fun q : Addr × NK => q.2.data) er) hal hk hd1) (by rw [List.length_map]; exact hl) ⟨_, rfl, ?_⟩) (args_list_sort _)))
  have eo := sortVals_data (h' := sortingHeap (h1.push (seqObj "list" (L.map fun q => Value.ref q.1).toArray 0)) h1.objs.size (L.map fun q => Value.ref q.1)) (R := fun v q => v = Value.ref q.1) false (each_of_map fun q _ => rfl) er hal
  have eo := each_of_eq eo
  rw [eo]
  obtain ⟨c, hc⟩ := sortedHeap_at (vs := L.map fun q => Value.ref q.1) (out := ((L.mergeSort (dataLe false fun q : Addr × NK => q.2.data)).map fun q => Value.ref q.1).toArray) hoL
  refine wpAny_pure ⟨_, rfl, hQ h1 _ tk _ c (L.mergeSort (dataLe false fun q : Addr × NK => q.2.data)) k1 (fun b u q => ?_) hc (by simp) (List.mergeSort_perm _ _) (sort_pw L)⟩
  have hlt := Heap.lt_size q
  show (sortedHeap (h1.push (seqObj "list" (L.map fun q => Value.ref q.1).toArray 0)) h1.objs.size (L.map fun q => Value.ref q.1) _).get? b = some u
  rw [sortedHeap_old (Nat.ne_of_lt hlt) (by rw [size_push']; exact Nat.lt_succ_of_lt hlt)]
  exact Heap.get?_push_of_some _ q
end
/-- sorted(d), as a call: the keys' own tuples, in some order -/
def rSortedO (P : Program) (w : World) (K : PySem.W.Frag) : List V → Hp → VK → Prop := fun xs H Q => ∃ (a : Addr) (kvs : List (NK × V)), xs = [V.ref a] ∧ NdH P w K H a kvs ∧ AllAlike (kvs.map fun k => k.1.data) ∧ Sortable (kvs.map fun k => k.1.data) ∧ (∀ k ∈ kvs, k.1.data.depth ≤ 8) ∧
  ∀ p (bs : List Addr) (ks : List NK), H p = none → KeyAds K H ks bs → ks.Perm (kvs.map (·.1)) → ks.Pairwise (fun k l => dataLt l.data k.data = false) → Q (.ref p) (upd H p (.lst (bs.map V.ref)))
theorem call_sorted_ndo {X : Cx} (hc : X.calm = true) (hu : X.A.units + 64 < cLine) : CallR X (.builtin "sorted") (rSortedO X.prog X.w X.K) := by
  intro pins s σ H xs us Q I r h
  obtain ⟨d, kvs, rfl, hd, hal, hk, hdp, q⟩ := h
  obtain ⟨u, rfl, rx⟩ := r.one
  cases rx
  obtain ⟨ys, rel, ⟨o, es, ep, ho, hx, hdt, he, _⟩, _⟩ := nd_raw I hd
  obtain ⟨_, _, _, _, hs, hz⟩ := hd
  have l2 : kvs.length = ys.length := Paired.length rel
  have ek : (kvs.map fun k => k.1.data) = (ys.map fun y => (y.2.1, y.1)).map fun q : Addr × NK => q.2.data := by
    have z := congrArg (List.map NestedKey.data) rel.keys
    rw [List.map_map, List.map_map] at z
    rw [List.map_map]
    exact z
  rw [ek] at hal hk
  have hmem := rel_mem rel
  refine sorted_dictO (L := ys.map fun y => (y.2.1, y.1)) hs hx hdt ho (by rw [he, List.map_map, List.map_map]; rfl) (fun q hq => ?_) (fun q hq => ?_) hal hk (I.ok.hd hc) (by omega) (by rw [List.length_map]; omega) fun h1 h' tk out c L' k1 k2 hp hout pm pw => ?_
  · obtain ⟨y, hy, rfl⟩ := List.mem_map.mp hq
    obtain ⟨v, _, hkv, _⟩ := hmem y hy
    exact Dp.reads I _ _ _ hkv.dp rfl
  · obtain ⟨y, hy, rfl⟩ := List.mem_map.mp hq
    obtain ⟨v, hin, _⟩ := hmem y hy
    exact hdp _ hin
  · have I1 : Inv X pins σ H { s with heap := h1, toks := tk } := I.kept (t' := tk) k1
    have el : L'.length = kvs.length := by rw [pm.length_eq, List.length_map, l2]
    have hlen : ((L'.map (·.1)).map V.ref).length ≤ sizeLine := by rw [List.length_map, List.length_map, el]; exact hz
    have hv : Vals ((L'.map (·.1)).map V.ref) out.toList := by
      rw [hout]
      have z := vals_refs (L'.map (·.1))
      rw [List.map_map, List.map_map] at z
      rw [List.map_map]
      exact z
    refine ⟨.ref h1.objs.size, upd H h1.objs.size (.lst ((L'.map (·.1)).map V.ref)), I1.laid (t' := tk) k2 (Nat.le_refl _) ⟨hlen, out.toList, c, hv, hp⟩, rfl, q _ _ (L'.map (·.2)) (I1.hok.fresh (Nat.le_refl _)) (keyAds_pair L' fun q1 hq1 => ?_) ?_ (List.pairwise_map.mpr pw)⟩
    · obtain ⟨y, hy, rfl⟩ := List.mem_map.mp (pm.mem_iff.mp hq1)
      obtain ⟨v, h1, h2⟩ := hmem y hy
      exact h2
    · have z := pm.map (·.2)
      rw [rel.keys]
      rw [List.map_map] at z
      exact z
end ND

end
section
set_option Elab.async false
set_option linter.all false
set_option maxRecDepth 100000
set_option maxHeartbeats 4000000
/-! changes as keys of a dict, sorted -/
namespace P5
open PySem PySem.Spec PySem.SeqAt PySem.W PyProof.Rows L2 EN ND
def kEd (e : Ed) : NK := .tup [.num e.a, .num e.b, .tup (e.ws.map .text)]
theorem keys_texts {K : PySem.W.Frag} {H : Hp} : ∀ ws : List Str, KeysV K H (ws.map V.str) (ws.map .text)
  | [] => .nil
  | x :: ws => .cons (.text x) (keys_texts ws)
theorem texts_keys {K : PySem.W.Frag} {H : Hp} : ∀ {xs : List V} {ws : List Str}, KeysV K H xs (ws.map .text) → xs = ws.map V.str
  | _, [], h => by cases h; rfl
  | _, x :: ws, h => by
    cases h with
    | cons h1 h2 =>
      cases h1
      rw [texts_keys h2]
      rfl
theorem keyV_ch {K : PySem.W.Frag} {H : Hp} {v : V} {e : Ed} (h : ChV K H v e) : KeyV K H v (kEd e) := by
  obtain ⟨a, t, rfl, h1, h2⟩ := h
  exact .tup h1 (.cons (.num _) (.cons (.num _) (.cons (.tup h2 (keys_texts _)) .nil)))
theorem ch_keyV {K : PySem.W.Frag} {H : Hp} {v : V} {e : Ed} (h : KeyV K H v (kEd e)) : ChV K H v e := by
  unfold kEd at h
  cases h with
  | tup h1 h2 =>
    cases h2 with
    | cons a1 a2 =>
      cases a1
      cases a2 with
      | cons b1 b2 =>
        cases b1
        cases b2 with
        | cons c1 c2 =>
          cases c2
          cases c1 with
          | tup d1 d2 =>
            rw [texts_keys d2] at d1
            exact ⟨_, _, rfl, h1, d1⟩
theorem text_inj : ∀ {a b : List Str}, a.map NestedKey.text = b.map NestedKey.text → a = b
  | [], [], _ => rfl
  | [], _ :: _, h => by cases h
  | _ :: _, [], h => by cases h
  | x :: a, y :: b, h => by
    rw [List.map_cons, List.map_cons] at h
    injection h with h1 h2
    injection h1 with h1
    rw [h1, text_inj h2]
theorem kEd_inj {e f : Ed} (h : kEd e = kEd f) : e = f := by
  obtain ⟨a, b, ws⟩ := e
  obtain ⟨c, d, us⟩ := f
  unfold kEd at h
  injection h with h
  injection h with h1 h
  injection h with h2 h
  injection h with h3 h
  injection h1 with h1
  injection h2 with h2
  injection h3 with h3
  have e3 : ws = us := text_inj h3
  have h1 : (a : Int) = c := h1
  have h2 : (b : Int) = d := h2
  rw [e3, show a = c from by omega, show b = d from by omega]
theorem datas_texts : ∀ ws : List Str, NestedKey.datas (ws.map .text) = ws.map PyData.str
  | [] => by simp [NestedKey.datas]
  | x :: ws => by
    rw [List.map_cons, NestedKey.datas, datas_texts ws]
    simp [NestedKey.data]
theorem kEd_data (e : Ed) : (kEd e).data = chD e := by
  unfold kEd chD
  simp [NestedKey.data, NestedKey.datas, datas_texts]
theorem kEd_depth (e : Ed) : (kEd e).depth ≤ 8 := by
  have z : ∀ ws : List Str, NestedKey.depthAll (ws.map .text) = 0 := fun ws => by
    induction ws with
    | nil => simp [NestedKey.depthAll]
    | cons x ws ih => rw [List.map_cons, NestedKey.depthAll, ih]; simp [NestedKey.depth]
  unfold kEd
  simp [NestedKey.depth, NestedKey.depthAll, z]
theorem alike_texts : ∀ a b : List Str, alikeAll (a.map PyData.str) (b.map PyData.str) = true
  | [], _ => by simp [alikeAll]
  | _ :: _, [] => by simp [alikeAll]
  | x :: a, y :: b => by
    rw [List.map_cons, List.map_cons, alikeAll, alike_texts a b]
    simp [alike]
theorem alike_ch (e f : Ed) : alike (chD e) (chD f) = true := by
  unfold chD
  simp [alike, alikeAll, alike_texts]
theorem lt_ch {e f : Ed} (h : f.a < e.a ∨ (f.a = e.a ∧ f.b < e.b)) : dataLt (chD f) (chD e) = true := by
  unfold chD
  rw [dataLt_tuple, dataLt_cons (by simp [alike])]
  by_cases h1 : f.a = e.a
  · have hb : f.b < e.b := by omega
    have h1' : (f.a : Int) = e.a := by omega
    rw [if_pos (by rw [h1']; simp [PyData.eqv]), dataLt_cons (by simp [alike]), if_neg (by simp [PyData.eqv]; omega), dataLt_int]
    exact decide_eq_true (by omega)
  · rw [if_neg (by simp [PyData.eqv]; omega), dataLt_int]
    exact decide_eq_true (by omega)
/-- a sorted row of changes that go together stands in its order -/
theorem sorted_bf {S : List Ed} (hp : (S.map kEd).Pairwise (fun k l => dataLt l.data k.data = false)) (nd : S.Nodup) (hle : ∀ x ∈ S, x.a ≤ x.b) (hg : ∀ x ∈ S, ∀ y ∈ S, Go x y) : S.Pairwise Bf := by
  induction S with
  | nil => exact .nil
  | cons x S ih =>
    rw [List.map_cons, List.pairwise_cons] at hp
    rw [List.nodup_cons] at nd
    rw [List.pairwise_cons]
    refine ⟨fun y hy => ?_, ih hp.2 nd.2 (fun z hz => hle z (List.mem_cons_of_mem _ hz)) fun z hz u hu => hg z (List.mem_cons_of_mem _ hz) u (List.mem_cons_of_mem _ hu)⟩
    have hyS := List.mem_cons_of_mem x hy
    rcases (hg x List.mem_cons_self y hyS).bf (hle x List.mem_cons_self) (hle y hyS) (fun z => nd.1 (z ▸ hy)) with q | q
    · exact q
    · have z := hp.1 (kEd y) (List.mem_map.mpr ⟨y, hy, rfl⟩)
      rw [kEd_data, kEd_data, lt_ch] at z
      · cases z
      · obtain ⟨q1, q2⟩ := q
        have := hle y hyS
        omega
end P5

end
section
set_option Elab.async false
set_option linter.all false
set_option maxRecDepth 100000
set_option maxHeartbeats 4000000
/-! all_of -/
namespace P5
open PySem PySem.Spec PySem.SeqAt PySem.W PyProof.Rows L2 EN ND
theorem yesI {σ : L2.St} {H : Hp} {p q : Hp → Prop} (h : p H) : tYes σ H (fun b H3 => if b = true then p H3 else q H3) := by
  show if true = true then p H else q H
  rw [if_pos rfl]
  exact h
/-- a list or a tuple in a slot, item by item -/
def iSeqV (K : PySem.W.Frag) (i : Nat) : TI := fun σ H R => ∃ (a : Addr) (xs : List V), σ[i]? = some (some (.ref a)) ∧ SqE K H a xs ∧ ∀ (J : It) (G : Hp → Prop), Walk J xs.length G (YAt xs) → (∀ H', Same H H' → G H') → R J H
theorem pi_mono {X : Cx} {tg e : Expr} {w1 w2 : TI} (h : PI X tg e w1) (f : ∀ σ H R, w2 σ H R → w1 σ H R) : PI X tg e w2 := ⟨fun pins s σ H R I q => h.run pins s σ H R I (f σ H R q)⟩
theorem pi_seqV {X : Cx} {tg e : Expr} {i : Nat} (he : PE X e (tVar i)) : PI X tg e (iSeqV X.K i) :=
  pi_mono (pi_alt (pi_list he) (pi_tup he)) fun σ H R h => by
    obtain ⟨a, xs, h1, h2, h3⟩ := h
    rcases h2 with h2 | h2
    · exact .inl ⟨_, h1, a, rfl, ⟨_, h2⟩, h3 _ _ walk_list fun H' s => s.seq h2⟩
    · exact .inr ⟨_, h1, a, rfl, ⟨_, h2⟩, h3 _ _ walk_tup fun H' s => Same.tup s h2⟩
/-- each change once, where it comes first -/
def dd (L : List Ed) : List Ed := L.foldl (fun S e => if e ∈ S then S else S ++ [e]) []
theorem dd_snoc (L : List Ed) (e : Ed) : dd (L ++ [e]) = if e ∈ dd L then dd L else dd L ++ [e] := by
  unfold dd
  rw [List.foldl_append]
  rfl
theorem dd_facts (L : List Ed) : (dd L).Nodup ∧ ∀ e, e ∈ dd L ↔ e ∈ L := by
  have z : ∀ (n : Nat) (L : List Ed), L.length = n → (dd L).Nodup ∧ ∀ e, e ∈ dd L ↔ e ∈ L := by
    intro n
    induction n with
    | zero =>
      intro L hL
      rw [List.eq_nil_of_length_eq_zero hL]
      exact ⟨List.nodup_nil, fun e => Iff.rfl⟩
    | succ n ih =>
      intro L hL
      rcases List.eq_nil_or_concat L with e | ⟨L', x, e⟩
      · rw [e] at hL; cases hL
      · rw [List.concat_eq_append] at e
        subst e
        rw [List.length_append, List.length_singleton] at hL
        obtain ⟨h1, h2⟩ := ih L' (by omega)
        rw [dd_snoc]
        by_cases c : x ∈ dd L'
        · rw [if_pos c]
          refine ⟨h1, fun e => ?_⟩
          rw [h2, List.mem_append, List.mem_singleton]
          exact ⟨.inl, fun q => q.elim id fun q => by rw [q]; exact (h2 x).mp c⟩
        · rw [if_neg c]
          refine ⟨?_, fun e => ?_⟩
          · rw [List.nodup_append]
            refine ⟨h1, by simp, fun a ha b hb => ?_⟩
            rw [List.mem_singleton] at hb
            intro q
            rw [q, hb] at ha
            exact c ha
          · rw [List.mem_append, h2, List.mem_append]
  exact z L.length L rfl
theorem dd_len (L : List Ed) : (dd L).length ≤ L.length := (sub_len (dd_facts L).1 fun x hx => ((dd_facts L).2 x).mp hx).1
def entE (S : List Ed) : List (NK × V) := S.map fun e => (kEd e, V.bl true)
theorem entE_keys (S : List Ed) : (entE S).map (·.1) = S.map kEd := by
  unfold entE
  rw [List.map_map]
  rfl
theorem put_entE (S : List Ed) (e : Ed) : putK (entE S) (kEd e) (.bl true) = entE (if e ∈ S then S else S ++ [e]) := by
  unfold putK
  have h1 : ((entE S).any fun kv => decide (kv.1 = kEd e)) = decide (e ∈ S) := by
    unfold entE
    induction S with
    | nil => rfl
    | cons x S ih =>
      rw [List.map_cons, List.any_cons, ih]
      by_cases h : x = e
      · simp [h]
      · have h2 : ¬ kEd x = kEd e := fun z => h (kEd_inj z)
        have h3 : ¬ e = x := fun z => h z.symm
        simp [h2, h3]
  rw [h1]
  by_cases c : e ∈ S
  · rw [if_pos (decide_eq_true c), if_pos c]
    unfold entE
    rw [List.map_map]
    refine List.map_congr_left fun x _ => ?_
    show (if kEd x = kEd e then (kEd x, V.bl true) else (kEd x, V.bl true)) = _
    split <;> rfl
  · rw [if_neg (by rw [decide_eq_true_eq]; exact c), if_neg c]
    unfold entE
    rw [List.map_append]
    rfl
theorem keyAds_rel {K : PySem.W.Frag} {H : Hp} : ∀ {S : List Ed} {bs : List Addr}, KeyAds K H (S.map kEd) bs → RelL (ChV K H) (bs.map V.ref) S
  | [], _, h => by cases h; trivial
  | e :: S, _, h => by
    cases h with
    | cons h1 h2 => exact ⟨ch_keyV h1.1, keyAds_rel h2⟩
theorem perm_back {ks : List NK} {S : List Ed} (h : ks.Perm (S.map kEd)) : ∃ S' : List Ed, S'.Perm S ∧ ks = S'.map kEd := ND.perm_mapN h S rfl
/-- a patch by its changes and its least number -/
def PtV (K : PySem.W.Frag) (CP : Addr) (H : Hp) (v : V) (q : List Ed × Nat) : Prop := ∃ p, v = .ref p ∧ PtH K CP H p q.1 q.2
theorem PtV.same {K : PySem.W.Frag} {CP : Addr} {H H' : Hp} {v : V} {q : List Ed × Nat} (s : Same H H') (h : PtV K CP H v q) : PtV K CP H' v q := by
  obtain ⟨p, h1, h2⟩ := h
  exact ⟨p, h1, h2.same s⟩
def allC (Ps : List (List Ed × Nat)) : List Ed := Ps.flatMap (·.1)
def MaxOf (Ps : List (List Ed × Nat)) (n : Nat) : Prop := (∃ q ∈ Ps, q.2 = n) ∧ ∀ q ∈ Ps, q.2 ≤ n
section
variable {P : Program} {w : World} {K : PySem.W.Frag} {mg : Str → Option Value} {base : Heap} {aN aS CE CP CB CT CC : Addr}
theorem hu16 {A : Around} {k : Nat} (hr : Room k A) : A.units + 16 < cLine := by have := hr.un; omega
abbrev sAll : Stmt := tp 35
abbrev NAll : List Str := ["patches", "changes", "told", "change"]
theorem scAll : FnScope NAll ["patches"] (defScope sAll) := ⟨rfl, rfl, rfl, by decide +kernel, rfl, by decide +kernel, by decide +kernel⟩
def spAll (K : PySem.W.Frag) (CP : Addr) : Sp := fun vs H Q _ => ∃ (l : Addr) (pv : List V) (Ps : List (List Ed × Nat)) (n : Nat), vs = [.ref l] ∧ SqE K H l pv ∧ RelL (PtV K CP H) pv Ps ∧ MaxOf Ps n ∧ (∀ x ∈ allC Ps, ∀ y ∈ allC Ps, Go x y) ∧
  (allC Ps).length ≤ 100 ∧ tot (allC Ps) ≤ 100 ∧ n ≤ 200 ∧ Ps.length ≤ 100 ∧ ∀ H' x S, Same H H' → H x = none → S.Pairwise Bf → (∀ e, e ∈ S ↔ e ∈ allC Ps) → PtH K CP H' x (asOne S) n → Q (.ref x) H'
theorem ok_all {f : Addr} {fd : FuncData} (F : Fun K "all_of" "all_of" sAll f fd) (B : BN mg) (mS : mg "sorted" = none) (EP : PC K CP) (As : Dk P w K mg base "as_one" 1 ["changes"] (spAsO K))
    (M : MkC P w K mg base "Patch" CP 5 ["self", "changes", "least"] (spPInit K CP)) : FnOk P w K mg base CX0 12 f fd ["patches"] (spAll K CP) := by
  refine F.ok scAll (fun vs H Q E h => ?_) (fun cdv A outer s H vs Q E hr h => ?_)
  · obtain ⟨_, _, _, _, rfl, _⟩ := h
    rfl
  obtain ⟨l, pv0, Ps, n, rfl, hS, hR, hmx, hgo, hl, ht, hn, hPl, q⟩ := h
  obtain ⟨f2, fd2, G2, b2, k2, m2⟩ := As.ex
  obtain ⟨fI, fdI, MI, GI, bI⟩ := M.ex
  refine ⟨_, pss_cons (ps_set (i := 1) scAll.nd rfl (Or.inl rfl) (pe_callB (call_sorted_ndo rfl (hu64 hr)) rfl mS (by decide +kernel) (pa_cons (pe_nc2 (own := [("told", 2), ("change", 3)]) (vs1 := [3]) (g := gName 2) (g1 := gName 3) (wi1 := iTup K (tFld K (tVar 2) "changes")) rfl (hu16 hr) scAll.nd (pi_seqV (pv 0))
          (blkOk_by (N := NAll) (sc := defScope sAll) (by decide +kernel)) (by decide) (fun _ _ _ _ _ => pg_name (i := 2) scAll.nd rfl (Or.inl rfl)) (fun _ _ _ _ _ => pts_nil)
          (fun _ _ _ _ _ => pi_tup (pe_fld (pv 2) rfl)) (fun _ _ _ _ _ => pg_name (i := 3) scAll.nd rfl (Or.inl rfl)) (fun _ _ _ _ _ => pts_nil)
          (fun _ _ _ _ _ => pv 3) (fun _ _ _ _ _ => pe_bl)) pa_nil)))
    (pss_one (ps_ret (pe_make (E := E0) MI GI (hr.mono (by decide)) rfl M.m bI .nil pass0 (pa_cons (pe_call G2 (hr.mono (by decide)) rfl m2 k2 b2 .nil pass0 (pa_cons (pv 1) pa_nil))
      (pa_cons (pe_callBK (HL.cr_mxD rfl) rfl B.max (by decide +kernel) (pa_cons (pe_lc (own := [("told", 2)]) (g := gName 2) (te := tFld K (tVar 2) "least") rfl scAll.nd (pi_seqV (pv 0))
        (blkOk_by (N := NAll) (sc := defScope sAll) (by decide +kernel)) (fun _ _ _ _ _ => pg_name (i := 2) scAll.nd rfl (Or.inl rfl)) (fun _ _ _ _ _ => pts_nil) (fun _ _ _ _ _ => pe_fld (pv 2) rfl)) pa_nil) (pk_cons pe_int pk_nil)) pa_nil))))), ?_⟩
  have hlV : pv0.length = Ps.length := hR.len
  have pre_len : ∀ i : Nat, (allC (Ps.take i)).length ≤ (allC Ps).length := fun i => by
    have z : allC Ps = allC (Ps.take i) ++ allC (Ps.drop i) := by
      unfold allC
      rw [← List.flatMap_append, List.take_append_drop]
    rw [z, List.length_append]
    exact Nat.le_add_right _ _
  refine ⟨l, pv0, rfl, hS, fun J G wk hG D2 hN2 hb2 => lp_it wk (fun i H' => Same H H' ∧ NdW P w K H' D2 (entE (dd (allC (Ps.take i))))) ⟨Same.new hN2 _, NdW.new hb2⟩ (fun i H' _ p => hG H' p.1) (fun i x H5 H6 hi ⟨s5, hW5⟩ ⟨e, hx⟩ => ?_) fun H5 ⟨s5, hW5⟩ => ?_⟩
  · subst e
    obtain ⟨⟨C, m⟩, hP, p, rfl, hpt⟩ := hR.get hx
    obtain ⟨dx, t, cv, hp, hT, hV, hO⟩ := id (hpt.same s5)
    have hcl : cv.length = C.length := hV.len
    have tk : allC (Ps.take (i + 1)) = allC (Ps.take i) ++ C := by
      unfold allC
      rw [take_more hP, List.flatMap_append, List.flatMap_singleton]
    have hpl := pre_len (i + 1)
    rw [tk, List.length_append] at hpl
    refine ⟨rfl, yesI ⟨_, rfl, p, CP, dx, _, .ref t, rfl, hp, EP.cl, EP.nC, rfl, t, rfl, ⟨_, hT⟩, ?_⟩⟩
    refine lp_it walk_tup (fun j H' => Same H H' ∧ SqT K H' t cv ∧ ChsV K H' cv C ∧ NdW P w K H' D2 (entE (dd (allC (Ps.take i) ++ C.take j)))) ⟨s5, hT, hV, ?_⟩ (fun j H' _ p => p.2.1) (fun j x H8 H9 hj ⟨s8, hT8, hV8, hW8⟩ ⟨e, hx2⟩ => ?_) fun H8 ⟨s8, hT8, hV8, hW8⟩ => ?_
    · rw [List.take_zero, List.append_nil]
      exact hW5
    · subst e
      obtain ⟨e, he, hch⟩ := hV8.get hx2
      obtain ⟨xe, te, rfl, _⟩ := id hch
      have hW8' := hW8
      obtain ⟨xs8, hD8, _⟩ := hW8'
      have s9 : ∀ xs, Same H (upd H9 D2 (NdO P w D2 xs)) := fun xs => same_put hN2 s8
      refine ⟨rfl, yesI ⟨_, rfl, D2, xe, _, kEd e, rfl, rfl, hW8, keyV_ch hch, kEd_depth e, small1000 ?_, fun xs hW9 => ⟨s9 xs, ?_, ?_, ?_⟩⟩⟩
      · unfold entE
        rw [List.length_map]
        have z := dd_len (allC (Ps.take i) ++ C.take j)
        rw [List.length_append, List.length_take] at z
        omega
      · exact sqT_upd hD8 (fun ys z => nomatch z) (fun ob ys z => nomatch z) hT8
      · exact hV8.imp fun _ _ z => sqT_upd hD8 (fun ys z => nomatch z) (fun ob ys z => nomatch z) z
      · rw [put_entE, ← dd_snoc, List.append_assoc, ← take_more he] at hW9
        exact hW9
    · rw [hcl, List.take_length, ← tk] at hW8
      exact ⟨s8, hW8⟩
  · rw [hlV, List.take_length] at hW5
    obtain ⟨nd, hmem⟩ := dd_facts (allC Ps)
    have hdl := dd_len (allC Ps)
    generalize dd (allC Ps) = S0 at *
    refine ⟨D2, entE S0, rfl, hW5.rd, fun d hd d' hd' => ?_, .inl fun d hd => ?_, fun k hk => ?_, fun lp bs ks hlp hads hperm hpw => ?_⟩
    · obtain ⟨k, hk, rfl⟩ := List.mem_map.mp hd
      obtain ⟨k', hk', rfl⟩ := List.mem_map.mp hd'
      obtain ⟨e, _, rfl⟩ := List.mem_map.mp hk
      obtain ⟨e', _, rfl⟩ := List.mem_map.mp hk'
      rw [kEd_data, kEd_data]
      exact alike_ch e e'
    · obtain ⟨k, hk, rfl⟩ := List.mem_map.mp hd
      obtain ⟨e, _, rfl⟩ := List.mem_map.mp hk
      rw [kEd_data]
      exact ⟨_, _, rfl⟩
    · obtain ⟨e, _, rfl⟩ := List.mem_map.mp hk
      rw [kEd_data]
      have := depth_marks e.ws
      simp only [chD, PyData.depth, PyData.depthAll]
      omega
    rw [entE_keys] at hperm
    obtain ⟨S, hpS, rfl⟩ := perm_back hperm
    have ndS : S.Nodup := hpS.nodup_iff.mpr nd
    have hmS : ∀ e, e ∈ S ↔ e ∈ allC Ps := fun e => by rw [hpS.mem_iff]; exact hmem e
    have hmP : ∀ e ∈ allC Ps, ∃ q ∈ Ps, e ∈ q.1 ∧ PtOk q.1 q.2 := fun e he => by
      obtain ⟨q, hq, he⟩ := List.mem_flatMap.mp he
      obtain ⟨i, hi⟩ := List.getElem?_of_mem hq
      have hip : i < pv0.length := by rw [hlV]; exact (List.getElem?_eq_some_iff.mp hi).1
      obtain ⟨q', hq', p, _, hpt⟩ := hR.get (List.getElem?_eq_getElem hip)
      rw [hi] at hq'
      cases hq'
      obtain ⟨_, _, _, _, _, _, ok⟩ := hpt
      exact ⟨q, hq, he, ok⟩
    have hBf : S.Pairwise Bf := sorted_bf hpw ndS (fun x hx => by
      obtain ⟨q, _, he, ok⟩ := hmP x ((hmS x).mp hx)
      exact (ok.ne he).1.1) fun x hx y hy => hgo x ((hmS x).mp hx) y ((hmS y).mp hy)
    have hSl := sub_len ndS fun x hx => (hmS x).mp hx
    have hpt : PtOk (asOne S) n := uni_ok (L := allC Ps) hBf (fun x hx => (hmS x).mp hx) (fun x hx => by
      obtain ⟨q, hq, he, ok⟩ := hmP x hx
      have z := ok.ne he
      exact ⟨z.1, Nat.le_trans z.2 (hmx.2 q hq), (ok.ok x he).mrk⟩) hn (by omega) (by omega)
    have s6 := Same.new hlp (.lst (bs.map V.ref))
    have hrel : RelL (ChV K (upd H5 lp (.lst (bs.map V.ref)))) (bs.map V.ref) S := RelL.imp (fun _ _ z => ChV.same s6 z) (keyAds_rel hads)
    have c6 : upd H5 lp (.lst (bs.map V.ref)) lp = some (.lst (bs.map V.ref)) := upd_same
    have s06 := s5.trans s6
    generalize upd H5 lp (.lst (bs.map V.ref)) = H6 at *
    refine ⟨_, rfl, lp, _, S, rfl, SqL.of c6, chs_rel.mpr hrel, by omega, by omega, fun H7 t7 cv s7 ht7 hcv => ?_⟩
    have s07 := s06.trans s7
    refine ⟨l, pv0, rfl, hS.same s07, fun J G wk hG D hD => ?_⟩
    refine lcM (K := K) (as := Ps) (fun q => some q.2) (fun H v q => PtV K CP H v q) (fun H v m => v = V.int (m : Nat)) wk (by omega) hG hD (RelL.imp (fun _ _ z => PtV.same s07 z) hR) (fun H' v a s z => PtV.same s z) (fun H2 H' v b f z => z) (fun x a H' Q' Rn ha hRx s kq kr => ?_) fun H8 ys s8 hL8 hys => ?_
    · obtain ⟨p, rfl, hpt⟩ := hRx
      obtain ⟨dx, t, cv, hp, _⟩ := id hpt
      exact ⟨rfl, yesI ⟨_, rfl, p, CP, dx, _, .int a.2, rfl, hp, EP.cl, EP.nL, rfl, kq _ a.2 _ rfl (Same.refl _) rfl⟩⟩
    have eys : ys = (Ps.map fun q => (q.2 : Int)).map V.int := by
      rw [List.filterMap_eq_map'] at hys
      have z : ∀ {ys : List V} {ms : List Nat}, RelL (fun v (m : Nat) => v = V.int (m : Nat)) ys ms → ys = ms.map fun m => V.int (m : Nat) := by
        intro ys
        induction ys with
        | nil => intro ms h; cases ms with
          | nil => rfl
          | cons _ _ => exact h.elim
        | cons v ys ih => intro ms h; cases ms with
          | nil => exact h.elim
          | cons m ms => rw [List.map_cons, ← ih h.2, h.1]
      rw [z hys, List.map_map, List.map_map]
      rfl
    subst eys
    refine ⟨D, Ps.map (fun q => (q.2 : Int)), 0, rfl, rfl, SqL.of hL8, fun M h1 h2 h3 => ?_⟩
    have hne : Ps.map (fun q => (q.2 : Int)) ≠ [] := fun z => by
      obtain ⟨q, hq, _⟩ := hmx.1
      rw [List.map_eq_nil_iff] at z
      rw [z] at hq
      cases hq
    have eM : M = (n : Int) := by
      obtain ⟨q, hq, eq⟩ := List.mem_map.mp (h2 hne)
      have := hmx.2 q hq
      obtain ⟨q2, hq2, eq2⟩ := hmx.1
      have := h3 (q2.2 : Int) (List.mem_map.mpr ⟨q2, hq2, rfl⟩)
      omega
    rw [eM]
    exact mk_pt (Q := fun x H2 => Q (.ref x) H2) (Same.tup s8 ht7) (hcv.imp fun _ _ z => Same.tup s8 z) hpt fun H9 x s9 fx q9 => q H9 x S (s07.trans (s8.trans s9)) (fresh_of (s07.trans s8) fx) hBf hmS q9
end
end P5

end
section
set_option Elab.async false
set_option linter.all false
set_option maxRecDepth 100000
set_option maxHeartbeats 4000000
/-! together -/
namespace P5
open PySem PySem.Spec PySem.SeqAt PySem.W PyProof.Rows L2 EN ND
theorem bf_go {e f : Ed} (h : Bf e f) : Go e f := .inr ⟨.inl h.1, fun z => by
  obtain ⟨h1, h2⟩ := h
  obtain ⟨z1, z2⟩ := z
  omega⟩
theorem Go.symm {e f : Ed} (h : Go e f) : Go f e := by
  rcases h with h | ⟨h, h2⟩
  · exact .inl h.symm
  · exact .inr ⟨h.symm, fun z => h2 ⟨z.1.symm, z.2.symm⟩⟩
theorem pw_go : ∀ {S : List Ed}, S.Pairwise Bf → ∀ x ∈ S, ∀ y ∈ S, Go x y
  | [], _, _, h, _, _ => by cases h
  | e :: S, hp, x, hx, y, hy => by
    rw [List.pairwise_cons] at hp
    rcases List.mem_cons.mp hx with a | a
    · rcases List.mem_cons.mp hy with b | b
      · exact .inl (a.trans b.symm)
      · rw [a]; exact bf_go (hp.1 y b)
    · rcases List.mem_cons.mp hy with b | b
      · rw [b]; exact (bf_go (hp.1 x a)).symm
      · exact pw_go hp.2 x a y b
theorem growC_le : ∀ C : List Ed, (∀ e ∈ C, e.a ≤ e.b) → growC C ≤ tot C
  | [], _ => Int.le_refl 0
  | e :: C, h => by
    have ih := growC_le C fun x hx => h x (List.mem_cons_of_mem _ hx)
    have he := h e List.mem_cons_self
    have e1 : growC (e :: C) = grow e + growC C := rfl
    have e2 : tot (e :: C) = e.ws.length + tot C := by unfold tot; rw [List.map_cons, List.sum_cons]
    have e3 : grow e = (e.ws.length : Int) - ((e.b : Int) - (e.a : Int)) := rfl
    omega
theorem PtOk.grow {C : List Ed} {m : Nat} (h : PtOk C m) : 0 ≤ (m : Int) + growC C := by
  have fin := h.fin
  have z := apC_len (l := List.replicate m ("" : Str)) h.apt (by rw [List.length_replicate]; omega)
  rw [List.length_replicate] at z
  omega
/-- the first pair of changes that do not go together -/
def FirstBad (C D : List Ed) (a b : Nat) : Prop :=
  ∃ e f, C[a]? = some e ∧ D[b]? = some f ∧ ¬ Go e f ∧ (∀ a' e', a' < a → C[a']? = some e' → ∀ f ∈ D, Go e' f) ∧ ∀ b' f', b' < b → D[b']? = some f' → Go e f'
section
variable {P : Program} {w : World} {K : PySem.W.Frag} {mg : Str → Option Value} {base : Heap} {aN aS CE CP CB CT CC : Addr}
theorem mk_cl {Q : Addr → Hp → Prop} {E : XK} {a b : Int} {H : Hp} (q : ∀ H' x, Same H H' → H x = none → ClH CC H' x a b → Q x H') :
    ∀ x dx, H x = none → H dx = none → dx ≠ x → spCIni CC (.ref x :: ([.int a, .int b] ++ [])) (upd (upd H dx (.own x)) x (.ins CC dx [])) (fun v H2 => v = .non ∧ Q x H2) E := by
  intro x dx hx hdx hne
  have s1 : Same H (upd (upd H dx (.own x)) x (.ins CC dx [])) := (Same.new hdx _).trans (Same.new (by rw [upd_ne (Ne.symm hne)]; exact hx) _)
  refine ⟨x, dx, a, b, rfl, upd_same, fun H' hB hE => ⟨rfl, q H' x (fun b o hb => hB _ _ (fun z => ?_) (s1 _ _ hb)) hx hE⟩⟩
  rw [z, hx] at hb
  cases hb
theorem mk_tg {Q : Addr → Hp → Prop} {E : XK} {a b c : Addr} {W U O : List Ed} {i j k : Nat} {H : Hp} (qa : PtH K CP H a W i) (qb : PtH K CP H b U j) (qc : PtH K CP H c O k) (q : ∀ H' x, Same H H' → H x = none → TgH K CP CT H' x W U O i j k → Q x H') :
    ∀ x dx, H x = none → H dx = none → dx ≠ x → spTIni K CP CT (.ref x :: ([.ref a, .ref b, .ref c] ++ [])) (upd (upd H dx (.own x)) x (.ins CT dx [])) (fun v H2 => v = .non ∧ Q x H2) E := by
  intro x dx hx hdx hne
  have s1 : Same H (upd (upd H dx (.own x)) x (.ins CT dx [])) := (Same.new hdx _).trans (Same.new (by rw [upd_ne (Ne.symm hne)]; exact hx) _)
  refine ⟨x, dx, a, b, c, W, U, O, i, j, k, rfl, upd_same, qa.same s1, qb.same s1, qc.same s1, fun H' hB hE => ⟨rfl, q H' x (fun b o hb => hB _ _ (fun z => ?_) (s1 _ _ hb)) hx hE⟩⟩
  rw [z, hx] at hb
  cases hb
abbrev sTo : Stmt := tp 33
abbrev NTo : List Str := ["one", "other", "number", "change", "place", "more"]
theorem scTo : FnScope NTo ["one", "other"] (defScope sTo) := ⟨rfl, rfl, rfl, by decide +kernel, rfl, by decide +kernel, by decide +kernel⟩
/-- small enough -/
structure Sml (C : List Ed) (m : Nat) : Prop where
  len : C.length ≤ 30
  tot : tot C ≤ 30
  least : m ≤ 60
def TgR (K : PySem.W.Frag) (CP CT : Addr) (H : Hp) (x : Addr) (C D : List Ed) (m k : Nat) : Prop := ∃ (S : List Ed) (i j : Nat), S.Pairwise Bf ∧ (∀ e, e ∈ S ↔ e ∈ C ∨ e ∈ D) ∧ (i : Int) = max m k + growC D ∧ (j : Int) = max m k + growC C ∧
  TgH K CP CT H x (asOne S) (asOne (rest0 D C)) (asOne (rest0 C D)) (max m k) i j
def spTo (K : PySem.W.Frag) (CP CT CC : Addr) : Sp := fun vs H Q _ => ∃ (p r : Addr) (C D : List Ed) (m k : Nat), vs = [.ref p, .ref r] ∧ PtH K CP H p C m ∧ PtH K CP H r D k ∧ Sml C m ∧ Sml D k ∧
  (∀ a b, FirstBad C D a b → ∀ H' x, Same H H' → H x = none → ClH CC H' x (a : Nat) (b : Nat) → Q (.ref x) H') ∧
  ((∀ e ∈ C, ∀ f ∈ D, Go e f) → ∀ H' x, Same H H' → H x = none → TgR K CP CT H' x C D m k → Q (.ref x) H')
theorem ok_to {f : Addr} {fd : FuncData} (F : Fun K "together" "together" sTo f fd) (B : BN mg) (EP : PC K CP) (Kp : Dk P w K mg base "check_patches" 1 ["patches"] (spChkP K CP))
    (Gt : Dk P w K mg base "go_together" 1 ["one", "other"] (spGoT K)) (Al : Dk P w K mg base "all_of" 12 ["patches"] (spAll K CP)) (Rb : Dk P w K mg base "rest_behind" 12 ["one", "other"] (spRb K CP))
    (MC : MkC P w K mg base "Clash" CC 1 ["self", "one", "other"] (spCIni CC)) (MT : MkC P w K mg base "Together" CT 8 NTIni (spTIni K CP CT)) : FnOk P w K mg base CX0 13 f fd ["one", "other"] (spTo K CP CT CC) := by
  refine F.ok scTo (fun vs H Q E h => ?_) (fun cdv A outer s H vs Q E hr h => ?_)
  · obtain ⟨_, _, _, _, _, _, rfl, _⟩ := h
    rfl
  obtain ⟨p, r, C, D, m, k, rfl, q1, q2, smC, smD, qc, qt⟩ := h
  obtain ⟨fK, fdK, GK, bK, kK, mK⟩ := Kp.ex
  obtain ⟨f1, fd1, G1, b1, k1, m1⟩ := Gt.ex
  obtain ⟨f2, fd2, G2, b2, k2, m2⟩ := Al.ex
  obtain ⟨f3, fd3, G3, b3, k3, m3⟩ := Rb.ex
  obtain ⟨fC, fdC, MIC, GC, bC⟩ := MC.ex
  obtain ⟨fT, fdT, MIT, GT, bT⟩ := MT.ex
  refine ⟨_, pss_cons (ps_expr (pe_call GK (hr.mono (by decide)) rfl mK kK bK .nil pass0 (pa_cons (pe_lst (pa_cons (pv 0) (pa_cons (pv 1) pa_nil))) pa_nil)))
    (pss_cons (ps_for PassesOwn.never rfl (pi_enumT rfl B.enum (pa_cons (pe_fld (pv 0) rfl) pa_nil)) (pg_tup rfl (pgs_cons (pg_name (i := 2) scTo.nd rfl (Or.inl rfl)) (pgs_cons (pg_name (i := 3) scTo.nd rfl (Or.inl rfl)) pgs_nil)))
      (pss_one (ps_for PassesOwn.never rfl (pi_enumT rfl B.enum (pa_cons (pe_fld (pv 1) rfl) pa_nil)) (pg_tup rfl (pgs_cons (pg_name (i := 4) scTo.nd rfl (Or.inl rfl)) (pgs_cons (pg_name (i := 5) scTo.nd rfl (Or.inl rfl)) pgs_nil)))
        (pss_one (ps_if (pt_not (pt_val (pe_call G1 (hr.mono (by decide)) rfl m1 k1 b1 .nil pass0 (pa_cons (pv 3) (pa_cons (pv 5) pa_nil)))))
          (pss_one (ps_ret (pe_make (E := E0) MIC GC (hr.mono (by decide)) rfl MC.m bC .nil pass0 (pa_cons (pv 2) (pa_cons (pv 4) pa_nil))))) pss_nil)))))
    (pss_one (ps_ret (pe_make (E := E0) MIT GT (hr.mono (by decide)) rfl MT.m bT .nil pass0 (pa_cons (pe_call G2 hr rfl m2 k2 b2 .nil pass0 (pa_cons (pe_lst (pa_cons (pv 0) (pa_cons (pv 1) pa_nil))) pa_nil))
      (pa_cons (pe_call G3 hr rfl m3 k3 b3 .nil pass0 (pa_cons (pv 0) (pa_cons (pv 1) pa_nil))) (pa_cons (pe_call G3 hr rfl m3 k3 b3 .nil pass0 (pa_cons (pv 1) (pa_cons (pv 0) pa_nil))) pa_nil))))))), ?_⟩
  obtain ⟨dx, t, vs, hp, hT, hV, hO⟩ := id q1
  obtain ⟨dx2, t2, vs2, hp2, hT2, hV2, hO2⟩ := id q2
  obtain ⟨lC, tC', mC'⟩ := smC
  obtain ⟨lD, tD', mD'⟩ := smD
  have hlV : vs.length = C.length := hV.len
  have hlV2 : vs2.length = D.length := hV2.len
  refine ⟨_, rfl, _, rfl, (by show 2 ≤ sizeLine; decide), fun l0 hl0 => ?_⟩
  have s0 := Same.new hl0 (.lst [.ref p, .ref r])
  have c0 : upd H l0 (.lst [.ref p, .ref r]) l0 = some (.lst [.ref p, .ref r]) := upd_same
  generalize upd H l0 (.lst [.ref p, .ref r]) = H0 at *
  refine ⟨l0, [p, r], rfl, SqL.of c0, fun z hz => ?_, by show 2 ≤ 100; decide, fun H1 s1 => ?_⟩
  · rcases List.mem_cons.mp hz with e | e
    · rw [e]; exact (q1.same s0).ins
    · rw [List.mem_singleton.mp e]; exact (q2.same s0).ins
  have s01 := s0.trans s1
  refine ⟨_, rfl, p, CP, dx, _, .ref t, rfl, s01 _ _ hp, EP.cl, EP.nC, rfl, t, _, rfl, Same.tup s01 hT, ?_⟩
  refine for_enT (xs := vs) (fun i σ H' => Same H H' ∧ (∃ v2 v3 v4 v5 : Option V, σ = [some (.ref p), some (.ref r), v2, v3, v4, v5]) ∧ ∀ a' e', a' < i → C[a']? = some e' → ∀ f ∈ D, Go e' f)
    ⟨s01, ⟨none, none, none, none, rfl⟩, fun a' _ h => absurd h (Nat.not_lt_zero _)⟩ (fun i σ H' _ ⟨s, _⟩ => Same.tup s hT) ?_ ?_
  · rintro i x σ H2 T hx hTn ⟨s2, ⟨v2, v3, v4, v5, rfl⟩, hgd⟩
    obtain ⟨e, he, hch⟩ := hV.get hx
    have sT := Same.new hTn (.tup [V.int (i : Nat), x])
    have cT : upd H2 T (.tup [V.int (i : Nat), x]) T = some (.tup [V.int (i : Nat), x]) := upd_same
    have s3 := s2.trans sT
    generalize upd H2 T (.tup [V.int (i : Nat), x]) = H3 at *
    refine ⟨T, _, rfl, SqT.of cT, rfl, _, _, rfl, _, _, rfl, rfl, ?_⟩
    refine ⟨_, rfl, r, CP, dx2, _, .ref t2, rfl, s3 _ _ hp2, EP.cl, EP.nC, rfl, t2, _, rfl, Same.tup s3 hT2, ?_⟩
    refine for_enT (xs := vs2) (fun j σ H' => Same H H' ∧ (∃ v4 v5 : Option V, σ = [some (.ref p), some (.ref r), some (.int (i : Nat)), some x, v4, v5]) ∧ ∀ b' f', b' < j → D[b']? = some f' → Go e f')
      ⟨s3, ⟨_, _, rfl⟩, fun a' _ h => absurd h (Nat.not_lt_zero _)⟩ (fun j σ H' _ ⟨s, _⟩ => Same.tup s hT2) ?_ ?_
    · rintro j y σ H4 T4 hy hTn4 ⟨s4, ⟨v4, v5, rfl⟩, hgd2⟩
      obtain ⟨g, hg, hcg⟩ := hV2.get hy
      have sT4 := Same.new hTn4 (.tup [V.int (j : Nat), y])
      have cT4 : upd H4 T4 (.tup [V.int (j : Nat), y]) T4 = some (.tup [V.int (j : Nat), y]) := upd_same
      have s5 := s4.trans sT4
      generalize upd H4 T4 (.tup [V.int (j : Nat), y]) = H5 at *
      refine ⟨T4, _, rfl, SqT.of cT4, rfl, _, _, rfl, _, _, rfl, rfl, ?_⟩
      refine ⟨_, rfl, _, rfl, x, y, e, g, rfl, ChV.same s5 hch, ChV.same s5 hcg, hO.ok e (List.mem_of_getElem? he), hO2.ok g (List.mem_of_getElem? hg), fun H6 s6 => ⟨_, rfl, ?_⟩⟩
      have s06 := s5.trans s6
      cases c : goB e g with
      | true =>
        refine iteFF rfl ⟨s06, ⟨_, _, rfl⟩, fun b' f' hb hf => ?_⟩
        by_cases z : b' = j
        · rw [z, hg] at hf
          cases hf
          exact goB_iff.mp c
        · exact hgd2 b' f' (by omega) hf
      | false =>
        have ng : ¬ Go e g := fun z => by rw [goB_iff.mpr z] at c; cases c
        refine iteTT rfl ⟨_, rfl, _, rfl, ?_⟩
        exact mk_cl (Q := fun x H2 => Q (.ref x) H2) fun H7 x7 s7 fx q7 => qc i j ⟨e, g, he, hg, ng, hgd, hgd2⟩ H7 x7 (s06.trans s7) (fresh_of s06 fx) q7
    · rintro σ H4 ⟨s4, ⟨v4, v5, rfl⟩, hgd2⟩
      refine ⟨s4, ⟨_, _, _, _, rfl⟩, fun a' e' ha he' f hf => ?_⟩
      by_cases z : a' = i
      · rw [z, he] at he'
        cases he'
        obtain ⟨b', hb'⟩ := List.getElem?_of_mem hf
        exact hgd2 b' f (by rw [hlV2]; exact (List.getElem?_eq_some_iff.mp hb').1) hb'
      · exact hgd a' e' (by omega) he' f hf
  · rintro σ H2 ⟨s2, ⟨v2, v3, v4, v5, rfl⟩, hgd⟩
    have hgo : ∀ e ∈ C, ∀ f ∈ D, Go e f := fun e he f hf => by
      obtain ⟨a', ha⟩ := List.getElem?_of_mem he
      exact hgd a' e (by rw [hlV]; exact (List.getElem?_eq_some_iff.mp ha).1) ha f hf
    have tg : Tg C D m k := ⟨hO, hO2, hgo⟩
    have gC := growC_le C fun x hx => (hO.ok x hx).le
    have gD := growC_le D fun x hx => (hO2.ok x hx).le
    have gC0 := hO.grow
    have gD0 := hO2.grow
    obtain ⟨j, hj⟩ : ∃ j : Nat, (j : Int) = max m k + growC C := ⟨((max m k : Nat) + growC C).toNat, by omega⟩
    obtain ⟨i, hi⟩ : ∃ i : Nat, (i : Int) = max m k + growC D := ⟨((max m k : Nat) + growC D).toNat, by omega⟩
    have hmemA : ∀ x, x ∈ allC [(C, m), (D, k)] ↔ x ∈ C ∨ x ∈ D := fun x => by simp [allC]
    have eA : allC [(C, m), (D, k)] = C ++ D := by simp [allC]
    refine ⟨_, rfl, _, rfl, (by show 2 ≤ sizeLine; decide), fun l1 hl1 => ?_⟩
    have s3 := Same.new hl1 (.lst [.ref p, .ref r])
    have c3 : upd H2 l1 (.lst [.ref p, .ref r]) l1 = some (.lst [.ref p, .ref r]) := upd_same
    have s03 := s2.trans s3
    generalize upd H2 l1 (.lst [.ref p, .ref r]) = H3 at *
    refine ⟨l1, [.ref p, .ref r], [(C, m), (D, k)], max m k, rfl, .inl (SqL.of c3), ⟨⟨p, rfl, q1.same s03⟩, ⟨r, rfl, q2.same s03⟩, trivial⟩, ⟨?_, fun q hq => ?_⟩, fun x hx y hy => ?_, by rw [eA, List.length_append]; omega, by rw [eA, tot_app]; omega, by omega, by show 2 ≤ 100; decide, fun H4 x4 S s4 fx4 hS hm hpt => ?_⟩
    · by_cases z : k ≤ m
      · exact ⟨(C, m), by simp, by show m = max m k; omega⟩
      · exact ⟨(D, k), by simp, by show k = max m k; omega⟩
    · rcases List.mem_cons.mp hq with z | z
      · rw [z]; show m ≤ max m k; omega
      · rw [List.mem_singleton.mp z]; show k ≤ max m k; omega
    · rcases (hmemA x).mp hx with a | a
      · rcases (hmemA y).mp hy with b | b
        · exact pw_go (apt_pw hO.apt) x a y b
        · exact hgo x a y b
      · rcases (hmemA y).mp hy with b | b
        · exact (hgo y b x a).symm
        · exact pw_go (apt_pw hO2.apt) x a y b
    have s04 := s03.trans s4
    refine ⟨_, rfl, _, rfl, p, r, D, C, k, m, i, rfl, q1.same s04, q2.same s04, tg.symm, by omega, by omega, by omega, by omega, fun H5 x5 s5 fx5 hp5 => ?_⟩
    have s05 := s04.trans s5
    refine ⟨_, rfl, _, rfl, r, p, C, D, m, k, j, rfl, q2.same s05, q1.same s05, tg, by omega, by omega, by omega, by omega, fun H6 x6 s6 fx6 hp6 => ?_⟩
    have s06 := s05.trans s6
    exact mk_tg (Q := fun x H2 => Q (.ref x) H2) (hpt.same (s5.trans s6)) (hp5.same s6) hp6 fun H7 x7 s7 fx q7 => qt hgo H7 x7 (s06.trans s7) (fresh_of s06 fx) ⟨S, i, j, hS, fun e => (hm e).trans (hmemA e), hi, hj, q7⟩
end
end P5

end
section
set_option Elab.async false
set_option linter.all false
set_option maxRecDepth 100000
set_option maxHeartbeats 4000000
/-! check_patches of any row, all_together -/
namespace P5
open PySem PySem.Spec PySem.SeqAt PySem.W PyProof.Rows L2 EN ND
theorem walk_enT {K : PySem.W.Frag} {a : Addr} {xs : List V} : Walk (IteT K a) xs.length (fun H => SqT K H a xs) (YPair (fun i => some (.int (i : Nat))) (fun i => xs[i]?)) := by
  refine ⟨fun i _ hi q => ⟨xs, xs[i], q, by simp [hi]⟩, fun _ q => ⟨xs, q, Nat.le_refl _⟩, fun i H v H' _ q y => ?_⟩
  obtain ⟨T, x, h1, h2, h3, h4⟩ := y
  exact ⟨T, .int (i : Nat), x, h1, h2, h3, rfl, h4 xs q⟩
/-- enumerate of a list or a tuple in a slot -/
def iEnV (K : PySem.W.Frag) (i : Nat) : TI := fun σ H R => ∃ (a : Addr) (xs : List V), σ[i]? = some (some (.ref a)) ∧ SqE K H a xs ∧ ∀ (J : It) (G : Hp → Prop), Walk J xs.length G (YPair (fun i => some (.int (i : Nat))) (fun i => xs[i]?)) → (∀ H', Same H H' → G H') → R J H
theorem pi_enV {X : Cx} {e : Expr} {i : Nat} {p pos tpos : Pos} {elts : List Expr} {kk : Nat} (hg : Gl X "enumerate") (hm : X.mg "enumerate" = none) (he : PE X e (tVar i)) (hs : starEach [e] X.env = [(false, eval e X.env)] := by rfl) :
    PI X (.Tuple elts kk tpos) (.Call (.Name "enumerate" p) [e] [] pos) (iEnV X.K i) :=
  pi_mono (pi_alt (pi_enum hg hm (pa_cons he pa_nil (hs := hs.trans rfl)) hs) (pi_enumT hg hm (pa_cons he pa_nil (hs := hs.trans rfl)) hs)) fun σ H R h => by
    obtain ⟨a, xs, h1, h2, h3⟩ := h
    rcases h2 with h2 | h2
    · exact .inl ⟨_, h1, a, xs, rfl, h2, h3 _ _ walk_enum fun H' s => s.seq h2⟩
    · exact .inr ⟨_, h1, a, xs, rfl, h2, h3 _ _ walk_enT fun H' s => Same.tup s h2⟩
theorem ix_alt {X : Cx} {r1 r2 : R2} (h1 : IxR X r1) (h2 : IxR X r2) : IxR X (fun x y H Q => r1 x y H Q ∨ r2 x y H Q) := by
  intro value slice pins s σ H x y v u Q I rx ry h hs
  rcases h with h | h
  · exact h1 value slice pins s σ H x y v u Q I rx ry h hs
  · exact h2 value slice pins s σ H x y v u Q I rx ry h hs
def rIxE (K : PySem.W.Frag) : R2 := fun x y H Q => rIxL K x y H Q ∨ rIxT K x y H Q
theorem ix_seq {X : Cx} : IxR X (rIxE X.K) := ix_alt ix_list ix_tup
theorem ixE_of {K : PySem.W.Frag} {H : Hp} {l : Addr} {xs : List V} {i : Nat} {v : V} {Q : VK} (hS : SqE K H l xs) (hv : xs[i]? = some v) (q : Q v H) : rIxE K (.ref l) (.int (i : Nat)) H Q := by
  have ha : atI xs (i : Nat) = some v := by
    have hi : i < xs.length := (List.getElem?_eq_some_iff.mp hv).1
    unfold atI ixN
    rw [if_pos (by omega : (0 : Int) ≤ (i : Nat)), if_pos (by omega : ((i : Nat) : Int) < (xs.length : Int))]
    show xs[((i : Nat) : Int).toNat]? = some v
    rw [Int.toNat_natCast]
    exact hv
  rcases hS with hS | hS
  · exact .inl ⟨l, xs, _, v, rfl, rfl, hS, ha, q⟩
  · exact .inr ⟨l, xs, _, v, rfl, rfl, hS, ha, q⟩
def AllGo (C D : List Ed) : Prop := ∀ e ∈ C, ∀ f ∈ D, Go e f
/-- the first two patches that clash -/
def FirstClash (Ps : List (List Ed × Nat)) (b a : Nat) : Prop :=
  ∃ q q', Ps[b]? = some q ∧ Ps[a]? = some q' ∧ b < a ∧ ¬ AllGo q.1 q'.1 ∧ (∀ a' b' p p', a' < a → b' < a' → Ps[b']? = some p → Ps[a']? = some p' → AllGo p.1 p'.1) ∧ ∀ b' p, b' < b → Ps[b']? = some p → AllGo p.1 q'.1
section
variable {P : Program} {w : World} {K : PySem.W.Frag} {mg : Str → Option Value} {base : Heap} {aN aS CE CP CB CT CC : Addr}
def spChkS (K : PySem.W.Frag) (CP : Addr) : Sp := fun vs H Q _ => ∃ (l : Addr) (pv : List V) (Ps : List (List Ed × Nat)), vs = [.ref l] ∧ SqE K H l pv ∧ RelL (PtV K CP H) pv Ps ∧ Ps.length ≤ 100 ∧ ∀ H', Same H H' → Q .non H'
theorem ok_chkS {f : Addr} {fd : FuncData} (F : Fun K "check_patches" "check_patches" sChkP f fd) (B : BN mg) (EP : PC K CP) (R : RIn K mg "Patch" CP) : FnOk P w K mg base CX0 1 f fd ["patches"] (spChkS K CP) := by
  refine F.ok scChkP (fun vs H Q E h => ?_) (fun cdv A outer s H vs Q E hr h => ?_)
  · obtain ⟨_, _, _, rfl, _⟩ := h
    rfl
  obtain ⟨l, pv0, Ps, rfl, hS, hR, hl, q⟩ := h
  refine ⟨_, pss_one (ps_if (pt_not (pt_val (pe_callB (cr_all rfl) rfl B.all (by decide +kernel) (pa_cons (pe_lc (own := [("told", 1)]) (g := gName 1) rfl scChkP.nd (pi_seqV (pv 0))
      (blkOk_by (N := ["patches", "told"]) (sc := defScope sChkP) (by decide +kernel)) (fun _ _ _ _ _ => pg_name (i := 1) scChkP.nd rfl (Or.inl rfl)) (fun _ _ _ _ _ => pts_nil)
      (fun _ _ _ _ _ => pe_callB (id := "isinstance") (r := rIsi K) call_isi rfl B.isi (by decide +kernel) (pa_cons (pv 1) (pa_cons (pgl R.g) pa_nil)))) pa_nil)))) (pss_one ps_never) pss_nil), ?_⟩
  have hlV : pv0.length = Ps.length := hR.len
  refine ⟨l, pv0, rfl, hS, fun J G wk hG D hD => lcM (K := K) (as := Ps) (fun _ => some ()) (fun H v q => PtV K CP H v q) (fun H v _ => v = V.bl true) wk (by omega) hG hD hR (fun H' v a s z => PtV.same s z) (fun H2 H' v b f z => z) (fun x a H' Q' Rn ha hRx s kq kr => ?_) fun H1 ys s1 hL hys => ?_⟩
  · obtain ⟨p, rfl, hpt⟩ := hRx
    obtain ⟨dx, t, cv, hp, _⟩ := id hpt
    exact ⟨rfl, yesI ⟨_, rfl, .ref p, .ref CP, .ref CP, .ref CP, true, rfl, .own _, .base (.ins hp EP.cl R.ha R.hn R.ht R.hm), R.kit, kq _ () _ rfl (Same.refl _) rfl⟩⟩
  · have eys : ∀ {ys : List V} {us : List Unit}, RelL (fun v (_ : Unit) => v = V.bl true) ys us → ys = (List.replicate ys.length true).map V.bl := by
      intro ys
      induction ys with
      | nil => intro us _; rfl
      | cons v ys ih => intro us h; cases us with
        | nil => exact h.elim
        | cons u us =>
          rw [List.length_cons, List.replicate_succ, List.map_cons, ← ih h.2, h.1]
    rw [eys hys] at hL
    refine ⟨D, _, rfl, SqL.of hL, _, rfl, ?_⟩
    rw [show (List.replicate ys.length true).all id = true from by
      rw [List.all_eq_true]
      intro b hb
      exact List.eq_of_mem_replicate hb]
    exact iteF (q H1 s1)
end
end P5

end
section
set_option Elab.async false
set_option linter.all false
set_option maxRecDepth 100000
set_option maxHeartbeats 4000000
/-! all_together -/
namespace P5
open PySem PySem.Spec PySem.SeqAt PySem.W PyProof.Rows L2 EN ND
section
variable {P : Program} {w : World} {K : PySem.W.Frag} {mg : Str → Option Value} {base : Heap} {aN aS CE CP CB CT CC : Addr}
abbrev sAt : Stmt := tp 38
abbrev NAt : List Str := ["patches", "number", "told", "before"]
theorem scAt : FnScope NAt ["patches"] (defScope sAt) := ⟨rfl, rfl, rfl, by decide +kernel, rfl, by decide +kernel, by decide +kernel⟩
/-- what together gives, told true or false -/
def rTo (K : PySem.W.Frag) (CT CC : Addr) : V → Hp → (Bool → Hp → Prop) → Prop := fun x H Q => (∃ (a : Addr), x = .ref a ∧ InsI H a CT ∧ spYes true [.ref a] H (fun v H' => ∃ b, v = .bl b ∧ Q b H') (fun _ _ _ => False)) ∨ ∃ (a : Addr), x = .ref a ∧ InsI H a CC ∧ spYes false [.ref a] H (fun v H' => ∃ b, v = .bl b ∧ Q b H') (fun _ _ _ => False)
theorem tru_to {X : Cx} (BT : MtK X.prog X.w X.K X.mg X.base CT 1 "__bool__" ["self"] (spYes true)) (BC : MtK X.prog X.w X.K X.mg X.base CC 1 "__bool__" ["self"] (spYes false)) (hr : Room 1 X.A) : TruR X (rTo X.K CT CC) := by
  obtain ⟨f1, fd1, M1, G1, b1⟩ := BT.ex
  obtain ⟨f2, fd2, M2, G2, b2⟩ := BC.ex
  exact tru_alt (tru_ins M1.at_ M1.fn G1 b1 hr) (tru_ins M2.at_ M2.fn G2 b2 hr)
def spAt (K : PySem.W.Frag) (CP : Addr) : Sp := fun vs H Q _ => ∃ (l : Addr) (pv : List V) (Ps : List (List Ed × Nat)) (n : Nat), vs = [.ref l] ∧ SqE K H l pv ∧ RelL (PtV K CP H) pv Ps ∧ MaxOf Ps n ∧ (∀ q ∈ Ps, Sml q.1 q.2) ∧
  (allC Ps).length ≤ 100 ∧ tot (allC Ps) ≤ 100 ∧ n ≤ 200 ∧ Ps.length ≤ 100 ∧
  (∀ b a, FirstClash Ps b a → ∀ H' t, Same H H' → H t = none → H' t = some (.tup [.int (b : Nat), .int (a : Nat)]) → Q (.ref t) H') ∧
  ((∀ (a' b' : Nat) (p p' : List Ed × Nat), b' < a' → Ps[b']? = some p → Ps[a']? = some p' → AllGo p.1 p'.1) → ∀ H' x S, Same H H' → H x = none → S.Pairwise Bf → (∀ e, e ∈ S ↔ e ∈ allC Ps) → PtH K CP H' x (asOne S) n → Q (.ref x) H')
theorem ok_at {f : Addr} {fd : FuncData} (F : Fun K "all_together" "all_together" sAt f fd) (B : BN mg) (mR : mg "range" = none) (EP : PC K CP) (Kp : Dk P w K mg base "check_patches" 1 ["patches"] (spChkS K CP))
    (Tg : Dk P w K mg base "together" 13 ["one", "other"] (spTo K CP CT CC)) (Al : Dk P w K mg base "all_of" 12 ["patches"] (spAll K CP)) (BT : MtK P w K mg base CT 1 "__bool__" ["self"] (spYes true)) (BC : MtK P w K mg base CC 1 "__bool__" ["self"] (spYes false)) : FnOk P w K mg base CX0 14 f fd ["patches"] (spAt K CP) := by
  refine F.ok scAt (fun vs H Q E h => ?_) (fun cdv A outer s H vs Q E hr h => ?_)
  · obtain ⟨_, _, _, _, rfl, _⟩ := h
    rfl
  obtain ⟨l, pv0, Ps, n, rfl, hS, hR, hmx, hsm, hl, ht, hn, hPl, qc, qt⟩ := h
  obtain ⟨fK, fdK, GK, bK, kK, mK⟩ := Kp.ex
  obtain ⟨f1, fd1, G1, b1, k1, m1⟩ := Tg.ex
  obtain ⟨f2, fd2, G2, b2, k2, m2⟩ := Al.ex
  refine ⟨_, pss_cons (ps_if (pt_not (pt_val (pe_callB call_isiT rfl B.isi (by decide +kernel) (pa_cons (pv 0) (pa_cons (pe_tup (pa_cons (pe_lstT B.lst) (pa_cons (pe_tupT B.tup) pa_nil))) pa_nil))))) (pss_one ps_never) pss_nil)
    (pss_cons (ps_expr (pe_call GK (hr.mono (by decide)) rfl mK kK bK .nil pass0 (pa_cons (pv 0) pa_nil)))
    (pss_cons (ps_for PassesOwn.never rfl (pi_enV rfl B.enum (pv 0)) (pg_tup rfl (pgs_cons (pg_name (i := 1) scAt.nd rfl (Or.inl rfl)) (pgs_cons (pg_name (i := 2) scAt.nd rfl (Or.inl rfl)) pgs_nil)))
      (pss_one (ps_for PassesOwn.never rfl (pi_range1 rfl mR (pa_cons (pv 1) pa_nil)) (pg_name (i := 3) scAt.nd rfl (Or.inl rfl))
        (pss_one (ps_if (pt_not (pt_truthR (r := rTo K CT CC) (pe_call G1 hr rfl m1 k1 b1 .nil pass0 (pa_cons (pe_ix (r := rIxE K) ix_seq (pv 0) (pv 3) (fun _ _ => rfl)) (pa_cons (pv 2) pa_nil))) (tru_to BT BC (hr.mono (by decide))) (by intro _; rfl)))
          (pss_one (ps_ret (pe_tup (pa_cons (pv 3) (pa_cons (pv 1) pa_nil))))) pss_nil)))))
    (pss_one (ps_ret (pe_call G2 (hr.mono (by decide)) rfl m2 k2 b2 .nil pass0 (pa_cons (pv 0) pa_nil)))))), ?_⟩
  have hlV : pv0.length = Ps.length := hR.len
  have hpok : ∀ {i : Nat} {q : List Ed × Nat}, Ps[i]? = some q → ∃ p, pv0[i]? = some (.ref p) ∧ PtH K CP H p q.1 q.2 := fun {i q} hq => by
    have hip : i < pv0.length := by rw [hlV]; exact (List.getElem?_eq_some_iff.mp hq).1
    obtain ⟨q', hq', p, ep, hpt⟩ := hR.get (List.getElem?_eq_getElem hip)
    rw [hq] at hq'
    cases hq'
    exact ⟨p, by rw [List.getElem?_eq_getElem hip, ep], hpt⟩
  refine ⟨_, rfl, (by show 2 ≤ sizeLine; decide), fun tt htt => ?_⟩
  have s1 := Same.new htt (.tup [.ty "list", .ty "tuple"])
  have hS1 := hS.same s1
  have hty : ∃ tn : String, TyX K (upd H tt (.tup [.ty "list", .ty "tuple"])) (.ref l) (.type tn) ∧ PySem.W.kitAny K (.type tn) [.type "list", .type "tuple"] = some true := by
    rcases hS1 with hS1 | hS1
    · exact ⟨"list", sqL_ty hS1, kitAny_cons (b := true) (kit_ty (by decide +kernel)) (fun z => nomatch z) (fun _ => rfl)⟩
    · exact ⟨"tuple", sqT_ty hS1, kitAny_cons (b := false) (kit_ty (by decide +kernel)) (fun _ => kitAny_cons (b := true) (kit_ty (by decide +kernel)) (fun z => nomatch z) (fun _ => rfl)) (fun z => nomatch z)⟩
  obtain ⟨tn, hty1, hty2⟩ := hty
  refine ⟨.ref l, tt, [.ty "list", .ty "tuple"], .type tn, [.type "list", .type "tuple"], true, rfl, upd_same, .cons (.ty _) (.cons (.ty _) .nil), hty1, hty2, _, rfl, iteF ?_⟩
  generalize upd H tt (.tup [.ty "list", .ty "tuple"]) = H1 at *
  refine ⟨_, rfl, l, pv0, Ps, rfl, hS1, RelL.imp (fun _ _ z => PtV.same s1 z) hR, hPl, fun H2 s2 => ?_⟩
  have s02 := s1.trans s2
  refine ⟨l, pv0, rfl, hS.same s02, fun J G wk hG => ?_⟩
  refine for_it wk (fun i σ H' => Same H H' ∧ Same H2 H' ∧ (∃ v1 v2 v3 : Option V, σ = [some (.ref l), v1, v2, v3]) ∧ ∀ a' b' p p', a' < i → b' < a' → Ps[b']? = some p → Ps[a']? = some p' → AllGo p.1 p'.1)
    ⟨s02, Same.refl _, ⟨none, none, none, rfl⟩, fun a' _ _ _ h => absurd h (Nat.not_lt_zero _)⟩ (fun i σ H' _ ⟨_, s, _⟩ => hG H' s) ?_ ?_
  · rintro i x σ H3 H4 hi ⟨s3, s23, ⟨v1, v2, v3, rfl⟩, hgd⟩ ⟨T, x1, x2, rfl, hT, rfl, h1, h2⟩
    cases h1
    replace h2 : pv0[i]? = some x2 := h2
    obtain ⟨⟨D, k⟩, hD, r, rfl, hptD⟩ := hR.get h2
    have sT := Same.new hT (.tup [V.int (i : Nat), .ref r])
    have cT : upd H3 T (.tup [V.int (i : Nat), .ref r]) T = some (.tup [V.int (i : Nat), .ref r]) := upd_same
    have s4 := s3.trans sT
    have s24 := s23.trans sT
    generalize upd H3 T (.tup [V.int (i : Nat), .ref r]) = H4 at *
    refine ⟨T, _, rfl, SqT.of cT, rfl, _, _, rfl, _, _, rfl, rfl, ?_⟩
    refine ⟨_, rfl, _, rfl, by omega, by omega, ?_⟩
    refine for_range (n := ((i : Nat) : Int).toNat) (fun j σ H' => Same H H' ∧ Same H2 H' ∧ (∃ v3 : Option V, σ = [some (.ref l), some (.int (i : Nat)), some (.ref r), v3]) ∧ ∀ b' p, b' < j → Ps[b']? = some p → AllGo p.1 D)
      ⟨s4, s24, ⟨_, rfl⟩, fun b' _ h => absurd h (Nat.not_lt_zero _)⟩ ?_ ?_
    · rintro j σ H5 hj ⟨s5, s25, ⟨v3, rfl⟩, hgd2⟩
      rw [Int.toNat_natCast] at hj
      have hjP : j < Ps.length := by omega
      obtain ⟨⟨C, m⟩, hC⟩ : ∃ q, Ps[j]? = some q := ⟨_, List.getElem?_eq_getElem hjP⟩
      obtain ⟨p, hp, hptC⟩ := hpok hC
      have ej : (0 : Int) + (j : Nat) = ((j : Nat) : Int) := by omega
      rw [ej]
      refine ⟨_, rfl, _, rfl, ixE_of (hS.same s5) hp ?_⟩
      have smC := hsm _ (List.mem_of_getElem? hC)
      have smD := hsm _ (List.mem_of_getElem? hD)
      refine ⟨_, rfl, p, r, C, D, m, k, rfl, hptC.same s5, hptD.same s5, smC, smD, fun a b hfb H6 x6 s6 fx hcl => ?_, fun hgo H6 x6 s6 fx htg => ?_⟩
      · have ng : ¬ AllGo C D := fun z => by
          obtain ⟨e, f, he, hf, hn, _⟩ := hfb
          exact hn (z e (List.mem_of_getElem? he) f (List.mem_of_getElem? hf))
        refine .inr ⟨x6, rfl, hcl.ins, x6, rfl, _, rfl, iteTT rfl ?_⟩
        refine ⟨_, rfl, _, rfl, by show 2 ≤ sizeLine; decide, fun t6 ht6 => ?_⟩
        have s06 := s5.trans s6
        exact qc j i ⟨(C, m), (D, k), hC, hD, hj, ng, hgd, hgd2⟩ _ t6 (s06.trans (Same.new ht6 _)) (fresh_of s06 ht6) upd_same
      · obtain ⟨S, i1, j1, _, _, _, _, hh⟩ := htg
        refine .inl ⟨x6, rfl, hh.ins, x6, rfl, _, rfl, iteFF rfl ?_⟩
        refine ⟨s5.trans s6, s25.trans s6, ⟨_, rfl⟩, fun b' p' hb hp' => ?_⟩
        by_cases z : b' = j
        · rw [z, hC] at hp'
          cases hp'
          exact hgo
        · exact hgd2 b' p' (by omega) hp'
    · rintro σ H5 ⟨s5, s25, ⟨v3, rfl⟩, hgd2⟩
      rw [Int.toNat_natCast] at hgd2
      refine ⟨s5, s25, ⟨_, _, _, rfl⟩, fun a' b' p p' ha hb hp hp' => ?_⟩
      by_cases z : a' = i
      · rw [z, hD] at hp'
        cases hp'
        exact hgd2 b' p (by omega) hp
      · exact hgd a' b' p p' (by omega) hb hp hp'
  · rintro σ H3 ⟨s3, s23, ⟨v1, v2, v3, rfl⟩, hgd⟩
    have hall : ∀ (a' b' : Nat) (p p' : List Ed × Nat), b' < a' → Ps[b']? = some p → Ps[a']? = some p' → AllGo p.1 p'.1 := fun a' b' p p' hb hp hp' => hgd a' b' p p' (by rw [hlV]; exact (List.getElem?_eq_some_iff.mp hp').1) hb hp hp'
    refine ⟨_, rfl, l, pv0, Ps, n, rfl, hS.same s3, RelL.imp (fun _ _ z => PtV.same s3 z) hR, hmx, fun x hx y hy => ?_, hl, ht, hn, hPl, fun H4 x4 S s4 fx hBf hm hpt => qt hall H4 x4 S (s3.trans s4) (fresh_of s3 fx) hBf hm hpt⟩
    obtain ⟨q, hq, hx⟩ := List.mem_flatMap.mp hx
    obtain ⟨q', hq', hy⟩ := List.mem_flatMap.mp hy
    obtain ⟨i, hi⟩ := List.getElem?_of_mem hq
    obtain ⟨j, hj⟩ := List.getElem?_of_mem hq'
    rcases Nat.lt_trichotomy i j with z | z | z
    · exact hall j i q q' z hi hj x hx y hy
    · rw [z, hj] at hi
      cases hi
      obtain ⟨p, _, dx, t, vs, _, _, _, hO⟩ := hpok hj
      exact pw_go (apt_pw hO.apt) x hx y hy
    · exact (hall i j q' q z hj hi y hy x hx).symm
end
end P5

end
section
set_option Elab.async false
set_option linter.all false
set_option maxRecDepth 100000
set_option maxHeartbeats 4000000
/-! carried, _law_fit -/
namespace P5
open PySem PySem.Spec PySem.SeqAt PySem.W PyProof.Rows L2 EN ND
section
variable {P : Program} {w : World} {K : PySem.W.Frag} {mg : Str → Option Value} {base : Heap} {aN aS CE CP CB CT CC : Addr}
abbrev sCar : Stmt := tp 18
theorem scCar : FnScope ["one", "other"] ["one", "other"] (defScope sCar) := ⟨rfl, rfl, rfl, by decide +kernel, rfl, by decide +kernel, by decide +kernel⟩
/-- an edit behind another one -/
def carE (e f e2 : Ed) : Prop := (e2.a : Int) = e.a + (if f.b ≤ e.a then grow f else 0) ∧ (e2.b : Int) = e.b + (if f.b ≤ e.a then grow f else 0) ∧ e2.ws = e.ws
def spCar (K : PySem.W.Frag) (CE : Addr) : Sp := fun vs H Q _ => ∃ (p r : Addr) (e f e2 : Ed), vs = [.ref p, .ref r] ∧ EdH K CE H p e ∧ EdH K CE H r f ∧ carE e f e2 ∧ e2.Ok ∧ (f.b ≤ e.a ∨ e.b ≤ f.a) ∧
  ∀ H' x, Same H H' → H x = none → EdH K CE H' x e2 → Q (.ref x) H'
theorem ok_car {f : Addr} {fd : FuncData} (F : Fun K "carried" "carried" sCar f fd) (EE : EC K CE) {fA : Addr} {fdA : FuncData} {kA : Nat} (D : AddK K CE fA) (GA : FnOk P w K mg base CX0 kA fA fdA ["self", "other"] (spAddM K CE)) (bA : Binds K fdA ["self", "other"] []) (hkA : kA ≤ 10)
    (G : MtK P w K mg base CE 1 "growth" ["self"] (spGrow K CE)) : FnOk P w K mg base CX0 12 f fd ["one", "other"] (spCar K CE) := by
  refine F.ok scCar (fun vs H Q E h => ?_) (fun cdv A outer s H vs Q E hr h => ?_)
  · obtain ⟨_, _, _, _, _, rfl, _⟩ := h
    rfl
  obtain ⟨p, r, e, g, e2, rfl, he, hg, hc, h2, hor, q⟩ := h
  obtain ⟨fG, fdG, MG, GG, bG⟩ := G.ex
  refine ⟨_, pss_cons (ps_if (pt_cmpR op_ge (pe_fld (pv 0) rfl) (pe_fld (pv 1) rfl) (nomark _)) (pss_one (ps_ret (pe_op (op_addI D GA bA (hr.mono (by omega))) (pv 0) (pe_meth0 (pv 1) EE.cl MG GG (hr.mono (by decide)) bG .nil pass0)))) pss_nil)
    (pss_one (ps_ret (pe_ifExp (pt_cmpR op_le (pe_fld (pv 0) rfl) (pe_fld (pv 1) rfl) (nomark _)) (pe_op (op_addI D GA bA (hr.mono (by omega))) (pv 0) pe_int) pe_non))), ?_⟩
  obtain ⟨dx, t, hp, ht, oe⟩ := id he
  obtain ⟨dx2, t2, hp2, ht2, og⟩ := id hg
  obtain ⟨c1, c2, c3⟩ := hc
  refine ⟨_, rfl, p, CE, dx, _, .int e.a, rfl, hp, EE.cl, EE.nF, rfl, _, rfl, r, CE, dx2, _, .int g.b, rfl, hp2, EE.cl, EE.nL, rfl, _, _, rfl, rfl, _, rfl, ?_⟩
  by_cases z : g.b ≤ e.a
  · rw [if_pos z] at c1 c2
    refine iteTT (decide_eq_true (by omega)) ?_
    exact ⟨_, rfl, _, rfl, r, dx2, _, rfl, hp2, rfl, r, g, rfl, hg, p, grow g, rfl, rfl, ⟨dx, _, hp⟩, p, grow g, e, e2, rfl, he, c1, c2, c3, h2, fun H' x s fx hx => ⟨x, rfl, q H' x s fx hx⟩⟩
  · rw [if_neg z] at c1 c2
    refine iteFF (decide_eq_false (by omega)) ?_
    refine ⟨_, rfl, p, CE, dx, _, .int e.b, rfl, hp, EE.cl, EE.nL, rfl, _, rfl, r, CE, dx2, _, .int g.a, rfl, hp2, EE.cl, EE.nF, rfl, _, _, rfl, rfl, _, rfl, iteTT (decide_eq_true (by omega)) ?_⟩
    exact ⟨_, rfl, p, 0, rfl, rfl, ⟨dx, _, hp⟩, p, 0, e, e2, rfl, he, c1, c2, c3, h2, fun H' x s fx hx => ⟨x, rfl, q H' x s fx hx⟩⟩
abbrev sFitL : Stmt := tp 47
theorem scFitL : FnScope ["one", "other"] ["one", "other"] (defScope sFitL) := ⟨rfl, rfl, rfl, by decide +kernel, rfl, by decide +kernel, by decide +kernel⟩
def spFitL (K : PySem.W.Frag) : Sp := fun vs H Q _ => ∃ (v u : V) (e f : Ed), vs = [v, u] ∧ ChV K H v e ∧ ChV K H u f ∧ e.Ok ∧ f.Ok ∧ Q (.bl (goB e f)) H
theorem ok_fitL {f : Addr} {fd : FuncData} (F : Fun K "_law_fit" "_law_fit" sFitL f fd) : FnOk P w K mg base CX0 1 f fd ["one", "other"] (spFitL K) := by
  refine F.ok scFitL (fun vs H Q E h => ?_) (fun cdv A outer s H vs Q E hr h => ?_)
  · obtain ⟨_, _, _, _, rfl, _⟩ := h
    rfl
  obtain ⟨v, u, e, g, rfl, he, hg, oe, og, q⟩ := h
  obtain ⟨a, t, rfl, ha, ht⟩ := id he
  obtain ⟨b, r, rfl, hb, hr2⟩ := id hg
  rw [← fit_go oe.le og.le] at q
  unfold fitE at q
  refine ⟨_, pss_cons (ps_if (pt_cmpR (op_eqD (hu64 hr)) (pv 0) (pv 1) (nomark _)) (pss_one (ps_ret pe_bl)) pss_nil)
    (pss_cons (ps_if (PW.pt (pw_and (pt_cmpR op_eq (pe_ix (r := rIxT K) ix_tup (pv 0) pe_int (fun _ _ => rfl)) (pe_ix (r := rIxT K) ix_tup (pv 0) pe_int (fun _ _ => rfl)) (nomark _)) (pw_and1 (pt_cmpR op_eq (pe_ix (r := rIxT K) ix_tup (pv 1) pe_int (fun _ _ => rfl)) (pe_ix (r := rIxT K) ix_tup (pv 1) pe_int (fun _ _ => rfl)) (nomark _)))))
      (pss_one (ps_ret (pe_cmpR op_ne (pe_ix (r := rIxT K) ix_tup (pv 0) pe_int (fun _ _ => rfl)) (pe_ix (r := rIxT K) ix_tup (pv 1) pe_int (fun _ _ => rfl)) (nomark _)))) pss_nil)
    (pss_one (ps_ret (pe_or (pe_cmpR op_le (pe_ix (r := rIxT K) ix_tup (pv 0) pe_int (fun _ _ => rfl)) (pe_ix (r := rIxT K) ix_tup (pv 1) pe_int (fun _ _ => rfl)) (nomark _)) (pe_one (pe_cmpR op_le (pe_ix (r := rIxT K) ix_tup (pv 1) pe_int (fun _ _ => rfl)) (pe_ix (r := rIxT K) ix_tup (pv 0) pe_int (fun _ _ => rfl)) (nomark _))))))), ?_⟩
  have ei : ∀ (x y : Nat), decide (V.int (x : Nat) = V.int (y : Nat)) = decide (x = y) := fun x y => decide_eq_decide.mpr ⟨fun z => by have := V.int.inj z; omega, fun z => by rw [z]⟩
  refine ⟨_, rfl, _, rfl, chD e, chD g, dp_ch he, dp_ch hg, shaped_ch oe.mrk, shaped_ch og.mrk, _, rfl, ?_⟩
  rw [eqv_ch]
  by_cases c : e = g
  · refine iteTT (decide_eq_true c) ?_
    rw [decide_eq_true c, Bool.true_or] at q
    exact q
  refine iteFF (decide_eq_false c) ?_
  rw [decide_eq_false c, Bool.false_or] at q
  have last : (e.a = e.b ∧ g.a = g.b) = False → tOrV (tOp (rI0 fun i j => .bl (decide (i ≤ j))) (tOp (rIxT K) (tVar 0) (tC (.int 1))) (tOp (rIxT K) (tVar 1) (tC (.int 0)))) (tOp (rI0 fun i j => .bl (decide (i ≤ j))) (tOp (rIxT K) (tVar 1) (tC (.int 1))) (tOp (rIxT K) (tVar 0) (tC (.int 0)))) (L2.start ["one", "other"] [.ref a, .ref b]) H Q := fun hn => by
    have e1 : (decide (e.a = e.b) && decide (g.a = g.b)) = false := by
      rw [Bool.and_eq_false_iff, decide_eq_false_iff_not, decide_eq_false_iff_not]
      by_cases z : e.a = e.b
      · exact .inr fun y => by rw [← hn]; exact ⟨z, y⟩
      · exact .inl z
    rw [e1, if_neg Bool.false_ne_true] at q
    refine ⟨_, rfl, a, _, 1, .int e.b, rfl, rfl, ha, rfl, _, rfl, b, _, 0, .int g.a, rfl, rfl, hb, rfl, _, _, rfl, rfl, _, rfl, ?_⟩
    by_cases d : e.b ≤ g.a
    · refine iteTT (decide_eq_true (by omega)) ?_
      rw [decide_eq_true d, Bool.true_or] at q
      exact q
    · refine iteFF (decide_eq_false (by omega)) ?_
      rw [decide_eq_false d, Bool.false_or] at q
      refine ⟨_, rfl, b, _, 1, .int g.b, rfl, rfl, hb, rfl, _, rfl, a, _, 0, .int e.a, rfl, rfl, ha, rfl, _, _, rfl, rfl, ?_⟩
      show Q (.bl (decide ((g.b : Int) ≤ e.a))) H
      rw [show decide ((g.b : Int) ≤ e.a) = decide (g.b ≤ e.a) from decide_eq_decide.mpr (by omega)]
      exact q
  refine ⟨_, rfl, a, _, 0, .int e.a, rfl, rfl, ha, rfl, _, rfl, a, _, 1, .int e.b, rfl, rfl, ha, rfl, rfl, _, rfl, ?_⟩
  by_cases d1 : e.a = e.b
  · refine iteTT ((ei _ _).trans (decide_eq_true d1)) ?_
    refine ⟨_, rfl, b, _, 0, .int g.a, rfl, rfl, hb, rfl, _, rfl, b, _, 1, .int g.b, rfl, rfl, hb, rfl, rfl, _, rfl, ?_⟩
    by_cases d2 : g.a = g.b
    · refine iteTT ((ei _ _).trans (decide_eq_true d2)) ?_
      rw [decide_eq_true d1, decide_eq_true d2, Bool.and_self, if_pos rfl] at q
      refine ⟨_, rfl, a, _, 0, .int e.a, rfl, rfl, ha, rfl, _, rfl, b, _, 0, .int g.a, rfl, rfl, hb, rfl, rfl, ?_⟩
      show Q (.bl (!decide (V.int (e.a : Nat) = V.int (g.a : Nat)))) H
      rw [ei]
      have z : (!decide (e.a = g.a)) = decide (e.a ≠ g.a) := by by_cases y : e.a = g.a <;> simp [y]
      rw [z]
      exact q
    · refine iteFF ((ei _ _).trans (decide_eq_false d2)) ?_
      exact last (eq_false fun z => d2 z.2)
  · refine iteFF ((ei _ _).trans (decide_eq_false d1)) ?_
    exact last (eq_false fun z => d1 z.1)
end
end P5

end
section
set_option Elab.async false
set_option linter.all false
set_option maxRecDepth 100000
set_option maxHeartbeats 4000000
/-! _law_changes -/
namespace P5
open PySem PySem.Spec PySem.SeqAt PySem.W PyProof.Rows L2 EN ND
theorem apt_snoc : ∀ {D : List Ed} {t : Bool} {s : Nat} {e : Ed}, Apt t s D → (D ≠ [] → endC s D < e.a) → (D = [] → s ≤ e.a ∧ (t = true → s < e.a)) → Ne e → Apt t s (D ++ [e])
  | [], t, s, e, _, _, h2, hn => .cons (h2 rfl).1 (h2 rfl).2 hn.1 hn.2 .nil
  | x :: D, t, s, e, .cons h1 h2 h3 h4 h5, hl, _, hn => by
    have hl := hl (List.cons_ne_nil _ _)
    rw [endC_cons] at hl
    refine .cons h1 h2 h3 h4 (apt_snoc h5 (fun _ => hl) (fun z => ?_) hn)
    subst z
    have hl : x.b < e.a := hl
    exact ⟨Nat.le_of_lt hl, fun _ => hl⟩
/-- drawn changes -/
structure DrC (D : List Ed) (n : Nat) : Prop where
  apt : Apt false 0 D
  fin : endC 0 D ≤ n
  len : D.length ≤ 3
  few : ∀ e ∈ D, e.ws.length ≤ 2 ∧ ∀ x ∈ e.ws, x ∈ PK6
section
variable {P : Program} {w : World} {K : PySem.W.Frag} {mg : Str → Option Value} {base : Heap} {aN aS CE CP CB CT CC : Addr}
abbrev sLch : Stmt := tp 46
abbrev NLch : List Str := ["draw", "many", "found", "at", "last", "words"]
theorem scLch : FnScope NLch ["draw", "many"] (defScope sLch) := ⟨rfl, rfl, rfl, by decide +kernel, rfl, by decide +kernel, by decide +kernel⟩
def spLch (K : PySem.W.Frag) : Sp := fun vs H Q _ => ∃ (d sa : Addr) (n : Nat), vs = [.ref d, .int n] ∧ DrwS H d sa ∧ n ≤ 100 ∧
  ∀ H' t cv D, Aft H H' d → DrwS H' d sa → SqT K H' t cv → ChsV K H' cv D → DrC D n → Q (.ref t) H'
/-- the walk's state -/
def LcI (K : PySem.W.Frag) (H : Hp) (d sa F0 : Addr) (n : Nat) (m : Nat) (σ : L2.St) (H' : Hp) : Prop :=
  ∃ (D : List Ed) (dv : List V) (a : Nat) (v4 v5 : Option V), n + 1 - a ≤ m ∧ σ = [some (.ref d), some (.int n), some (.ref F0), some (.int a), v4, v5] ∧ Aft H H' d ∧ DrwS H' d sa ∧ H' F0 = some (.lst dv) ∧ RelL (ChV K H') dv D ∧
    DrC D n ∧ (D ≠ [] → endC 0 D < a)
theorem ok_lch {f : Addr} {fd : FuncData} (F : Fun K "_law_changes" "_law_changes" sLch f fd) (B : BN mg) (mM : mg "min" = none) (Nx : Dk P w K mg base "_law_next" 3 ["draw", "bound"] spNext) (Wd : Dk P w K mg base "_law_words" 5 ["draw", "many"] spWds) : FnOk P w K mg base CX0 6 f fd ["draw", "many"] (spLch K) := by
  refine F.ok scLch (fun vs H Q E h => ?_) (fun cdv A outer s H vs Q E hr h => ?_)
  · obtain ⟨_, _, _, rfl, _⟩ := h
    rfl
  obtain ⟨d, sa, n, rfl, hd, hn, q⟩ := h
  obtain ⟨f1, fd1, G1, b1, k1, m1⟩ := Nx.ex
  obtain ⟨f2, fd2, G2, b2, k2, m2⟩ := Wd.ex
  refine ⟨_, pss_cons (ps_par (i := 2) (j := 3) rfl scLch.nd rfl rfl (by decide) rfl rfl (pa_cons (pe_lst pa_nil) (pa_cons (pe_call G1 (hr.mono (by decide)) rfl m1 k1 b1 .nil pass0 (pa_cons (pv 0) (pa_cons pe_int pa_nil))) pa_nil)) rfl)
    (pss_cons (ps_while PassesOwn.never (PW.pt (pw_and (pt_cmpR op_le (pv 3) (pv 1) (nomark _)) (pw_and1 (pt_cmpR op_lt (pe_callB call_len_seq rfl B.len PySem.boot_len (pa_cons (pv 2) pa_nil)) pe_int (nomark _)))))
      (pss_cons (ps_set (i := 4) scLch.nd rfl (Or.inl rfl) (pe_callB (call_min2 rfl) rfl mM (by decide +kernel) (pa_cons (pe_op op_add (pv 3) (pe_call G1 (hr.mono (by decide)) rfl m1 k1 b1 .nil pass0 (pa_cons (pv 0) (pa_cons pe_int pa_nil)))) (pa_cons (pv 1) pa_nil))))
      (pss_cons (ps_set (i := 5) scLch.nd rfl (Or.inl rfl) (pe_callTy call_tuple_of rfl B.tup (by decide +kernel) (pa_cons (pe_call G2 hr rfl m2 k2 b2 .nil pass0 (pa_cons (pv 0) (pa_cons (pe_call G1 (hr.mono (by decide)) rfl m1 k1 b1 .nil pass0 (pa_cons (pv 0) (pa_cons pe_int pa_nil))) pa_nil))) pa_nil)))
      (pss_cons (ps_if (PW.pt (pw_or (pt_cmpR op_lt (pv 3) (pv 4) (nomark _)) (pw_or1 (pt_cmpR (op_neTW (hu64 hr)) (pv 5) (pe_tup pa_nil) (nomark _)))))
        (pss_one (ps_expr (pe_bm PySem.F.plainAttrs_list PySem.F.slot_list_append PySem.F.type_list_append mt_append (pv 2) (pa_cons (pe_tup (pa_cons (pv 3) (pa_cons (pv 4) (pa_cons (pv 5) pa_nil)))) pa_nil)))) pss_nil)
      (pss_one (ps_set (i := 3) scLch.nd rfl (Or.inl rfl) (pe_op op_add (pe_op op_add (pv 4) pe_int) (pe_call G1 (hr.mono (by decide)) rfl m1 k1 b1 .nil pass0 (pa_cons (pv 0) (pa_cons pe_int pa_nil))))))))))
    (pss_one (ps_ret (pe_callTy call_tuple_of rfl B.tup (by decide +kernel) (pa_cons (pv 2) pa_nil))))), ?_⟩
  refine ⟨by show 0 ≤ sizeLine; decide, fun F0 hF0 => ?_⟩
  have nF := hd.new hF0
  have s0 := Same.new hF0 (.lst [])
  have hF00 : upd H F0 (.lst []) F0 = some (.lst []) := upd_same
  have hd0 := hd.same s0
  generalize upd H F0 (.lst []) = H0 at *
  refine ⟨_, rfl, d, sa, 3, rfl, hd0, by decide, fun r H1 r0 r1 a1 d1 => ⟨_, _, rfl, ?_⟩⟩
  have hF1 := a1 _ _ nF.1 hF00
  refine ⟨LcI K H d sa F0 n, ⟨n + 1, [], [], r.toNat, none, none, by omega, by rw [Int.toNat_of_nonneg r0]; rfl, (Aft.of s0).trans a1, d1, hF1, trivial, ⟨.nil, Nat.zero_le _, Nat.zero_le _, fun e he => (nomatch he)⟩, fun z => absurd rfl z⟩, ?_⟩
  rintro m σ H2 ⟨D, dv, a, v4, v5, hm, rfl, a2, d2, hF2, hD, hDr, hend⟩
  have stop : DrC D n → tRet (tCB (fun xs H Q => ∃ p ys, xs = [.ref p] ∧ ((SqL K H p ys ∧ ∀ l, H l = none → Q (.ref l) (upd H l (.tup ys))) ∨ (SqT K H p ys ∧ Q (.ref p) H))) (tCons (tVar 2) tNil)) { nx := fun _ H' => Q .non H', rt := Q } [some (.ref d), some (.int n), some (.ref F0), some (.int a), v4, v5] H2 := fun h => by
    refine ⟨_, rfl, F0, dv, rfl, .inl ⟨SqL.of hF2, fun t ht => ?_⟩⟩
    have s3 := Same.new ht (.tup dv)
    exact q _ t dv D (a2.trans (Aft.of s3)) (d2.same s3) (SqT.of upd_same) (chs_rel.mpr (RelL.imp (fun _ _ z => ChV.same s3 z) hD)) h
  refine ⟨_, rfl, _, rfl, _, _, rfl, rfl, _, rfl, ?_⟩
  by_cases c1 : a ≤ n
  case neg => exact iteFF (decide_eq_false (by omega)) (iteFF rfl (stop hDr))
  refine iteTT (decide_eq_true (by omega)) ?_
  refine ⟨_, rfl, F0, dv, rfl, .inl (SqL.of hF2), _, _, rfl, rfl, _, rfl, ?_⟩
  have hdl := hD.len
  by_cases c2 : D.length < 3
  case neg => exact iteFF (decide_eq_false (by omega)) (stop hDr)
  refine iteTT (decide_eq_true (by omega)) ⟨fun σ' H' => LcI K H d sa F0 n (m - 1) σ' H', fun σ' H' z => ⟨m - 1, by omega, z⟩, ?_⟩
  refine ⟨_, rfl, _, rfl, d, sa, 3, rfl, d2, by decide, fun r2 H3 r20 r21 a3 d3 => ⟨_, _, rfl, rfl, _, rfl, _, _, rfl, ?_⟩⟩
  obtain ⟨L, hL, hL1, hL2⟩ : ∃ L : Nat, (if (n : Int) < a + r2 then (n : Int) else a + r2) = L ∧ a ≤ L ∧ L ≤ n := by
    by_cases z : (n : Int) < a + r2
    · exact ⟨n, by rw [if_pos z], c1, Nat.le_refl _⟩
    · exact ⟨a + r2.toNat, by rw [if_neg z]; omega, by omega, by omega⟩
  rw [hL]
  refine ⟨_, rfl, _, rfl, d, sa, 3, rfl, d3, by decide, fun r3 H4 r30 r31 a4 d4 => ?_⟩
  refine ⟨d, sa, r3.toNat, by rw [Int.toNat_of_nonneg r30]; rfl, d4, by omega, fun H5 l5 ws a5 d5 hl5 hLs hlen hpk => ?_⟩
  refine ⟨l5, ws.map V.str, rfl, .inl ⟨SqL.of hLs.at_, fun t6 ht6 => ?_⟩⟩
  have a25 := (a3.trans a4).trans a5
  have s6 := Same.new ht6 (.tup (ws.map V.str))
  have c6 : SqT K (upd H5 t6 (.tup (ws.map V.str))) t6 (ws.map V.str) := SqT.of upd_same
  have hF6 := s6 _ _ (a25 _ _ nF.1 hF2)
  have d6 := d5.same s6
  have hD6 : RelL (ChV K (upd H5 t6 (.tup (ws.map V.str)))) dv D := RelL.imp (fun _ _ z => ChV.same s6 (z.imp fun _ _ y => Aft.tup d2.drw a25 y)) hD
  have a06 := (a2.trans a25).trans (Aft.of s6)
  generalize upd H5 t6 (.tup (ws.map V.str)) = H6 at *
  have hmk : ∀ z ∈ ws, z ∈ MRK := fun z hz => pk6 z (hpk z hz)
  have hwl : ws.length ≤ 2 := by omega
  -- the next place
  have next : ∀ {D' : List Ed} {dv' : List V} {H8 : Hp}, Aft H H8 d → DrwS H8 d sa → H8 F0 = some (.lst dv') → RelL (ChV K H8) dv' D' → DrC D' n → (D' ≠ [] → endC 0 D' ≤ L) →
      tAsg (tOp (rI0 fun i j => .int (i + j)) (tOp (rI0 fun i j => .int (i + j)) (tVar 4) (tC (.int 1))) (tCall spNext [] E0 (tCons (tVar 0) (tCons (tC (.int 4)) tNil)))) (gName 3)
        { nx := fun σ' H' => LcI K H d sa F0 n (m - 1) σ' H', rt := Q, bk := fun _ _ => False, ct := fun _ _ => False } [some (.ref d), some (.int n), some (.ref F0), some (.int a), some (.int L), some (.ref t6)] H8 := fun {D' dv' H8} a8 d8 hF8 hD8 hDr8 he8 => by
    refine ⟨_, rfl, _, _, rfl, rfl, _, rfl, d, sa, 4, rfl, d8, by decide, fun r4 H9 r40 r41 a9 d9 => ⟨_, _, rfl, rfl, ?_⟩⟩
    refine ⟨D', dv', L + 1 + r4.toNat, some (.int L), some (.ref t6), by omega, ?_, a8.trans a9, d9, a9 _ _ nF.1 hF8, RelL.imp (fun _ _ z => z.imp fun _ _ y => Aft.tup d8.drw a9 y) hD8, hDr8, fun z => by have := he8 z; omega⟩
    show [some (V.ref d), some (V.int n), some (.ref F0), some (.int ((L : Int) + 1 + r4)), some (.int L), some (.ref t6)] = _
    rw [show ((L : Int) + 1 + r4) = ((L + 1 + r4.toNat : Nat) : Int) from by omega]
  have hdr6 : DrC D n := hDr
  have keep : ∀ {H8 : Hp}, Same H6 H8 → ¬ (a < L ∨ ws ≠ []) → tAsg (tOp (rI0 fun i j => .int (i + j)) (tOp (rI0 fun i j => .int (i + j)) (tVar 4) (tC (.int 1))) (tCall spNext [] E0 (tCons (tVar 0) (tCons (tC (.int 4)) tNil)))) (gName 3)
        { nx := fun σ' H' => LcI K H d sa F0 n (m - 1) σ' H', rt := Q, bk := fun _ _ => False, ct := fun _ _ => False } [some (.ref d), some (.int n), some (.ref F0), some (.int a), some (.int L), some (.ref t6)] H8 := fun s8 _ =>
    next (a06.trans (Aft.of s8)) (d6.same s8) (s8 _ _ hF6) (RelL.imp (fun _ _ z => ChV.same s8 z) hD6) hDr fun z => by have := hend z; omega
  have put : ∀ {H8 : Hp}, Same H6 H8 → (a < L ∨ ws ≠ []) → ∀ T, H8 T = none → tAsg (tOp (rI0 fun i j => .int (i + j)) (tOp (rI0 fun i j => .int (i + j)) (tVar 4) (tC (.int 1))) (tCall spNext [] E0 (tCons (tVar 0) (tCons (tC (.int 4)) tNil)))) (gName 3)
        { nx := fun σ' H' => LcI K H d sa F0 n (m - 1) σ' H', rt := Q, bk := fun _ _ => False, ct := fun _ _ => False } [some (.ref d), some (.int n), some (.ref F0), some (.int a), some (.int L), some (.ref t6)] (upd (upd H8 T (.tup [.int a, .int L, .ref t6])) F0 (.lst (dv ++ [.ref T]))) := fun {H8} s8 hne T hT => by
    have s9 := Same.new hT (.tup [.int a, .int L, .ref t6])
    have s69 := s8.trans s9
    have hF9 := s69 _ _ hF6
    have A9 : ChV K (upd H8 T (.tup [.int a, .int L, .ref t6])) (.ref T) ⟨a, L, ws⟩ := ⟨T, t6, rfl, SqT.of upd_same, Same.tup s69 c6⟩
    have hD9 : RelL (ChV K (upd H8 T (.tup [.int a, .int L, .ref t6]))) dv D := RelL.imp (fun _ _ z => ChV.same s69 z) hD6
    have d9 := d6.same s69
    have a9 := a06.trans (Aft.of s69)
    generalize upd H8 T (.tup [.int a, .int L, .ref t6]) = H9 at *
    have hapt : Apt false 0 (D ++ [⟨a, L, ws⟩]) := apt_snoc hDr.apt hend (fun _ => ⟨Nat.zero_le _, fun z => nomatch z⟩) ⟨hL1, hne⟩
    have hendn : endC 0 (D ++ [⟨a, L, ws⟩]) = L := by rw [endC_app]; rfl
    refine next (Aft.acc hF0 a9) (d9.upd nF.1 nF.2) upd_same (RelL.app (RelL.imp (fun _ _ z => ChV.put hF9 z) hD9) (RelL.one (A9.put hF9))) ⟨hapt, by rw [hendn]; exact hL2, by rw [List.length_append, List.length_singleton]; omega, fun e he => ?_⟩ fun _ => by rw [hendn]; exact Nat.le_refl _
    rcases List.mem_append.mp he with z | z
    · exact hDr.few e z
    · rw [List.mem_singleton.mp z]
      exact ⟨hwl, hpk⟩
  refine ⟨_, rfl, _, rfl, _, _, rfl, rfl, _, rfl, ?_⟩
  have app : ∀ {H8 : Hp}, Same H6 H8 → (a < L ∨ ws ≠ []) → tDrop (tBM K "list" rAppend (tVar 2) (tCons (tTup (tCons (tVar 3) (tCons (tVar 4) (tCons (tVar 5) tNil)))) tNil))
      { nx := tAsg (tOp (rI0 fun i j => .int (i + j)) (tOp (rI0 fun i j => .int (i + j)) (tVar 4) (tC (.int 1))) (tCall spNext [] E0 (tCons (tVar 0) (tCons (tC (.int 4)) tNil)))) (gName 3) { nx := fun σ' H' => LcI K H d sa F0 n (m - 1) σ' H', rt := Q, bk := fun _ _ => False, ct := fun _ _ => False }, rt := Q, bk := fun _ _ => False, ct := fun _ _ => False }
      [some (.ref d), some (.int n), some (.ref F0), some (.int a), some (.int L), some (.ref t6)] H8 := fun {H8} s8 hne => by
    refine ⟨_, rfl, .inl ⟨rfl, _, .inl (.inl (s8 _ _ hF6))⟩, _, rfl, _, rfl, _, rfl, by show 3 ≤ sizeLine; decide, fun T hT => ?_⟩
    refine ⟨F0, dv, .ref T, rfl, rfl, (Same.new hT _) _ _ (s8 _ _ hF6), Nat.lt_of_lt_of_le (by omega : dv.length < 1000) (small_le (Nat.le_refl _)), ?_⟩
    exact put s8 hne T hT
  by_cases c3 : a < L
  · exact iteTT (decide_eq_true (by omega)) (iteTT rfl (app (Same.refl _) (.inl c3)))
  refine iteFF (decide_eq_false (by omega)) ?_
  refine ⟨_, rfl, by show 0 ≤ sizeLine; decide, fun t7 ht7 => ?_⟩
  have s7 := Same.new ht7 (.tup [])
  have c7 : SqT K (upd H6 t7 (.tup [])) t7 (([] : List Str).map V.str) := SqT.of upd_same
  refine ⟨t6, t7, ws, [], rfl, rfl, Same.tup s7 c6, c7, hmk, fun z hz => (nomatch hz), _, rfl, ?_⟩
  by_cases c4 : ws = []
  · exact iteFF (by rw [decide_eq_true c4]; rfl) (keep s7 fun z => z.elim (fun y => c3 y) fun y => y c4)
  · exact iteTT (by rw [decide_eq_false c4]; rfl) (app s7 (.inr c4))
end
end P5

end
section
set_option Elab.async false
set_option linter.all false
set_option maxRecDepth 100000
set_option maxHeartbeats 4000000
/-! _law_weave -/
namespace P5
open PySem PySem.Spec PySem.SeqAt PySem.W PyProof.Rows L2 EN ND
theorem RelL.erase {α : Type} {R : V → α → Prop} : ∀ {vs : List V} {xs : List α} {k : Nat}, RelL R vs xs → RelL R (vs.eraseIdx k) (xs.eraseIdx k)
  | [], [], _, _ => trivial
  | _ :: _, _ :: _, 0, h => h.2
  | _ :: _, _ :: _, k + 1, h => ⟨h.1, RelL.erase (k := k) h.2⟩
  | [], _ :: _, _, h => h.elim
  | _ :: _, [], _, h => h.elim
theorem erase_perm {α : Type} : ∀ {l : List α} {k : Nat} {x : α}, l[k]? = some x → l.Perm (x :: l.eraseIdx k)
  | [], _, _, h => by simp at h
  | y :: l, 0, x, h => by
    have h : y = x := by simpa using h
    rw [h]
    exact .refl _
  | y :: l, k + 1, x, h => by
    have ih := erase_perm (l := l) (k := k) (x := x) (by simpa using h)
    exact (ih.cons y).trans (.swap x y _)
theorem seqIx {k n : Nat} (h : k < n) : seqIndex? (k : Int) n = some k := by
  unfold seqIndex?
  have h1 : ¬ ((k : Int) < 0) := by omega
  simp only [if_neg h1]
  rw [if_pos (by simp; omega)]
  simp
/-- the changes before e, by the law's own words -/
def wvB (e x : Ed) : Bool := decide (x.b ≤ e.a) && !(decide (x.a = e.a) && decide (x.b = e.b))
section
variable {P : Program} {w : World} {K : PySem.W.Frag} {mg : Str → Option Value} {base : Heap} {aN aS CE CP CB CT CC : Addr}
abbrev sWv : Stmt := tp 48
abbrev NWv : List Str := ["draw", "changes", "words", "now", "done", "left", "first", "last", "new", "more", "start", "end", "late"]
theorem scWv : FnScope NWv ["draw", "changes", "words"] (defScope sWv) := ⟨rfl, rfl, rfl, by decide +kernel, rfl, by decide +kernel, by decide +kernel⟩
def spWv (K : PySem.W.Frag) : Sp := fun vs H Q _ => ∃ (d sa lc lw : Addr) (cs : List V) (C S : List Ed) (ws : List Str), vs = [.ref d, .ref lc, .ref lw] ∧ DrwS H d sa ∧ SqL K H lc cs ∧ ChsV K H cs C ∧ SqL K H lw (ws.map V.str) ∧
  C.Nodup ∧ S.Pairwise Bf ∧ (∀ x, x ∈ S ↔ x ∈ C) ∧ (∀ x ∈ C, Ne x ∧ x.b ≤ ws.length ∧ x.Ok) ∧ ws.length ≤ 100 ∧ C.length ≤ 60 ∧ tot C ≤ 100 ∧
  ∀ H' l, Aft H H' d → DrwS H' d sa → H' l = some (.lst ((apC S 0 ws).map V.str)) → Q (.ref l) H'
/-- the walk's state -/
def WvI (K : PySem.W.Frag) (H : Hp) (d sa lc lw F1 F2 : Addr) (C S : List Ed) (ws : List Str) (m : Nat) (σ : L2.St) (H' : Hp) : Prop :=
  ∃ (dn lf Sd : List Ed) (dv lv : List V) (nw : Addr) (v6 v7 v8 v9 v10 v11 v12 : Option V), lf.length ≤ m ∧ σ = [some (.ref d), some (.ref lc), some (.ref lw), some (.ref nw), some (.ref F1), some (.ref F2), v6, v7, v8, v9, v10, v11, v12] ∧
    Aft H H' d ∧ DrwS H' d sa ∧ H' F1 = some (.lst dv) ∧ RelL (ChV K H') dv dn ∧ H' F2 = some (.lst lv) ∧ RelL (ChV K H') lv lf ∧ (dn ++ lf).Perm C ∧ H' nw = some (.lst ((apC Sd 0 ws).map V.str)) ∧ Sd.Pairwise Bf ∧ (∀ x, x ∈ Sd ↔ x ∈ dn) ∧ nw ≠ F1 ∧ nw ≠ F2 ∧ nw ≠ d
theorem apc_len {S C : List Ed} {l : List Str} (hS : S.Pairwise Bf) (hm : ∀ x ∈ S, x ∈ C) (hN : ∀ x ∈ C, Ne x) : (apC S 0 l).length ≤ l.length + tot C := by
  have hr := uni_row hS fun x hx => hN x (hm x hx)
  have z := apC_le l (asOne_apt hr)
  rw [asOne_apC hr, asOne_tot] at z
  have := (sub_len (pw_nodup hS) hm).2
  omega
theorem ok_wv {f : Addr} {fd : FuncData} (F : Fun K "_law_weave" "_law_weave" sWv f fd) (B : BN mg) (Nx : Dk P w K mg base "_law_next" 3 ["draw", "bound"] spNext) : FnOk P w K mg base CX0 6 f fd ["draw", "changes", "words"] (spWv K) := by
  refine F.ok scWv (fun vs H Q E h => ?_) (fun cdv A outer s H vs Q E hr h => ?_)
  · obtain ⟨_, _, _, _, _, _, _, _, rfl, _⟩ := h
    rfl
  obtain ⟨d, sa, lc, lw, cs, C, S, ws, rfl, hd, hS, hC, hW, hnd, hBf, hmem, hok, hwl, hcl, hct, q⟩ := h
  obtain ⟨f1, fd1, G1, b1, k1, m1⟩ := Nx.ex
  refine ⟨_, pss_cons (ps_par3 (i := 3) (j := 4) (l := 5) rfl scWv.nd rfl rfl rfl (by decide) (by decide) (by decide) rfl rfl rfl (pa_cons (pe_callTy call_list_of rfl B.lst (by decide +kernel) (pa_cons (pv 2) pa_nil)) (pa_cons (pe_lst pa_nil) (pa_cons (pe_callTy call_list_of rfl B.lst (by decide +kernel) (pa_cons (pv 1) pa_nil)) pa_nil))) rfl)
    (pss_cons (ps_while PassesOwn.never (pt_cmpR (op_neD (hu64 hr)) (pv 5) (pe_lst pa_nil) (nomark _))
      (pss_cons (ps_asg (pe_bm PySem.F.plainAttrs_list PySem.F.slot_list_pop PySem.F.type_list_pop mt_popAt (pv 5) (pa_cons (pe_call G1 (hr.mono (by decide)) rfl m1 k1 b1 .nil pass0 (pa_cons (pv 0) (pa_cons (pe_callB call_len_seq rfl B.len PySem.boot_len (pa_cons (pv 5) pa_nil)) pa_nil))) pa_nil))
          (pg_tup rfl (pgs_cons (pg_name (i := 6) scWv.nd rfl (Or.inr rfl)) (pgs_cons (pg_name (i := 7) scWv.nd rfl (Or.inr rfl)) (pgs_cons (pg_name (i := 8) scWv.nd rfl (Or.inl rfl)) pgs_nil)))))
      (pss_cons (ps_set (i := 9) scWv.nd rfl (Or.inl rfl) (pe_callB (cr_sum rfl) rfl B.sum (by decide +kernel) (pa_cons (pe_lc (own := [("start", 10), ("end", 11), ("late", 12)]) (g := gTup K 3 (gCons (gName 10) (gCons (gName 11) (gCons (gName 12) gNil)))) rfl scWv.nd (pi_list (pv 4))
          (blkOk_by (N := NWv) (sc := defScope sWv) (by decide +kernel)) (fun _ _ _ _ _ => pg_tup rfl (pgs_cons (pg_name (i := 10) scWv.nd rfl (Or.inl rfl)) (pgs_cons (pg_name (i := 11) scWv.nd rfl (Or.inl rfl)) (pgs_cons (pg_name (i := 12) scWv.nd rfl (Or.inl rfl)) pgs_nil))))
          (fun _ _ _ _ _ => pts_one (PW.pt (pw_and (pt_cmpR op_le (pv 11) (pv 6) (nomark _)) (pw_and1 (pt_cmpR (r := rNeD K) (op_neD (hu64 hr)) (pe_tup (pa_cons (pv 10) (pa_cons (pv 11) pa_nil))) (pe_tup (pa_cons (pv 6) (pa_cons (pv 7) pa_nil))) (nomark _))))))
          (fun _ _ _ _ _ => pe_op op_sub (pe_callB (r := fun xs H Q => ∃ p ys, xs = [.ref p] ∧ (SqL K H p ys ∨ SqT K H p ys) ∧ Q (.int ys.length) H) call_len_seq rfl B.len PySem.boot_len (pa_cons (pv 12) pa_nil)) (pe_op op_sub (pv 11) (pv 10)))) pa_nil)))
      (pss_cons (ps_set (i := 3) scWv.nd rfl (Or.inl rfl) (pe_op op_cat (pe_op op_cat (pe_slice (r := rSlL K) sl_list (pv 3) po_none (po_some (pe_op op_add (pv 6) (pv 9)))) (pe_callTy call_list_of rfl B.lst (by decide +kernel) (pa_cons (pv 8) pa_nil)))
          (pe_slice (r := rSlL K) sl_list (pv 3) (po_some (pe_op op_add (pv 7) (pv 9))) po_none)))
      (pss_one (ps_expr (pe_bm PySem.F.plainAttrs_list PySem.F.slot_list_append PySem.F.type_list_append mt_append (pv 4) (pa_cons (pe_tup (pa_cons (pv 6) (pa_cons (pv 7) (pa_cons (pv 8) pa_nil)))) pa_nil))))))))
    (pss_one (ps_ret (pv 3)))), ?_⟩
  have sz : ∀ {n : Nat}, n ≤ 1000 → n ≤ sizeLine := fun h => small_le h
  refine ⟨_, rfl, lw, _, rfl, .inl hW, fun N0 hN0 => ?_⟩
  have s0 := Same.new hN0 (.lst (ws.map V.str))
  have c0 : upd H N0 (.lst (ws.map V.str)) N0 = some (.lst (ws.map V.str)) := upd_same
  have n0 := hd.new hN0
  have d0 := hd.same s0
  generalize upd H N0 (.lst (ws.map V.str)) = Ha at *
  refine ⟨by show 0 ≤ sizeLine; decide, fun F1 hF1 => ?_⟩
  have s1 := Same.new hF1 (.lst [])
  have c1 : upd Ha F1 (.lst []) F1 = some (.lst []) := upd_same
  have n1 := d0.new hF1
  have d1 := d0.same s1
  have nN1 : N0 ≠ F1 := fun z => by rw [z, hF1] at c0; cases c0
  have hF1H : H F1 = none := s0.free hF1
  generalize upd Ha F1 (.lst []) = Hb at *
  refine ⟨_, rfl, lc, cs, rfl, .inl ((s0.trans s1).seq hS), fun F2 hF2 => ?_⟩
  have s2 := Same.new hF2 (.lst cs)
  have c2 : upd Hb F2 (.lst cs) F2 = some (.lst cs) := upd_same
  have n2 := d1.new hF2
  have d2 := d1.same s2
  have nN2 : N0 ≠ F2 := fun z => by have y := s1 _ _ c0; rw [z, hF2] at y; cases y
  have n12 : F1 ≠ F2 := fun z => by rw [z, hF2] at c1; cases c1
  have hF2H : H F2 = none := (s0.trans s1).free hF2
  have c1' := s2 _ _ c1
  have c0' := s2 _ _ (s1 _ _ c0)
  have s02 := (s0.trans s1).trans s2
  generalize upd Hb F2 (.lst cs) = Hc at *
  refine ⟨_, _, _, rfl, ?_⟩
  refine ⟨WvI K H d sa lc lw F1 F2 C S ws, ⟨C.length, [], C, [], [], cs, N0, none, none, none, none, none, none, none, Nat.le_refl _, rfl, Aft.of s02, d2, c1', trivial, c2, chs_rel.mp (hC.imp fun _ _ z => Same.tup s02 z), .refl _, c0', .nil, fun x => Iff.rfl, nN1, nN2, n0.1⟩, ?_⟩
  rintro m σ H2 ⟨dn, lf, Sd, dv, lv, nw, v6, v7, v8, v9, v10, v11, v12, hm, rfl, a2, dr2, hFd, hD, hFl, hL, hP, hnw, hSd, hmd, nw1, nw2, nwd⟩
  have inC : ∀ x, x ∈ dn ∨ x ∈ lf → x ∈ C := fun x h => hP.mem_iff.mp (List.mem_append.mpr h)
  have okl : ∀ x ∈ lf, x.Ok := fun x hx => (hok x (inC x (.inr hx))).2.2
  refine ⟨_, rfl, by show 0 ≤ sizeLine; decide, fun p3 hp3 => ?_⟩
  have s3 := Same.new hp3 (.lst [])
  have c3 : upd H2 p3 (.lst []) p3 = some (.lst []) := upd_same
  have hFd3 := s3 _ _ hFd
  have hFl3 := s3 _ _ hFl
  have hnw3 := s3 _ _ hnw
  have hD3 : RelL (ChV K (upd H2 p3 (.lst []))) dv dn := RelL.imp (fun _ _ z => ChV.same s3 z) hD
  have hL3 : RelL (ChV K (upd H2 p3 (.lst []))) lv lf := RelL.imp (fun _ _ z => ChV.same s3 z) hL
  have a3 := a2.trans (Aft.of s3)
  have dr3 := dr2.same s3
  generalize upd H2 p3 (.lst []) = H3 at *
  refine ⟨.list (lf.map chD), .list [], .lst (SqL.of hFl3) (dp_chs (chs_rel.mpr hL3)), .lst (SqL.of c3) .nil, shaped_chsL okl, by rfl, _, rfl, ?_⟩
  have e3 : PyData.eqv (.list (lf.map chD)) (.list []) = decide (lf = []) := by
    cases lf with
    | nil => rfl
    | cons x lf => rfl
  rw [e3]
  have hll := hL3.len
  by_cases c : lf = []
  · refine iteFF (by rw [decide_eq_true c]; rfl) ⟨_, rfl, ?_⟩
    rw [c, List.append_nil] at hP
    have e4 : Sd = S := bf_uniq hSd hBf fun x => by rw [hmd x, hmem x, hP.mem_iff]
    rw [e4] at hnw3
    exact q H3 nw a3 dr3 hnw3
  refine iteTT (by rw [decide_eq_false c]; rfl) ⟨fun σ' H' => WvI K H d sa lc lw F1 F2 C S ws (lf.length - 1) σ' H', fun σ' H' z => ⟨lf.length - 1, by
    have : 0 < lf.length := List.length_pos_iff.mpr c
    omega, z⟩, ?_⟩
  have hlp : 0 < lf.length := List.length_pos_iff.mpr c
  have hpl := hP.length_eq
  rw [List.length_append] at hpl
  have hdl0 := hD.len
  refine ⟨_, rfl, .inl ⟨rfl, _, .inl (.inl hFl3)⟩, _, rfl, _, rfl, F2, lv, rfl, .inl (SqL.of hFl3), d, sa, _, rfl, dr3, by omega, fun r H4 r0 r1 a4 dr4 => ?_⟩
  have hFl4 := a4 _ _ n2.1 hFl3
  have hFd4 := a4 _ _ n1.1 hFd3
  have hnw4 := a4 _ _ nwd hnw3
  have hD4 : RelL (ChV K H4) dv dn := RelL.imp (fun _ _ z => z.imp fun _ _ y => Aft.tup dr3.drw a4 y) hD3
  have hL4 : RelL (ChV K H4) lv lf := RelL.imp (fun _ _ z => z.imp fun _ _ y => Aft.tup dr3.drw a4 y) hL3
  obtain ⟨k, rfl⟩ : ∃ k : Nat, r = (k : Int) := ⟨r.toNat, by omega⟩
  have hkl : k < lv.length := by omega
  obtain ⟨e, he, hch⟩ := hL4.get (List.getElem?_eq_getElem hkl)
  obtain ⟨xa, te, exa, hxa, hta⟩ := id hch
  refine ⟨F2, lv, (k : Int), k, .ref xa, rfl, rfl, hFl4, by omega, by omega, seqIx hkl, by rw [List.getElem?_eq_getElem hkl, exa], ?_⟩
  have hFl5 : upd H4 F2 (.lst (lv.eraseIdx k)) F2 = some (.lst (lv.eraseIdx k)) := upd_same
  have hFd5 : upd H4 F2 (.lst (lv.eraseIdx k)) F1 = some (.lst dv) := by rw [upd_ne n12]; exact hFd4
  have hnw5 : upd H4 F2 (.lst (lv.eraseIdx k)) nw = some (.lst ((apC Sd 0 ws).map V.str)) := by rw [upd_ne nw2]; exact hnw4
  have hD5 : RelL (ChV K (upd H4 F2 (.lst (lv.eraseIdx k)))) dv dn := RelL.imp (fun _ _ z => ChV.put hFl4 z) hD4
  have hL5 : RelL (ChV K (upd H4 F2 (.lst (lv.eraseIdx k)))) (lv.eraseIdx k) (lf.eraseIdx k) := RelL.imp (fun _ _ z => ChV.put hFl4 z) (RelL.erase hL4)
  have hxa5 : SqT K (upd H4 F2 (.lst (lv.eraseIdx k))) xa [.int e.a, .int e.b, .ref te] := SqT.put hFl4 hxa
  have hta5 : SqT K (upd H4 F2 (.lst (lv.eraseIdx k))) te (e.ws.map V.str) := SqT.put hFl4 hta
  have a5 : Aft H (upd H4 F2 (.lst (lv.eraseIdx k))) d := Aft.acc hF2H (a3.trans a4)
  have dr5 : DrwS (upd H4 F2 (.lst (lv.eraseIdx k))) d sa := dr4.upd n2.1 n2.2
  generalize upd H4 F2 (.lst (lv.eraseIdx k)) = H5 at *
  refine ⟨xa, _, rfl, hxa5, rfl, _, _, rfl, _, _, rfl, _, _, rfl, rfl, ?_⟩
  have heC := inC e (.inr (List.mem_of_getElem? he))
  obtain ⟨hNe, heL, heO⟩ := hok e heC
  -- how far it is moved
  refine ⟨_, rfl, F1, rfl, ⟨_, SqL.of hFd5⟩, fun D hDn => lcM (K := K) (as := dn) (fun x => if wvB e x = true then some (grow x) else none) (fun H v x => ChV K H v x) (fun H v g => v = V.int g) walk_list (by omega) (fun H' s => s.seq (SqL.of hFd5)) hDn hD5 (fun H' v a s z => ChV.same s z) (fun H2 H' v b f z => z) (fun x a H' Q' Rn ha hR s' kq kr => ?_) fun H6 ys s6 hL6 hys => ?_⟩
  · obtain ⟨xb, tb, rfl, hxb, htb⟩ := id hR
    refine ⟨xb, _, rfl, hxb, rfl, _, _, rfl, _, _, rfl, _, _, rfl, rfl, rfl, ?_⟩
    refine ⟨_, rfl, _, rfl, _, _, rfl, rfl, _, rfl, ?_⟩
    have wv : wvB e a = (decide (a.b ≤ e.a) && !(decide (a.a = e.a) && decide (a.b = e.b))) := rfl
    by_cases z : a.b ≤ e.a
    case neg => exact iteFF (decide_eq_false (by omega)) (iteFF rfl (kr (if_neg (by rw [wv, decide_eq_false z, Bool.false_and]; exact Bool.false_ne_true)) _ (Same.refl _)))
    refine iteTT (decide_eq_true (by omega)) ?_
    refine ⟨_, rfl, _, rfl, by show 2 ≤ sizeLine; decide, fun p7 hp7 => ?_⟩
    have s7 := Same.new hp7 (.tup [.int a.a, .int a.b])
    have c7 : upd H' p7 (.tup [.int a.a, .int a.b]) p7 = some (.tup [.int a.a, .int a.b]) := upd_same
    generalize upd H' p7 (.tup [.int a.a, .int a.b]) = H7 at *
    refine ⟨_, rfl, _, rfl, by show 2 ≤ sizeLine; decide, fun p8 hp8 => ?_⟩
    have s8 := Same.new hp8 (.tup [.int e.a, .int e.b])
    have c8 : upd H7 p8 (.tup [.int e.a, .int e.b]) p8 = some (.tup [.int e.a, .int e.b]) := upd_same
    generalize upd H7 p8 (.tup [.int e.a, .int e.b]) = H8 at *
    refine ⟨.tuple [.int a.a, .int a.b], .tuple [.int e.a, .int e.b], .tup (SqT.of (s8 _ _ c7)) (.cons (.int _) (.cons (.int _) .nil)), .tup (SqT.of c8) (.cons (.int _) (.cons (.int _) .nil)), by rfl, by rfl, _, rfl, ?_⟩
    have e1 : PyData.eqv (.tuple [.int a.a, .int a.b]) (.tuple [.int e.a, .int e.b]) = (decide (a.a = e.a) && decide (a.b = e.b)) := by
      show (decide ((a.a : Int) = e.a) && (decide ((a.b : Int) = e.b) && true)) = _
      rw [Bool.and_true, show decide ((a.a : Int) = e.a) = decide (a.a = e.a) from decide_eq_decide.mpr (by omega), show decide ((a.b : Int) = e.b) = decide (a.b = e.b) from decide_eq_decide.mpr (by omega)]
    rw [e1]
    rw [decide_eq_true z, Bool.true_and] at wv
    cases y : (!(decide (a.a = e.a) && decide (a.b = e.b))) with
    | false =>
      rw [y] at wv
      exact iteFF rfl (kr (if_neg (by rw [wv]; exact Bool.false_ne_true)) _ (s7.trans s8))
    | true =>
      rw [y] at wv
      refine iteTT rfl ⟨_, rfl, tb, _, rfl, .inr (Same.tup (s7.trans s8) htb), _, rfl, _, rfl, _, _, rfl, rfl, _, _, rfl, rfl, ?_⟩
      rw [List.length_map]
      exact kq _ (grow a) _ (if_pos wv) (s7.trans s8) rfl
  have eys : ys = ((dn.filter (wvB e)).map grow).map V.int := by
    have z : ∀ {ys : List V} {gs : List Int}, RelL (fun v (g : Int) => v = V.int g) ys gs → ys = gs.map V.int := by
      intro ys
      induction ys with
      | nil => intro gs h; cases gs with
        | nil => rfl
        | cons _ _ => exact h.elim
      | cons v ys ih => intro gs h; cases gs with
        | nil => exact h.elim
        | cons g gs => rw [List.map_cons, ← ih h.2, h.1]
    have z2 : ∀ l : List Ed, (l.filterMap fun x => if wvB e x = true then some (grow x) else none) = (l.filter (wvB e)).map grow := by
      intro l
      induction l with
      | nil => rfl
      | cons x l ih =>
        by_cases h : wvB e x = true
        · rw [List.filterMap_cons_some (by rw [if_pos h]), List.filter_cons_of_pos h, ih, List.map_cons]
        · rw [List.filterMap_cons_none (by rw [if_neg h]), List.filter_cons_of_neg h, ih]
    rw [z hys, z2]
  subst eys
  refine ⟨D, (dn.filter (wvB e)).map grow, rfl, SqL.of hL6, ?_⟩
  obtain ⟨g, hg⟩ : ∃ g : Int, g = growC (dn.filter (wvB e)) := ⟨_, rfl⟩
  have eg : ((dn.filter (wvB e)).map grow).sum = g := hg.symm
  rw [eg]
  have hndA : (dn ++ lf).Nodup := hP.nodup_iff.mpr hnd
  rw [List.nodup_append] at hndA
  obtain ⟨T, hT, hmT, hwv⟩ := weave1 (l := ws) hSd hmd hndA.1 (fun x hx => by
    have z := hok x (inC x (.inl ((hmd x).mp hx)))
    exact ⟨z.1, z.2.1⟩) hNe heL fun x hx => by
      have hxd := (hmd x).mp hx
      have hxC := inC x (.inl hxd)
      exact (pw_go hBf x ((hmem x).mpr hxC) e ((hmem e).mpr heC)).bf (hok x hxC).1.1 hNe.1 fun z => hndA.2.2 x hxd e (List.mem_of_getElem? he) z
  obtain ⟨w1, w2, w3, w4⟩ := hwv g hg
  obtain ⟨i, hi⟩ : ∃ i : Nat, (e.a : Int) + g = (i : Int) := ⟨((e.a : Int) + g).toNat, by omega⟩
  obtain ⟨j, hj⟩ : ∃ j : Nat, (e.b : Int) + g = (j : Int) := ⟨((e.b : Int) + g).toNat, by omega⟩
  rw [hi, hj, Int.toNat_natCast, Int.toNat_natCast] at w4
  rw [hi, hj] at w2
  rw [hj] at w3
  have hlen := apc_len (l := ws) hSd (fun x hx => inC x (.inl ((hmd x).mp hx))) fun x hx => (hok x hx).1
  have hlenT := apc_len (l := ws) hT (fun x hx => inC x (by
    rcases List.mem_append.mp ((hmT x).mp hx) with z | z
    · exact .inl z
    · rw [List.mem_singleton.mp z]; exact .inr (List.mem_of_getElem? he))) fun x hx => (hok x hx).1
  have lt := congrArg List.length w4
  rw [List.length_append, List.length_append, List.length_take, List.length_drop] at lt
  have hnw6 := s6 _ _ hnw5
  have hta6 := Same.tup s6 hta5
  refine ⟨_, rfl, _, rfl, _, rfl, _, _, rfl, rfl, (i : Int), congrArg V.int hi, nw, _, rfl, SqL.of hnw6, fun l1 hl1 => ?_⟩
  have s7 := Same.new hl1 (.lst (cutV ((apC Sd 0 ws).map V.str) none (some (i : Int))))
  have c7 : upd H6 l1 (.lst (cutV ((apC Sd 0 ws).map V.str) none (some (i : Int)))) l1 = some (.lst (((apC Sd 0 ws).take i).map V.str)) := by
    rw [upd_same, cut_to _ _ (by rw [List.length_map]; omega), List.map_take]
  generalize upd H6 l1 (.lst (cutV ((apC Sd 0 ws).map V.str) none (some (i : Int)))) = H7 at *
  refine ⟨_, rfl, te, _, rfl, .inr (Same.tup s7 hta6), fun l2 hl2 => ?_⟩
  have s8 := Same.new hl2 (.lst (e.ws.map V.str))
  have c8 : upd H7 l2 (.lst (e.ws.map V.str)) l2 = some (.lst (e.ws.map V.str)) := upd_same
  have c7' := s8 _ _ c7
  generalize upd H7 l2 (.lst (e.ws.map V.str)) = H8 at *
  refine ⟨l1, l2, _, _, rfl, rfl, c7', c8, sz (by rw [List.length_map, List.length_map, List.length_take]; omega), fun l3 hl3 => ?_⟩
  have s9 := Same.new hl3 (.lst (((apC Sd 0 ws).take i).map V.str ++ e.ws.map V.str))
  have c9 : upd H8 l3 (.lst (((apC Sd 0 ws).take i).map V.str ++ e.ws.map V.str)) l3 = some (.lst (((apC Sd 0 ws).take i).map V.str ++ e.ws.map V.str)) := upd_same
  generalize upd H8 l3 (.lst (((apC Sd 0 ws).take i).map V.str ++ e.ws.map V.str)) = H9 at *
  have s69 := (s7.trans s8).trans s9
  refine ⟨_, rfl, _, rfl, _, rfl, _, _, rfl, rfl, (j : Int), congrArg V.int hj, nw, _, rfl, SqL.of (s69 _ _ hnw6), fun l4 hl4 => ?_⟩
  have sA := Same.new hl4 (.lst (cutV ((apC Sd 0 ws).map V.str) (some (j : Int)) none))
  have cA : upd H9 l4 (.lst (cutV ((apC Sd 0 ws).map V.str) (some (j : Int)) none)) l4 = some (.lst (((apC Sd 0 ws).drop j).map V.str)) := by
    rw [upd_same, cut_from _ _ (by rw [List.length_map]; omega), List.map_drop]
  have c9' := sA _ _ c9
  generalize upd H9 l4 (.lst (cutV ((apC Sd 0 ws).map V.str) (some (j : Int)) none)) = HA at *
  refine ⟨l3, l4, _, _, rfl, rfl, c9', cA, sz (by rw [List.length_append, List.length_map, List.length_map, List.length_map, List.length_take, List.length_drop]; omega), fun l5 hl5 => ?_⟩
  have eT : ((apC Sd 0 ws).take i).map V.str ++ e.ws.map V.str ++ ((apC Sd 0 ws).drop j).map V.str = (apC T 0 ws).map V.str := by
    rw [← w4, List.map_append, List.map_append, List.append_assoc]
  rw [eT]
  have sB := Same.new hl5 (.lst ((apC T 0 ws).map V.str))
  have cB : upd HA l5 (.lst ((apC T 0 ws).map V.str)) l5 = some (.lst ((apC T 0 ws).map V.str)) := upd_same
  have s5A := s6.trans (s69.trans sA)
  have l5n1 : l5 ≠ F1 := fun z => by have y := s5A _ _ hFd5; rw [← z, hl5] at y; cases y
  have l5n2 : l5 ≠ F2 := fun z => by have y := s5A _ _ hFl5; rw [← z, hl5] at y; cases y
  have l5nd : l5 ≠ d := ((dr5.same s5A).new hl5).1
  generalize upd HA l5 (.lst ((apC T 0 ws).map V.str)) = HB at *
  have s5B := s5A.trans sB
  -- it is done
  refine ⟨_, rfl, .inl ⟨rfl, _, .inl (.inl (s5B _ _ hFd5))⟩, _, rfl, _, rfl, _, rfl, by show 3 ≤ sizeLine; decide, fun Tp hTp => ?_⟩
  have sC := Same.new hTp (.tup [.int e.a, .int e.b, .ref te])
  have cC : upd HB Tp (.tup [.int e.a, .int e.b, .ref te]) Tp = some (.tup [.int e.a, .int e.b, .ref te]) := upd_same
  have s5C := s5B.trans sC
  have cB' := sC _ _ cB
  have hFdC := s5C _ _ hFd5
  have hFlC := s5C _ _ hFl5
  have htaC := Same.tup s5C hta5
  have hDC : RelL (ChV K (upd HB Tp (.tup [.int e.a, .int e.b, .ref te]))) dv dn := RelL.imp (fun _ _ z => ChV.same s5C z) hD5
  have hLC : RelL (ChV K (upd HB Tp (.tup [.int e.a, .int e.b, .ref te]))) (lv.eraseIdx k) (lf.eraseIdx k) := RelL.imp (fun _ _ z => ChV.same s5C z) hL5
  have drC := dr5.same s5C
  have aC := a5.trans (Aft.of s5C)
  generalize upd HB Tp (.tup [.int e.a, .int e.b, .ref te]) = HC at *
  have AC : ChV K HC (.ref Tp) e := ⟨Tp, te, rfl, SqT.of cC, htaC⟩
  refine ⟨F1, dv, .ref Tp, rfl, rfl, hFdC, Nat.lt_of_lt_of_le (by omega : dv.length < 1000) (sz (Nat.le_refl _)), ?_⟩
  refine ⟨dn ++ [e], lf.eraseIdx k, T, dv ++ [.ref Tp], lv.eraseIdx k, l5, _, _, _, _, _, _, _, ?_, rfl, Aft.acc hF1H aC, drC.upd n1.1 n1.2, upd_same, RelL.app (RelL.imp (fun _ _ z => ChV.put hFdC z) hDC) (RelL.one (AC.put hFdC)), ?_, RelL.imp (fun _ _ z => ChV.put hFdC z) hLC, ?_, ?_, hT, hmT, l5n1, l5n2, l5nd⟩
  · rw [List.length_eraseIdx]
    split <;> omega
  · rw [upd_ne (Ne.symm n12)]
    exact hFlC
  · rw [List.append_assoc]
    exact ((erase_perm he).symm.append_left dn).trans hP
  · rw [upd_ne l5n1]
    exact cB'
end
end P5

end
section
set_option Elab.async false
set_option linter.all false
set_option maxRecDepth 100000
set_option maxHeartbeats 4000000
/-! the law's rows: the drawing -/
namespace P5
open PySem PySem.Spec PySem.SeqAt PySem.W PyProof.Rows L2 EN ND
abbrev sLw : Stmt := tp 49
abbrev NLw : List Str := ["script", "draw", "many", "one", "other", "change", "first", "second", "told", "bad", "at", "late", "three", "pairs", "whole", "words", "due", "again", "edit", "moved", "number", "pair", "patch", "letter"]
theorem scLw : FnScope NLw ["script"] (defScope sLw) := ⟨rfl, rfl, rfl, by decide +kernel, rfl, by decide +kernel, by decide +kernel⟩
abbrev stW (i : Nat) : Stmt := (defBody sLw).getD i (.Pass ⟨0, 0, 0, 0⟩)
abbrev XW (P : Program) (w : World) (K : PySem.W.Frag) (mg : Str → Option Value) (base : Heap) (fL : Addr) (cdv : Value) (A : Around) (outer : List Env) (s : Shared) (H : Hp) (E : XK) : Cx :=
  (cxOf CX0 P w K mg base NLw "law" (defScope sLw) fL cdv A outer s H E).nox
/-- drawn changes, at most l -/
structure DrL (C : List Ed) (n l : Nat) : Prop where
  apt : Apt false 0 C
  fin : ∀ x ∈ C, x.b ≤ n
  len : C.length ≤ l
  few : ∀ e ∈ C, e.ws.length ≤ 2 ∧ ∀ x ∈ e.ws, x ∈ PK6
theorem DrC.dl {C : List Ed} {n : Nat} (h : DrC C n) : DrL C n 3 := ⟨h.apt, fun x hx => Nat.le_trans (h.apt.row.mem x hx).2.2 h.fin, h.len, h.few⟩
theorem DrL.more {C : List Ed} {n l l' : Nat} (h : DrL C n l) (hl : l ≤ l') : DrL C n l' := ⟨h.apt, h.fin, Nat.le_trans h.len hl, h.few⟩
theorem apt_weak : ∀ {C : List Ed} {t : Bool} {s s' : Nat}, Apt true s' C → s ≤ s' → Apt t s C
  | [], _, _, _, _, _ => .nil
  | e :: C, t, s, s', .cons h1 h2 h3 h4 h5, h => .cons (by omega) (fun _ => by have := h2 rfl; omega) h3 h4 h5
theorem apt_raise : ∀ {C : List Ed} {t t' : Bool} {s s' : Nat}, Apt t s C → (∀ x ∈ C, s' < x.a) → Apt t' s' C
  | [], _, _, _, _, _, _ => .nil
  | e :: C, t, t', s, s', .cons h1 h2 h3 h4 h5, h => .cons (Nat.le_of_lt (h e List.mem_cons_self)) (fun _ => h e List.mem_cons_self) h3 h4 h5
theorem apt_filter (p : Ed → Bool) : ∀ {C : List Ed} {t : Bool} {s : Nat}, Apt t s C → Apt t s (C.filter p)
  | [], _, _, _ => .nil
  | e :: C, t, s, .cons h1 h2 h3 h4 h5 => by
    by_cases c : p e = true
    · rw [List.filter_cons_of_pos c]
      exact .cons h1 h2 h3 h4 (apt_filter p h5)
    · rw [List.filter_cons_of_neg c]
      have z := apt_filter p h5
      cases t with
      | true => exact apt_weak z (by have := h2 rfl; omega)
      | false => exact apt_weak z (by omega)
theorem DrL.cons {e : Ed} {C : List Ed} {n l : Nat} (h : DrL C n l) (he : Ne e) (hn : e.b ≤ n) (hf : e.ws.length ≤ 2 ∧ ∀ x ∈ e.ws, x ∈ PK6) : DrL (e :: C.filter fun x => decide (e.b < x.a)) n (l + 1) where
  apt := .cons (Nat.zero_le _) (fun z => nomatch z) he.1 he.2 (apt_raise (apt_filter _ h.apt) fun x hx => of_decide_eq_true (List.mem_filter.mp hx).2)
  fin := fun x hx => by
    rcases List.mem_cons.mp hx with z | z
    · rw [z]; exact hn
    · exact h.fin x (List.mem_filter.mp z).1
  len := by
    have := List.length_filter_le (fun x => decide (e.b < x.a)) C
    have := h.len
    rw [List.length_cons]
    omega
  few := fun x hx => by
    rcases List.mem_cons.mp hx with z | z
    · rw [z]; exact hf
    · exact h.few x (List.mem_filter.mp z).1
theorem DrL.ok {C : List Ed} {n l m : Nat} (h : DrL C n l) (hn : n ≤ m) (hm : m ≤ 60) (hl : l ≤ 5) : PtOk C m ∧ Sml C m := by
  have hlen := h.len
  have ht : tot C ≤ 2 * C.length := by
    have z : ∀ {L : List Ed}, (∀ e ∈ L, e.ws.length ≤ 2) → tot L ≤ 2 * L.length := by
      intro L
      induction L with
      | nil => intro _; exact Nat.le_refl _
      | cons e L ih =>
        intro hh
        have t1 : tot (e :: L) = e.ws.length + tot L := by unfold tot; rw [List.map_cons, List.sum_cons]
        have := ih fun x hx => hh x (List.mem_cons_of_mem _ hx)
        have := hh e List.mem_cons_self
        rw [t1, List.length_cons]
        omega
    exact z fun e he => (h.few e he).1
  refine ⟨⟨h.apt, end_le (fun x hx => Nat.le_trans (h.fin x hx) hn) (Nat.zero_le _), fun e he => ⟨(h.apt.row.mem e he).2.1.1, fun x hx => pk6 x ((h.few e he).2 x hx), ?_, ?_⟩, by omega, by omega⟩, by omega, by omega, by omega⟩
  · have := (h.few e he).1
    omega
  · have := h.fin e he
    omega
/-- a tuple of changes -/
def RwC (K : PySem.W.Frag) (H : Hp) (t : Addr) (C : List Ed) : Prop := ∃ cv, SqT K H t cv ∧ ChsV K H cv C
theorem RwC.same {K : PySem.W.Frag} {H H' : Hp} {t : Addr} {C : List Ed} (s : Same H H') (h : RwC K H t C) : RwC K H' t C := by
  obtain ⟨cv, h1, h2⟩ := h
  exact ⟨cv, Same.tup s h1, h2.imp fun _ _ z => Same.tup s z⟩
theorem RwC.aft {K : PySem.W.Frag} {H H' : Hp} {t d sa : Addr} {C : List Ed} (hd : DrwS H d sa) (a : Aft H H' d) (h : RwC K H t C) : RwC K H' t C := by
  obtain ⟨cv, h1, h2⟩ := h
  exact ⟨cv, Aft.tup hd.drw a h1, h2.imp fun _ _ z => Aft.tup hd.drw a z⟩
/-- what the law calls -/
structure CW (P : Program) (w : World) (K : PySem.W.Frag) (mg : Str → Option Value) (base : Heap) (CE CP CT CC CB : Addr) : Prop where
  next : Cl P w K mg base "_law_next" ["draw", "bound"] spNext
  pick : Cl P w K mg base "_law_pick" ["draw", "things"] (spPick K)
  chs : Cl P w K mg base "_law_changes" ["draw", "many"] (spLch K)
  fit : Cl P w K mg base "_law_fit" ["one", "other"] (spFitL K)
  wv : Cl P w K mg base "_law_weave" ["draw", "changes", "words"] (spWv K)
  tog : Cl P w K mg base "together" ["one", "other"] (spTo K CP CT CC)
  att : Cl P w K mg base "all_together" ["patches"] (spAt K CP)
  beh : Cl P w K mg base "behind" ["one", "other"] (spBeh K CP)
  car : Cl P w K mg base "carried" ["one", "other"] (spCar K CE)
  bn : BN mg
  srt : mg "sorted" = none
  set_ : mg "set" = none
  bool_ : mg "bool" = none
  min_ : mg "min" = none
  mkP : MkC P w K mg base "Patch" CP 5 ["self", "changes", "least"] (spPInit K CP)
  mkC : MkC P w K mg base "Clash" CC 1 ["self", "one", "other"] (spCIni CC)
  mkT : MkC P w K mg base "Together" CT 8 NTIni (spTIni K CP CT)
  mkE : ∃ fI fdI, MkE P w K mg base CE fI fdI
  eqP : SpC P w K mg base CP "__eq__" ["self", "other"] (spPEq K CP)
  neP : PySem.W.findIn K (.ref CP) "__ne__" = some (some (.builtin "object.__ne__"))
  obP : PySem.W.subIn K (.ref CP) (.type "object") = some true
  eqC : SpC P w K mg base CC "__eq__" ["self", "other"] (spCEq CC)
  neC : PySem.W.findIn K (.ref CC) "__ne__" = some (some (.builtin "object.__ne__"))
  obC : PySem.W.subIn K (.ref CC) (.type "object") = some true
  eqT : SpC P w K mg base CT "__eq__" ["self", "other"] (spTEq K CP CT)
  neT : PySem.W.findIn K (.ref CT) "__ne__" = some (some (.builtin "object.__ne__"))
  obT : PySem.W.subIn K (.ref CT) (.type "object") = some true
  bT : MtK P w K mg base CT 1 "__bool__" ["self"] (spYes true)
  bC : MtK P w K mg base CC 1 "__bool__" ["self"] (spYes false)
  call : ClP P w K mg base CP CB
  gP : MtC P w K mg base CP "growth" ["self"] (spPGrow K CP)
  clE : EC K CE
  clP : PC K CP
  clT : TC K CT
  clC : CC2 K CC
section
variable {P : Program} {w : World} {K : PySem.W.Frag} {mg : Str → Option Value} {base : Heap} {fL CE CP CB CT CC : Addr} {cdv : Value} {A : Around} {outer : List Env} {s : Shared} {H0 : Hp} {E : XK}
theorem lw0 : ∃ t, PS (XW P w K mg base fL cdv A outer s H0 E) (stW 0) t ∧ ∀ (D : Ends) (a : Addr) (ns : List Int) (v : Option V) (r : List (Option V)) (H : Hp), SqL K H a (ns.map V.int) → ns.length ≤ 63 →
    (∀ d sa H', DrwS H' d sa → D.nx (some (.ref a) :: some (.ref d) :: r) H') → t D (some (.ref a) :: v :: r) H := by
  refine ⟨_, ps_set (i := 1) scLw.nd rfl (Or.inl rfl) (pe_lst (pa_cons (pe_slice (r := rSlL K) sl_list (pv 0) po_none (po_some pe_int)) (pa_cons pe_int (pa_cons pe_int pa_nil)))), ?_⟩
  intro D a ns v r H hS hl q
  refine ⟨_, rfl, _, rfl, a, _, rfl, hS, fun p hp => ⟨(by show 3 ≤ sizeLine; decide), fun d hd => ?_⟩⟩
  have s2 := Same.new hd (.lst [.ref p, .int 0, .int 0])
  refine q d p _ ⟨ns.take 63, 0, upd_same, s2 _ _ ?_, by rw [List.length_take]; omega, Int.le_refl _⟩
  rw [upd_same]
  unfold cutV
  rw [show HT.sIx (ns.map V.int).length 0 none = 0 from rfl, show (some (63 : Int)) = some ((63 : Nat) : Int) from rfl, six0, List.drop_zero, Nat.sub_zero, List.map_take]
  by_cases h : 63 ≤ (ns.map V.int).length
  · rw [Nat.min_eq_left h]
  · rw [Nat.min_eq_right (by omega), List.take_of_length_le (Nat.le_refl _), List.take_of_length_le (by omega)]
theorem lw1 (hr : Room 22 (XW P w K mg base fL cdv A outer s H0 E).A) (C : CW P w K mg base CE CP CT CC CB) : ∃ t, PS (XW P w K mg base fL cdv A outer s H0 E) (stW 1) t ∧ ∀ (D : Ends) (a d sa : Addr) (H : Hp), DrwS H d sa →
    (∀ (n : Nat) H', DrwS H' d sa → 4 ≤ n → n ≤ 9 → D.nx [some (.ref a), some (.ref d), some (.int n), none, none, none, none, none, none, none, none, none, none, none, none, none, none, none, none, none, none, none, none, none] H') → t D [some (.ref a), some (.ref d), none, none, none, none, none, none, none, none, none, none, none, none, none, none, none, none, none, none, none, none, none, none] H := by
  refine ⟨_, ps_set (i := 2) scLw.nd rfl (Or.inl rfl) (pe_op op_add pe_int (pe_cl C.next (hr.mono (by decide)) (pa_cons (pv 1) (pa_cons pe_int pa_nil)))), ?_⟩
  intro D a d sa H hd q
  refine ⟨_, rfl, d, sa, 6, rfl, hd, by decide, fun r H1 r0 r1 a1 d1 => ⟨_, _, rfl, rfl, ?_⟩⟩
  have z := q (4 + r.toNat) H1 d1 (by omega) (by omega)
  rw [show ((4 + r.toNat : Nat) : Int) = 4 + r from by omega] at z
  exact z
theorem lw2 (hr : Room 22 (XW P w K mg base fL cdv A outer s H0 E).A) (C : CW P w K mg base CE CP CT CC CB) : ∃ t, PS (XW P w K mg base fL cdv A outer s H0 E) (stW 2) t ∧ ∀ (D : Ends) (a d sa : Addr) (n : Nat) (H : Hp), DrwS H d sa → n ≤ 9 →
    (∀ t1 t2 C1 C2 H', DrwS H' d sa → RwC K H' t1 C1 → DrL C1 n 3 → RwC K H' t2 C2 → DrL C2 n 3 → D.nx [some (.ref a), some (.ref d), some (.int n), some (.ref t1), some (.ref t2), none, none, none, none, none, none, none, none, none, none, none, none, none, none, none, none, none, none, none] H') → t D [some (.ref a), some (.ref d), some (.int n), none, none, none, none, none, none, none, none, none, none, none, none, none, none, none, none, none, none, none, none, none] H := by
  refine ⟨_, ps_asg (pe_tup (pa_cons (pe_cl C.chs (hr.mono (by decide)) (pa_cons (pv 1) (pa_cons (pv 2) pa_nil))) (pa_cons (pe_cl C.chs (hr.mono (by decide)) (pa_cons (pv 1) (pa_cons (pv 2) pa_nil))) pa_nil))) (pg_tup rfl (pgs_cons (pg_name (i := 3) scLw.nd rfl (Or.inr rfl)) (pgs_cons (pg_name (i := 4) scLw.nd rfl (Or.inl rfl)) pgs_nil))), ?_⟩
  intro D a d sa n H hd hn q
  refine ⟨_, rfl, _, rfl, d, sa, n, rfl, hd, by omega, fun H1 t1 c1 C1 a1 d1 h1 v1 k1 => ?_⟩
  refine ⟨_, rfl, _, rfl, d, sa, n, rfl, d1, by omega, fun H2 t2 c2 C2 a2 d2 h2 v2 k2 => ?_⟩
  refine ⟨by show 2 ≤ sizeLine; decide, fun p hp => ?_⟩
  have s3 := Same.new hp (.tup [.ref t1, .ref t2])
  refine ⟨p, _, rfl, SqT.of upd_same, rfl, _, _, rfl, _, _, rfl, rfl, ?_⟩
  exact q t1 t2 C1 C2 _ (d2.same s3) ((RwC.aft d1 a2 ⟨c1, h1, v1⟩).same s3) k1.dl (RwC.same s3 ⟨c2, h2, v2⟩) k2.dl
end
end P5

end
section
set_option Elab.async false
set_option linter.all false
set_option maxRecDepth 100000
set_option maxHeartbeats 4000000
/-! the law's rows: the two exchanges -/
namespace P5
open PySem PySem.Spec PySem.SeqAt PySem.W PyProof.Rows L2 EN ND
theorem at_first (v : V) (l : List V) : atI (v :: l) 0 = some v := by
  unfold atI ixN
  rw [if_pos (by decide), if_pos (by rw [List.length_cons]; omega)]
  rfl
section
variable {P : Program} {w : World} {K : PySem.W.Frag} {mg : Str → Option Value} {base : Heap} {fL CE CP CB CT CC : Addr} {cdv : Value} {A : Around} {outer : List Env} {s : Shared} {H0 : Hp} {E : XK}
theorem lw3 (hr : Room 22 (XW P w K mg base fL cdv A outer s H0 E).A) (C : CW P w K mg base CE CP CT CC CB) : ∃ t, PS (XW P w K mg base fL cdv A outer s H0 E) (stW 3) t ∧ ∀ (D : Ends) (a d sa t1 t2 : Addr) (C1 C2 : List Ed) (n : Nat) (H : Hp), DrwS H d sa → n ≤ 9 → RwC K H t1 C1 → DrL C1 n 3 → RwC K H t2 C2 → DrL C2 n 3 →
    (∀ t2 C2 H', DrwS H' d sa → RwC K H' t1 C1 → RwC K H' t2 C2 → DrL C2 n 4 → D.nx [some (.ref a), some (.ref d), some (.int n), some (.ref t1), some (.ref t2), none, none, none, none, none, none, none, none, none, none, none, none, none, none, none, none, none, none, none] H') → t D [some (.ref a), some (.ref d), some (.int n), some (.ref t1), some (.ref t2), none, none, none, none, none, none, none, none, none, none, none, none, none, none, none, none, none, none, none] H := by
  refine ⟨_, ps_if (PW.pt (pw_and (pt_cmpR (op_neD (hu64 hr)) (pv 3) (pe_tup pa_nil) (nomark _)) (pw_and1 (pt_cmpR op_eq (pe_cl C.next (hr.mono (by decide)) (pa_cons (pv 1) (pa_cons pe_int pa_nil))) pe_int (nomark _)))))
    (pss_one (ps_set (i := 4) scLw.nd rfl (Or.inl rfl) (pe_op (r := rCatA K) op_catA (pe_tup (pa_cons (pe_ix (r := rIxT K) ix_tup (pv 3) pe_int (fun _ _ => rfl)) pa_nil)) (pe_callTy call_tuple_of rfl C.bn.tup (by decide +kernel) (pa_cons (pe_lc (own := [("change", 5)]) (g := gName 5) rfl scLw.nd (pi_tup (pv 4)) (blkOk_by (N := NLw) (sc := defScope sLw) (by decide +kernel)) (fun _ _ _ _ _ => pg_name (i := 5) scLw.nd rfl (Or.inl rfl)) (fun _ _ _ _ _ => pts_one (pt_cmpR op_gt (pe_ix (r := rIxT K) ix_tup (pv 5) pe_int (fun _ _ => rfl)) (pe_ix (r := rIxT K) ix_tup (pe_ix (r := rIxT K) ix_tup (pv 3) pe_int (fun _ _ => rfl)) pe_int (fun _ _ => rfl)) (nomark _))) (fun _ _ _ _ _ => pv 5)) pa_nil))))) pss_nil, ?_⟩
  intro D a d sa t1 t2 C1 C2 n H hd hn h1 k1 h2 k2 q
  refine ⟨_, rfl, by show 0 ≤ sizeLine; decide, fun p hp => ?_⟩
  have s1 := Same.new hp (.tup [])
  have cp : upd H p (.tup []) p = some (.tup []) := upd_same
  have g1 := h1.same s1
  have g2 := h2.same s1
  have d1 := hd.same s1
  generalize upd H p (.tup []) = H1 at *
  obtain ⟨c1, hT1, hV1⟩ := id g1
  obtain ⟨c2, hT2, hV2⟩ := id g2
  have ok1 := (k1.ok (m := n) (Nat.le_refl _) (by omega) (by decide)).1
  have hc1 : c1.length = C1.length := hV1.len
  have hc2 : c2.length = C2.length := hV2.len
  have l1 := k1.len
  have l2 := k2.len
  refine ⟨.tuple (C1.map chD), .tuple [], .tup hT1 (dp_chs hV1), .tup (SqT.of cp) .nil, shaped_chsT ok1.ok, by rfl, _, rfl, ?_⟩
  have e1 : PyData.eqv (.tuple (C1.map chD)) (.tuple []) = decide (C1 = []) := by
    cases C1 <;> rfl
  rw [e1]
  by_cases c : C1 = []
  · exact iteFF (by rw [decide_eq_true c]; rfl) (iteFF rfl (q t2 C2 H1 d1 g1 g2 (k2.more (by decide))))
  refine iteTT (by rw [decide_eq_false c]; rfl) ?_
  refine ⟨_, rfl, d, sa, 3, rfl, d1, by decide, fun r H2 r0 r1 a2 d2 => ⟨rfl, _, rfl, ite2 (fun _ => ?_) (fun _ => q t2 C2 H2 d2 (g1.aft d1 a2) (g2.aft d1 a2) (k2.more (by decide)))⟩⟩
  obtain ⟨e, C1', rfl⟩ : ∃ e C1', C1 = e :: C1' := by
    cases C1 with
    | nil => exact absurd rfl c
    | cons e C1' => exact ⟨e, C1', rfl⟩
  obtain ⟨c1, hT1, hV1⟩ := g1.aft d1 a2
  obtain ⟨c2, hT2, hV2⟩ := g2.aft d1 a2
  cases c1 with
  | nil => exact hV1.elim
  | cons v c1 =>
  obtain ⟨xe, te, rfl, hxe, hte⟩ := id hV1.1
  have hc2 : c2.length = C2.length := hV2.len
  refine ⟨_, rfl, t1, _, 0, .ref xe, rfl, rfl, hT1, at_first _ _, by show 1 ≤ sizeLine; decide, fun p3 hp3 => ?_⟩
  have s3 := Same.new hp3 (.tup [.ref xe])
  have c3 : upd H2 p3 (.tup [.ref xe]) p3 = some (.tup [.ref xe]) := upd_same
  have d3 := d2.same s3
  have hT13 := Same.tup s3 hT1
  have hV13 : ChsV K (upd H2 p3 (.tup [.ref xe])) (.ref xe :: c1) (e :: C1') := hV1.imp fun _ _ z => Same.tup s3 z
  have hT23 := Same.tup s3 hT2
  have hV23 : ChsV K (upd H2 p3 (.tup [.ref xe])) c2 C2 := hV2.imp fun _ _ z => Same.tup s3 z
  have hxe3 := Same.tup s3 hxe
  generalize upd H2 p3 (.tup [.ref xe]) = H3 at *
  refine ⟨_, rfl, t2, rfl, ⟨_, hT23⟩, fun L hL => ?_⟩
  refine lcM (K := K) (as := C2) (fun x => if (decide (e.b < x.a)) = true then some x else none) (fun H v x => ChV K H v x) (fun H v x => ChV K H v x) walk_tup (by omega) (fun H' s => Same.tup s hT23) hL (chs_rel.mp hV23) (fun H' v a s z => ChV.same s z) (fun H2 H' v b f z => z.imp f) (fun x b H' Q' Rn hb hR s kq kr => ?_) fun H4 ys s4 hL4 hys => ?_
  · obtain ⟨xb, tb, rfl, hxb, htb⟩ := id hR
    refine ⟨rfl, _, rfl, xb, _, 0, .int b.a, rfl, rfl, hxb, rfl, _, rfl, t1, _, 0, .ref xe, rfl, rfl, Same.tup s hT13, at_first _ _, xe, _, 1, .int e.b, rfl, rfl, Same.tup s hxe3, rfl, _, _, rfl, rfl, _, rfl, ?_⟩
    by_cases y : e.b < b.a
    · exact iteTT (decide_eq_true (by omega)) ⟨_, rfl, kq _ b _ (if_pos (decide_eq_true y)) (Same.refl _) hR⟩
    · exact iteFF (decide_eq_false (by omega)) (kr (if_neg (by rw [decide_eq_true_eq]; exact y)) _ (Same.refl _))
  rw [filterMap_filter] at hys
  have hyl : ys.length ≤ C2.length := by rw [hys.len]; exact List.length_filter_le _ _
  refine ⟨L, ys, rfl, .inl ⟨SqL.of hL4, fun t5 ht5 => ?_⟩⟩
  have s5 := Same.new ht5 (.tup ys)
  have c5 : SqT K (upd H4 t5 (.tup ys)) t5 ys := SqT.of upd_same
  have hys5 : RelL (ChV K (upd H4 t5 (.tup ys))) ys (C2.filter fun x => decide (e.b < x.a)) := RelL.imp (fun _ _ z => ChV.same s5 z) hys
  have s35 := s4.trans s5
  have d5 := d3.same s35
  have c35 := s35 _ _ c3
  generalize upd H4 t5 (.tup ys) = H5 at *
  refine catA_of (SqT.of c35) c5 (small_le (by show 1 + ys.length ≤ 1000; omega)) fun H6 t6 s6 ht6 => ?_
  have s36 := s35.trans s6
  refine q t6 (e :: C2.filter fun x => decide (e.b < x.a)) H6 (d5.same s6) ⟨_, Same.tup s36 hT13, hV13.imp fun _ _ z => Same.tup s36 z⟩ ⟨_, ht6, (ChV.same s36 hV13.1), chs_rel.mpr (RelL.imp (fun _ _ z => ChV.same s6 z) hys5)⟩ (k2.cons (k1.apt.row.mem e List.mem_cons_self).2.1 (k1.fin e List.mem_cons_self) (k1.few e List.mem_cons_self))
end
end P5

end
section
set_option Elab.async false
set_option linter.all false
set_option maxRecDepth 100000
set_option maxHeartbeats 4000000
/-! the law's rows: the second exchange -/
namespace P5
open PySem PySem.Spec PySem.SeqAt PySem.W PyProof.Rows L2 EN ND
section
variable {P : Program} {w : World} {K : PySem.W.Frag} {mg : Str → Option Value} {base : Heap} {fL CE CP CB CT CC : Addr} {cdv : Value} {A : Around} {outer : List Env} {s : Shared} {H0 : Hp} {E : XK}
theorem lw4 (hr : Room 22 (XW P w K mg base fL cdv A outer s H0 E).A) (C : CW P w K mg base CE CP CT CC CB) : ∃ t, PS (XW P w K mg base fL cdv A outer s H0 E) (stW 4) t ∧ ∀ (D : Ends) (a d sa t1 t2 : Addr) (C1 C2 : List Ed) (n : Nat) (H : Hp), DrwS H d sa → 4 ≤ n → n ≤ 9 → RwC K H t1 C1 → DrL C1 n 3 → RwC K H t2 C2 → DrL C2 n 4 →
    (∀ t1 t2 C1 C2 H', DrwS H' d sa → RwC K H' t1 C1 → DrL C1 n 5 → RwC K H' t2 C2 → DrL C2 n 5 → D.nx [some (.ref a), some (.ref d), some (.int n), some (.ref t1), some (.ref t2), none, none, none, none, none, none, none, none, none, none, none, none, none, none, none, none, none, none, none] H') → t D [some (.ref a), some (.ref d), some (.int n), some (.ref t1), some (.ref t2), none, none, none, none, none, none, none, none, none, none, none, none, none, none, none, none, none, none, none] H := by
  refine ⟨_, ps_if (pt_cmpR op_eq (pe_cl C.next (hr.mono (by decide)) (pa_cons (pv 1) (pa_cons pe_int pa_nil))) pe_int (nomark _)) (pss_one (ps_asg (pe_tup (pa_cons (pe_op (r := rCatA K) op_catA (pe_tup (pa_cons (pe_tup (pa_cons pe_int (pa_cons pe_int (pa_cons (pe_tup (pa_cons pe_str pa_nil)) pa_nil)))) pa_nil)) (pe_callTy call_tuple_of rfl C.bn.tup (by decide +kernel) (pa_cons (pe_lc (own := [("change", 5)]) (g := gName 5) rfl scLw.nd (pi_tup (pv 3)) (blkOk_by (N := NLw) (sc := defScope sLw) (by decide +kernel)) (fun _ _ _ _ _ => pg_name (i := 5) scLw.nd rfl (Or.inl rfl)) (fun _ _ _ _ _ => pts_one (pt_cmpR op_gt (pe_ix (r := rIxT K) ix_tup (pv 5) pe_int (fun _ _ => rfl)) pe_int (nomark _))) (fun _ _ _ _ _ => pv 5)) pa_nil))) (pa_cons (pe_op (r := rCatA K) op_catA (pe_tup (pa_cons (pe_tup (pa_cons pe_int (pa_cons pe_int (pa_cons (pe_tup (pa_cons (pe_cl C.pick (hr.mono (by decide)) (pa_cons (pv 1) (pa_cons (pe_lst (pa_cons pe_str (pa_cons pe_str pa_nil))) pa_nil))) pa_nil)) pa_nil)))) pa_nil)) (pe_callTy call_tuple_of rfl C.bn.tup (by decide +kernel) (pa_cons (pe_lc (own := [("change", 5)]) (g := gName 5) rfl scLw.nd (pi_tup (pv 4)) (blkOk_by (N := NLw) (sc := defScope sLw) (by decide +kernel)) (fun _ _ _ _ _ => pg_name (i := 5) scLw.nd rfl (Or.inl rfl)) (fun _ _ _ _ _ => pts_one (pt_cmpR op_gt (pe_ix (r := rIxT K) ix_tup (pv 5) pe_int (fun _ _ => rfl)) pe_int (nomark _))) (fun _ _ _ _ _ => pv 5)) pa_nil))) pa_nil))) (pg_tup rfl (pgs_cons (pg_name (i := 3) scLw.nd rfl (Or.inr rfl)) (pgs_cons (pg_name (i := 4) scLw.nd rfl (Or.inl rfl)) pgs_nil))))) pss_nil, ?_⟩
  intro D a d sa t1 t2 C1 C2 n H hd hn4 hn h1 k1 h2 k2 q
  refine ⟨_, rfl, d, sa, 4, rfl, hd, by decide, fun r H2 r0 r1 a2 d2 => ⟨rfl, _, rfl, ite2 (fun _ => ?_) (fun _ => q t1 t2 C1 C2 H2 d2 (h1.aft hd a2) (k1.more (by decide)) (h2.aft hd a2) (k2.more (by decide)))⟩⟩
  have g1 := h1.aft hd a2
  have g2 := h2.aft hd a2
  refine ⟨by show 1 ≤ sizeLine; decide, fun q1 hq1 => ?_⟩
  have sA1 := Same.new hq1 (.tup [.str "a"])
  have cA1 : upd H2 q1 (.tup [.str "a"]) q1 = some (.tup (([("a" : Str)]).map V.str)) := upd_same
  have f1 := g1.same sA1
  generalize upd H2 q1 (.tup [.str "a"]) = HA1 at *
  refine ⟨by show 3 ≤ sizeLine; decide, fun u1 hu1 => ?_⟩
  have sB1 := Same.new hu1 (.tup [.int 1, .int 1, .ref q1])
  have cB1 : upd HA1 u1 (.tup [.int 1, .int 1, .ref q1]) u1 = some (.tup [.int 1, .int 1, .ref q1]) := upd_same
  have cA1' := sB1 _ _ cA1
  generalize upd HA1 u1 (.tup [.int 1, .int 1, .ref q1]) = HB1 at *
  refine ⟨by show 1 ≤ sizeLine; decide, fun y1 hy1 => ?_⟩
  have sC1 := Same.new hy1 (.tup [.ref u1])
  have cC1 : upd HB1 y1 (.tup [.ref u1]) y1 = some (.tup [.ref u1]) := upd_same
  have AC1 : ChV K (upd HB1 y1 (.tup [.ref u1])) (.ref u1) ⟨1, 1, [("a" : Str)]⟩ := ⟨u1, q1, rfl, SqT.of (sC1 _ _ cB1), SqT.of (sC1 _ _ cA1')⟩
  have sX1 := sB1.trans sC1
  have gS1 := f1.same sX1
  generalize upd HB1 y1 (.tup [.ref u1]) = HC1 at *
  obtain ⟨cv1, hT1, hV1⟩ := id gS1
  have hl1 : cv1.length = C1.length := hV1.len
  have hll1 := k1.len
  refine ⟨_, rfl, t1, rfl, ⟨_, hT1⟩, fun L1 hL1 => ?_⟩
  refine lcM (K := K) (as := C1) (fun x => if (decide (1 < x.a)) = true then some x else none) (fun H v x => ChV K H v x) (fun H v x => ChV K H v x) walk_tup (by omega) (fun H' s => Same.tup s hT1) hL1 (chs_rel.mp hV1) (fun H' v a s z => ChV.same s z) (fun H2 H' v b f z => z.imp f) (fun x b H' Q' Rn hb hR s kq kr => ?_) fun HD1 ys1 sD1 hLD1 hys1 => ?_
  · obtain ⟨xb, tb, rfl, hxb, htb⟩ := id hR
    refine ⟨rfl, _, rfl, xb, _, 0, .int b.a, rfl, rfl, hxb, rfl, _, _, rfl, rfl, _, rfl, ?_⟩
    by_cases y : 1 < b.a
    · exact iteTT (decide_eq_true (by omega)) ⟨_, rfl, kq _ b _ (if_pos (decide_eq_true y)) (Same.refl _) hR⟩
    · exact iteFF (decide_eq_false (by omega)) (kr (if_neg (by rw [decide_eq_true_eq]; exact y)) _ (Same.refl _))
  rw [filterMap_filter] at hys1
  have hyl1 : ys1.length ≤ C1.length := by rw [hys1.len]; exact List.length_filter_le _ _
  refine ⟨L1, ys1, rfl, .inl ⟨SqL.of hLD1, fun t51 ht51 => ?_⟩⟩
  have sE1 := Same.new ht51 (.tup ys1)
  have cE1 : SqT K (upd HD1 t51 (.tup ys1)) t51 ys1 := SqT.of upd_same
  have hysE1 : RelL (ChV K (upd HD1 t51 (.tup ys1))) ys1 (C1.filter fun x => decide (1 < x.a)) := RelL.imp (fun _ _ z => ChV.same sE1 z) hys1
  have sDE1 := sD1.trans sE1
  have cCE1 := sDE1 _ _ cC1
  generalize upd HD1 t51 (.tup ys1) = HE1 at *
  refine catA_of (SqT.of cCE1) cE1 (small_le (by show 1 + ys1.length ≤ 1000; omega)) fun HF1 r1' sF1 hr1' => ?_
  have g1' : RwC K HF1 r1' (⟨1, 1, [("a" : Str)]⟩ :: C1.filter fun x => decide (1 < x.a)) := ⟨_, hr1', ChV.same (sDE1.trans sF1) AC1, chs_rel.mpr (RelL.imp (fun _ _ z => ChV.same sF1 z) hysE1)⟩
  have sAll1 := sX1.trans (sDE1.trans sF1)
  have sT1 := sA1.trans sAll1
  have dT1 := d2.same sT1
  have gT1 := g2.same sT1
  refine ⟨_, rfl, by show 2 ≤ sizeLine; decide, fun lp hlp => ?_⟩
  have sP := Same.new hlp (.lst [.str "a", .str "b"])
  have cP : upd HF1 lp (.lst [.str "a", .str "b"]) lp = some (.lst (([("a" : Str), "b"]).map V.str)) := upd_same
  have dP := dT1.same sP
  have gP1 := g1'.same sP
  have gP2 := gT1.same sP
  generalize upd HF1 lp (.lst [.str "a", .str "b"]) = HP at *
  have nlp : lp ≠ d := (dT1.new hlp).1
  refine ⟨d, sa, lp, _, rfl, dP, SqL.of cP, nlp, by decide, fun j x HQ hx aQ dQ => ?_⟩
  obtain ⟨z, rfl, hz⟩ : ∃ z : Str, x = .str z ∧ z ∈ PK6 := by
    rcases j with _ | _ | j
    · cases hx; exact ⟨"a", rfl, by decide +kernel⟩
    · cases hx; exact ⟨"b", rfl, by decide +kernel⟩
    · cases hx
  have gQ1 := gP1.aft dP aQ
  have gQ2 := gP2.aft dP aQ
  refine ⟨by show 1 ≤ sizeLine; decide, fun q2 hq2 => ?_⟩
  have sA2 := Same.new hq2 (.tup [.str z])
  have cA2 : upd HQ q2 (.tup [.str z]) q2 = some (.tup (([z]).map V.str)) := upd_same
  have f2 := gQ2.same sA2
  generalize upd HQ q2 (.tup [.str z]) = HA2 at *
  refine ⟨by show 3 ≤ sizeLine; decide, fun u2 hu2 => ?_⟩
  have sB2 := Same.new hu2 (.tup [.int 1, .int 1, .ref q2])
  have cB2 : upd HA2 u2 (.tup [.int 1, .int 1, .ref q2]) u2 = some (.tup [.int 1, .int 1, .ref q2]) := upd_same
  have cA2' := sB2 _ _ cA2
  generalize upd HA2 u2 (.tup [.int 1, .int 1, .ref q2]) = HB2 at *
  refine ⟨by show 1 ≤ sizeLine; decide, fun y2 hy2 => ?_⟩
  have sC2 := Same.new hy2 (.tup [.ref u2])
  have cC2 : upd HB2 y2 (.tup [.ref u2]) y2 = some (.tup [.ref u2]) := upd_same
  have AC2 : ChV K (upd HB2 y2 (.tup [.ref u2])) (.ref u2) ⟨1, 1, [z]⟩ := ⟨u2, q2, rfl, SqT.of (sC2 _ _ cB2), SqT.of (sC2 _ _ cA2')⟩
  have sX2 := sB2.trans sC2
  have gS2 := f2.same sX2
  generalize upd HB2 y2 (.tup [.ref u2]) = HC2 at *
  obtain ⟨cv2, hT2, hV2⟩ := id gS2
  have hl2 : cv2.length = C2.length := hV2.len
  have hll2 := k2.len
  refine ⟨_, rfl, t2, rfl, ⟨_, hT2⟩, fun L2 hL2 => ?_⟩
  refine lcM (K := K) (as := C2) (fun x => if (decide (1 < x.a)) = true then some x else none) (fun H v x => ChV K H v x) (fun H v x => ChV K H v x) walk_tup (by omega) (fun H' s => Same.tup s hT2) hL2 (chs_rel.mp hV2) (fun H' v a s z => ChV.same s z) (fun H2 H' v b f z => z.imp f) (fun x b H' Q' Rn hb hR s kq kr => ?_) fun HD2 ys2 sD2 hLD2 hys2 => ?_
  · obtain ⟨xb, tb, rfl, hxb, htb⟩ := id hR
    refine ⟨rfl, _, rfl, xb, _, 0, .int b.a, rfl, rfl, hxb, rfl, _, _, rfl, rfl, _, rfl, ?_⟩
    by_cases y : 1 < b.a
    · exact iteTT (decide_eq_true (by omega)) ⟨_, rfl, kq _ b _ (if_pos (decide_eq_true y)) (Same.refl _) hR⟩
    · exact iteFF (decide_eq_false (by omega)) (kr (if_neg (by rw [decide_eq_true_eq]; exact y)) _ (Same.refl _))
  rw [filterMap_filter] at hys2
  have hyl2 : ys2.length ≤ C2.length := by rw [hys2.len]; exact List.length_filter_le _ _
  refine ⟨L2, ys2, rfl, .inl ⟨SqL.of hLD2, fun t52 ht52 => ?_⟩⟩
  have sE2 := Same.new ht52 (.tup ys2)
  have cE2 : SqT K (upd HD2 t52 (.tup ys2)) t52 ys2 := SqT.of upd_same
  have hysE2 : RelL (ChV K (upd HD2 t52 (.tup ys2))) ys2 (C2.filter fun x => decide (1 < x.a)) := RelL.imp (fun _ _ z => ChV.same sE2 z) hys2
  have sDE2 := sD2.trans sE2
  have cCE2 := sDE2 _ _ cC2
  generalize upd HD2 t52 (.tup ys2) = HE2 at *
  refine catA_of (SqT.of cCE2) cE2 (small_le (by show 1 + ys2.length ≤ 1000; omega)) fun HF2 r2' sF2 hr2' => ?_
  have g2' : RwC K HF2 r2' (⟨1, 1, [z]⟩ :: C2.filter fun x => decide (1 < x.a)) := ⟨_, hr2', ChV.same (sDE2.trans sF2) AC2, chs_rel.mpr (RelL.imp (fun _ _ z => ChV.same sF2 z) hysE2)⟩
  have sAll2 := sX2.trans (sDE2.trans sF2)
  have sT2 := sA2.trans sAll2
  have dT2 := dQ.same sT2
  have gR1 := gQ1.same sT2
  refine ⟨by show 2 ≤ sizeLine; decide, fun pp hpp => ?_⟩
  have sZ := Same.new hpp (.tup [.ref r1', .ref r2'])
  refine ⟨pp, _, rfl, SqT.of upd_same, rfl, _, _, rfl, _, _, rfl, rfl, ?_⟩
  exact q r1' r2' _ _ _ (dT2.same sZ) (gR1.same sZ) (((k1.cons (e := ⟨1, 1, [("a" : Str)]⟩) ⟨Nat.le_refl _, .inr (List.cons_ne_nil _ _)⟩ (by show 1 ≤ n; omega) ⟨by show 1 ≤ 2; decide, fun x hx => by rw [List.mem_singleton.mp hx]; decide +kernel⟩)).more (by decide)) (g2'.same sZ)
    ((k2.cons (e := ⟨1, 1, [z]⟩) ⟨Nat.le_refl _, .inr (List.cons_ne_nil _ _)⟩ (by show 1 ≤ n; omega) ⟨by show 1 ≤ 2; decide, fun x hx => by rw [List.mem_singleton.mp hx]; exact hz⟩).more (by decide))
end
end P5

end
section
set_option Elab.async false
set_option linter.all false
set_option maxRecDepth 100000
set_option maxHeartbeats 4000000
/-! the law's rows: the patches, what together says -/
namespace P5
open PySem PySem.Spec PySem.SeqAt PySem.W PyProof.Rows L2 EN ND
/-- what together gives -/
def ToH (K : PySem.W.Frag) (CP CT CC : Addr) (H : Hp) (x : Addr) (C D : List Ed) (m k : Nat) : Prop := (∃ a b : Nat, FirstBad C D a b ∧ ClH CC H x (a : Nat) (b : Nat)) ∨ (AllGo C D ∧ TgR K CP CT H x C D m k)
theorem ToH.same {K : PySem.W.Frag} {CP CT CC : Addr} {H H' : Hp} {x : Addr} {C D : List Ed} {m k : Nat} (s : Same H H') (h : ToH K CP CT CC H x C D m k) : ToH K CP CT CC H' x C D m k := by
  rcases h with ⟨a, b, h1, h2⟩ | ⟨h1, S, i, j, e1, e2, e3, e4, h2⟩
  · exact .inl ⟨a, b, h1, h2.same s⟩
  · exact .inr ⟨h1, S, i, j, e1, e2, e3, e4, h2.same s⟩
section
variable {P : Program} {w : World} {K : PySem.W.Frag} {mg : Str → Option Value} {base : Heap} {fL CE CP CB CT CC : Addr} {cdv : Value} {A : Around} {outer : List Env} {s : Shared} {H0 : Hp} {E : XK}
theorem lw5 (hr : Room 22 (XW P w K mg base fL cdv A outer s H0 E).A) (C : CW P w K mg base CE CP CT CC CB) : ∃ t, PS (XW P w K mg base fL cdv A outer s H0 E) (stW 5) t ∧ ∀ (D : Ends) (a d sa t1 t2 : Addr) (C1 C2 : List Ed) (n : Nat) (H : Hp), DrwS H d sa → n ≤ 9 → RwC K H t1 C1 → DrL C1 n 5 → RwC K H t2 C2 → DrL C2 n 5 →
    (∀ p1 p2 m H', DrwS H' d sa → RwC K H' t1 C1 → RwC K H' t2 C2 → n ≤ m → m ≤ n + 1 → PtH K CP H' p1 C1 n → PtH K CP H' p2 C2 m → D.nx [some (.ref a), some (.ref d), some (.int n), some (.ref t1), some (.ref t2), none, some (.ref p1), some (.ref p2), none, none, none, none, none, none, none, none, none, none, none, none, none, none, none, none] H') → t D [some (.ref a), some (.ref d), some (.int n), some (.ref t1), some (.ref t2), none, none, none, none, none, none, none, none, none, none, none, none, none, none, none, none, none, none, none] H := by
  obtain ⟨fI, fdI, MI, GI, bI⟩ := C.mkP.ex
  refine ⟨_, ps_par (i := 6) (j := 7) rfl scLw.nd rfl rfl (by decide) rfl rfl (pa_cons (pe_make (E := E0) MI GI (hr.mono (by decide)) rfl C.mkP.m bI .nil pass0 (pa_cons (pv 3) (pa_cons (pv 2) pa_nil))) (pa_cons (pe_make (E := E0) MI GI (hr.mono (by decide)) rfl C.mkP.m bI .nil pass0 (pa_cons (pv 4) (pa_cons (pe_op op_add (pv 2) (pe_cl C.next (hr.mono (by decide)) (pa_cons (pv 1) (pa_cons pe_int pa_nil)))) pa_nil))) pa_nil)) rfl, ?_⟩
  intro D a d sa t1 t2 C1 C2 n H hd hn h1 k1 h2 k2 q
  obtain ⟨c1, hT1, hV1⟩ := id h1
  refine ⟨_, rfl, _, rfl, mk_pt (Q := fun x H2 => _) hT1 hV1 (k1.ok (m := n) (Nat.le_refl _) (by omega) (by decide)).1 fun H1 p1 s1 f1 hp1 => ?_⟩
  have d1 := hd.same s1
  refine ⟨_, rfl, _, rfl, _, rfl, d, sa, 2, rfl, d1, by decide, fun r H2 r0 r1 a2 d2 => ⟨_, _, rfl, rfl, ?_⟩⟩
  obtain ⟨m, hm, hm1, hm2⟩ : ∃ m : Nat, (n : Int) + r = (m : Int) ∧ n ≤ m ∧ m ≤ n + 1 := ⟨n + r.toNat, by omega, by omega, by omega⟩
  dsimp only
  rw [hm]
  have g1 := (h1.same s1).aft d1 a2
  obtain ⟨c2, hT2, hV2⟩ := (h2.same s1).aft d1 a2
  refine mk_pt (Q := fun x H2 => _) hT2 hV2 (k2.ok (m := m) hm1 (by omega) (by decide)).1 fun H3 p2 s3 f3 hp2 => ⟨_, _, rfl, ?_⟩
  exact q p1 p2 m H3 (d2.same s3) (g1.same s3) ⟨c2, Same.tup s3 hT2, hV2.imp fun _ _ z => Same.tup s3 z⟩ hm1 hm2 ((hp1.aft d1 a2).same s3) hp2
theorem lw6 (hr : Room 22 (XW P w K mg base fL cdv A outer s H0 E).A) (C : CW P w K mg base CE CP CT CC CB) : ∃ t, PS (XW P w K mg base fL cdv A outer s H0 E) (stW 6) t ∧ ∀ (D : Ends) (a d t1 t2 p1 p2 : Addr) (C1 C2 : List Ed) (n m : Nat) (H : Hp), n ≤ 9 → n ≤ m → m ≤ n + 1 → DrL C1 n 5 → DrL C2 n 5 → PtH K CP H p1 C1 n → PtH K CP H p2 C2 m →
    (∀ x H', Same H H' → ToH K CP CT CC H' x C1 C2 n m → D.nx [some (.ref a), some (.ref d), some (.int n), some (.ref t1), some (.ref t2), none, some (.ref p1), some (.ref p2), some (.ref x), none, none, none, none, none, none, none, none, none, none, none, none, none, none, none] H') → t D [some (.ref a), some (.ref d), some (.int n), some (.ref t1), some (.ref t2), none, some (.ref p1), some (.ref p2), none, none, none, none, none, none, none, none, none, none, none, none, none, none, none, none] H := by
  refine ⟨_, ps_set (i := 8) scLw.nd rfl (Or.inl rfl) (pe_cl C.tog (hr.mono (by decide)) (pa_cons (pv 6) (pa_cons (pv 7) pa_nil))), ?_⟩
  intro D a d t1 t2 p1 p2 C1 C2 n m H hn h1 h2 k1 k2 q1 q2 q
  refine ⟨_, rfl, _, rfl, p1, p2, C1, C2, n, m, rfl, q1, q2, (k1.ok (Nat.le_refl _) (by omega) (by decide)).2, (k2.ok h1 (by omega) (by decide)).2, fun a b hfb H' x s fx hx => q x H' s (.inl ⟨a, b, hfb, hx⟩), fun hgo H' x s fx hx => q x H' s (.inr ⟨hgo, hx⟩)⟩
theorem lw7 : ∃ t, PS (XW P w K mg base fL cdv A outer s H0 E) (stW 7) t ∧ ∀ (D : Ends) (a d t1 t2 p1 p2 x : Addr) (n : Nat) (H : Hp),
    (∀ lb H', Same H H' → H' lb = some (.lst []) → H lb = none → D.nx [some (.ref a), some (.ref d), some (.int n), some (.ref t1), some (.ref t2), none, some (.ref p1), some (.ref p2), some (.ref x), some (.ref lb), none, none, none, none, none, none, none, none, none, none, none, none, none, none] H') → t D [some (.ref a), some (.ref d), some (.int n), some (.ref t1), some (.ref t2), none, some (.ref p1), some (.ref p2), some (.ref x), none, none, none, none, none, none, none, none, none, none, none, none, none, none, none] H := by
  refine ⟨_, ps_set (i := 9) scLw.nd rfl (Or.inl rfl) (pe_lst pa_nil), ?_⟩
  intro D a d t1 t2 p1 p2 x n H q
  exact ⟨by show 0 ≤ sizeLine; decide, fun lb hlb => q lb _ (Same.new hlb _) upd_same hlb⟩
end
end P5

end
section
set_option Elab.async false
set_option linter.all false
set_option maxRecDepth 100000
set_option maxHeartbeats 4000000
/-! the pairs that do not go together, in their order -/
namespace P5
open PySem PySem.Spec PySem.SeqAt PySem.W PyProof.Rows L2 EN ND
/-- what f gives of each, with its number, one behind the other -/
def cat {α β : Type} (f : Nat → α → List β) : Nat → List α → List β
  | _, [] => []
  | k, a :: as => f k a ++ cat f (k + 1) as
theorem cat_snoc {α β : Type} {f : Nat → α → List β} : ∀ {as : List α} {k i : Nat} {a : α}, as[i]? = some a → cat f k (as.take (i + 1)) = cat f k (as.take i) ++ f (k + i) a
  | [], _, _, _, h => by simp at h
  | x :: as, k, 0, a, h => by
    have h : x = a := by simpa using h
    subst h
    show f k x ++ [] = [] ++ f (k + 0) x
    simp
  | x :: as, k, i + 1, a, h => by
    have ih := cat_snoc (f := f) (as := as) (k := k + 1) (i := i) (a := a) (by simpa using h)
    show f k x ++ cat f (k + 1) (as.take (i + 1)) = (f k x ++ cat f (k + 1) (as.take i)) ++ f (k + (i + 1)) a
    rw [ih, List.append_assoc, show k + 1 + i = k + (i + 1) from by omega]
theorem cat_none {α β : Type} {f : Nat → α → List β} : ∀ {as : List α} {k : Nat}, (∀ i a, as[i]? = some a → f (k + i) a = []) → cat f k as = []
  | [], _, _ => rfl
  | x :: as, k, h => by
    have h0 := h 0 x rfl
    have ih := cat_none (f := f) (as := as) (k := k + 1) fun i a ha => by
      have z := h (i + 1) a (by simpa using ha)
      rw [show k + 1 + i = k + (i + 1) from by omega]
      exact z
    show f k x ++ cat f (k + 1) as = []
    rw [ih]
    have h0 : f k x = [] := h0
    rw [h0]
    rfl
theorem cat_first {α β : Type} {f : Nat → α → List β} {y : β} : ∀ {as : List α} {k b : Nat} {g : α} {r : List β}, as[b]? = some g → f (k + b) g = y :: r → (∀ b' g', b' < b → as[b']? = some g' → f (k + b') g' = []) → ∃ r', cat f k as = y :: r'
  | [], _, _, _, _, h, _, _ => by simp at h
  | x :: as, k, 0, g, r, h, h1, _ => by
    have h : x = g := by simpa using h
    subst h
    exact ⟨r ++ cat f (k + 1) as, by show f k x ++ _ = _; rw [show f k x = y :: r from h1]; rfl⟩
  | x :: as, k, b + 1, g, r, h, h1, h2 => by
    obtain ⟨r', ih⟩ := cat_first (f := f) (y := y) (as := as) (k := k + 1) (b := b) (g := g) (r := r) (by simpa using h) (by rw [show k + 1 + b = k + (b + 1) from by omega]; exact h1) fun b' g' hb hg => by
      rw [show k + 1 + b' = k + (b' + 1) from by omega]
      exact h2 (b' + 1) g' (by omega) (by simpa using hg)
    have h0 : f k x = [] := h2 0 x (by omega) rfl
    exact ⟨r', by show f k x ++ _ = _; rw [h0, ih]; rfl⟩
theorem cat_len {α β : Type} {f : Nat → α → List β} {n : Nat} (hf : ∀ i a, (f i a).length ≤ n) : ∀ (as : List α) (k : Nat), (cat f k as).length ≤ n * as.length
  | [], _ => Nat.zero_le _
  | x :: as, k => by
    have := cat_len hf as (k + 1)
    have := hf k x
    show (f k x ++ cat f (k + 1) as).length ≤ n * (as.length + 1)
    rw [List.length_append, Nat.mul_succ]
    omega
/-- the numbers of those that do not go with e -/
def badR (i : Nat) (e : Ed) (D : List Ed) : List (Nat × Nat) := cat (fun j g => if goB e g = true then [] else [(i, j)]) 0 D
def badL (C D : List Ed) : List (Nat × Nat) := cat (fun i e => badR i e D) 0 C
theorem badR_none {i : Nat} {e : Ed} {D : List Ed} (h : ∀ g ∈ D, Go e g) : badR i e D = [] := cat_none fun j g hg => if_pos (goB_iff.mpr (h g (List.mem_of_getElem? hg)))
theorem badL_none {C D : List Ed} (h : AllGo C D) : badL C D = [] := cat_none fun i e he => badR_none (h e (List.mem_of_getElem? he))
theorem badL_first {C D : List Ed} {a b : Nat} (h : FirstBad C D a b) : ∃ r, badL C D = (a, b) :: r := by
  obtain ⟨e, f, he, hf, hn, h1, h2⟩ := h
  obtain ⟨r, hr⟩ : ∃ r, badR (0 + a) e D = (a, b) :: r := by
    refine cat_first (r := []) hf ?_ fun b' g hb hg => if_pos (goB_iff.mpr (h2 b' g hb hg))
    rw [if_neg fun z => hn (goB_iff.mp z), Nat.zero_add, Nat.zero_add]
  exact cat_first he hr fun a' e' ha he' => badR_none (h1 a' e' ha he')
theorem badL_len (C D : List Ed) : (badL C D).length ≤ D.length * C.length := cat_len (fun i e => by
  have z := cat_len (n := 1) (f := fun j g => if goB e g = true then [] else [((i, j) : Nat × Nat)]) (fun j g => by
    show (if goB e g = true then ([] : List (Nat × Nat)) else [(i, j)]).length ≤ 1
    split
    · exact Nat.zero_le _
    · exact Nat.le_refl _) D 0
  rw [Nat.one_mul] at z
  exact z) C 0
/-- a pair of numbers -/
def NpV (K : PySem.W.Frag) (H : Hp) (v : V) (p : Nat × Nat) : Prop := ∃ y, v = .ref y ∧ SqT K H y [.int (p.1 : Nat), .int (p.2 : Nat)]
theorem NpV.imp {K : PySem.W.Frag} {H H' : Hp} {v : V} {p : Nat × Nat} (f : ∀ a xs, SqT K H a xs → SqT K H' a xs) (h : NpV K H v p) : NpV K H' v p := by
  obtain ⟨y, h1, h2⟩ := h
  exact ⟨y, h1, f _ _ h2⟩
section
variable {K : PySem.W.Frag}
/-- a comprehension over the numbered items, whose items are made -/
theorem lcE {α β : Type} {J : It} {G : Hp → Prop} {g : TG} {tt : TT} {te : TE} {vs : List Nat} {σ : L2.St} {H1 : Hp} {D : Addr} {Qd : Hp → Prop} {xs : List V} {as : List α} (f : Nat → α → Option β) (R : Hp → V → α → Prop) (S : Hp → V → β → Prop) (w : Walk J xs.length G (YPair (fun i => some (.int (i : Nat))) (fun i => xs[i]?))) (hz : xs.length ≤ 1000)
    (hG : ∀ H', Same H1 H' → G H') (hD : H1 D = none) (hR : RelL (R H1) xs as) (mR : ∀ H' v a, Same H1 H' → R H1 v a → R H' v a) (mS : ∀ H2 H' v b, (∀ a ys, SqT K H2 a ys → SqT K H' a ys) → S H2 v b → S H' v b)
    (turn : ∀ (i : Nat) (x : V) (a : α) (T : Addr) (H' : Hp) (Q : VK) (Rn : Hp → Prop), as[i]? = some a → R H' x a → H' T = some (.tup [.int (i : Nat), x]) → Same H1 H' → (∀ y b H4, f i a = some b → Same H' H4 → S H4 y b → Q y H4) → (f i a = none → ∀ H4, Same H' H4 → Rn H4) →
      g (.ref T) (wipe σ vs) H' fun σ2 H2 => wipe σ2 vs = wipe σ vs ∧ tt σ2 H2 fun b H3 => if b = true then te σ2 H3 Q else Rn H3)
    (hd : ∀ H' ys, Same H1 H' → H' D = some (.lst ys) → RelL (S H') ys (cat (fun i a => (f i a).toList) 0 as) → Qd H') :
    ∃ W : Nat → Nat → Hp → Prop, (∃ m, W 0 m (upd H1 D (.lst []))) ∧ ∀ i m H, W i m H →
      (J.stop i H ∧ Qd H) ∨ (J.go i H ∧ ∃ Nx : Hp → Prop, (∀ H', Nx H' → ∃ m', m' < m ∧ W (i + 1) m' H') ∧ ∀ x H', J.yld i H x H' → g x (wipe σ vs) H' fun σ2 H2 => wipe σ2 vs = wipe σ vs ∧ tt σ2 H2 fun b H3 =>
        if b = true then te σ2 H3 fun y H4 => ∃ acc, H4 D = some (.lst acc) ∧ acc.length < sizeLine ∧ Nx (upd H4 D (.lst (acc ++ [y]))) else Nx H3) := by
  have hl := hR.len
  have hcl : ∀ i, (cat (fun i a => (f i a).toList) 0 (as.take i)).length ≤ i := fun i => by
    have z := cat_len (n := 1) (f := fun i a => (f i a).toList) (fun i a => by cases f i a <;> simp) (as.take i) 0
    rw [List.length_take] at z
    omega
  refine lc_it w (fun i H => Same H1 H ∧ ∃ ys, H D = some (.lst ys) ∧ RelL (S H) ys (cat (fun i a => (f i a).toList) 0 (as.take i))) ⟨same_acc hD (Same.refl _), [], upd_same, trivial⟩ (fun i H _ p => hG H p.1) (fun i x H H' hi p y => ?_) fun H p => ?_
  · obtain ⟨T, x1, x2, rfl, hT, rfl, e1, e2⟩ := y
    cases e1
    replace e2 : xs[i]? = some x2 := e2
    obtain ⟨s, ys, hL, hS⟩ := p
    obtain ⟨a, ha, hRa⟩ := hR.get e2
    have sT := Same.new hT (.tup [V.int (i : Nat), x2])
    have cT : upd H T (.tup [V.int (i : Nat), x2]) T = some (.tup [V.int (i : Nat), x2]) := upd_same
    have s1 := s.trans sT
    have hL1 := sT _ _ hL
    have hS1 : RelL (S (upd H T (.tup [V.int (i : Nat), x2]))) ys (cat (fun i a => (f i a).toList) 0 (as.take i)) := RelL.imp (fun v b q => mS _ _ v b (fun _ _ z => Same.tup sT z) q) hS
    generalize upd H T (.tup [V.int (i : Nat), x2]) = HT at *
    have step := cat_snoc (f := fun i a => (f i a).toList) (k := 0) ha
    rw [Nat.zero_add] at step
    have hlen : ys.length < sizeLine := small1000 (by
      rw [hS1.len]
      have := hcl i
      omega)
    refine turn i x2 a T HT _ _ ha (mR _ _ _ s1 hRa) cT s1 (fun y b H4 e s4 hb => ?_) fun e H4 s4 => ?_
    · refine ⟨ys, s4 _ _ hL1, hlen, same_acc hD (s1.trans s4), ys ++ [y], upd_same, ?_⟩
      have hL4 := s4 _ _ hL1
      rw [step, e]
      exact RelL.app (RelL.imp (fun v b q => mS _ _ v b (fun _ _ z => SqT.put hL4 (Same.tup s4 z)) q) hS1) (RelL.one (mS _ _ _ _ (fun _ _ z => SqT.put hL4 z) hb))
    · refine ⟨s1.trans s4, ys, s4 _ _ hL1, ?_⟩
      rw [step, e]
      show RelL _ ys (_ ++ [])
      rw [List.append_nil]
      exact RelL.imp (fun v b q => mS _ _ v b (fun _ _ z => Same.tup s4 z) q) hS1
  · obtain ⟨s, ys, hL, hS⟩ := p
    rw [List.take_of_length_le (by omega)] at hS
    exact hd H ys s hL hS
end
end P5

end
section
set_option Elab.async false
set_option linter.all false
set_option maxRecDepth 100000
set_option maxHeartbeats 4000000
/-! the law's rows: bad -/
namespace P5
open PySem PySem.Spec PySem.SeqAt PySem.W PyProof.Rows L2 EN ND
section
variable {P : Program} {w : World} {K : PySem.W.Frag} {mg : Str → Option Value} {base : Heap} {fL CE CP CB CT CC : Addr} {cdv : Value} {A : Around} {outer : List Env} {s : Shared} {H0 : Hp} {E : XK}
theorem lw8 (hr : Room 22 (XW P w K mg base fL cdv A outer s H0 E).A) (C : CW P w K mg base CE CP CT CC CB) : ∃ t, PS (XW P w K mg base fL cdv A outer s H0 E) (stW 8) t ∧ ∀ (D : Ends) (a d t1 t2 p1 p2 x lb : Addr) (C1 C2 : List Ed) (n : Nat) (H : Hp), n ≤ 9 → RwC K H t1 C1 → DrL C1 n 5 → RwC K H t2 C2 → DrL C2 n 5 → H lb = some (.lst []) →
    (∀ v5 v10 lb' bv H', Same H H' → H' lb' = some (.lst bv) → RelL (NpV K H') bv (badL C1 C2) → D.nx [some (.ref a), some (.ref d), some (.int n), some (.ref t1), some (.ref t2), v5, some (.ref p1), some (.ref p2), some (.ref x), some (.ref lb'), v10, none, none, none, none, none, none, none, none, none, none, none, none, none] H') → t D [some (.ref a), some (.ref d), some (.int n), some (.ref t1), some (.ref t2), none, some (.ref p1), some (.ref p2), some (.ref x), some (.ref lb), none, none, none, none, none, none, none, none, none, none, none, none, none, none] H := by
  refine ⟨_, ps_for PassesOwn.never rfl (pi_enumT rfl C.bn.enum (pa_cons (pv 3) pa_nil)) (pg_tup rfl (pgs_cons (pg_name (i := 10) scLw.nd rfl (Or.inr rfl)) (pgs_cons (pg_name (i := 5) scLw.nd rfl (Or.inr rfl)) pgs_nil)))
    (pss_one (ps_set (i := 9) scLw.nd rfl (Or.inl rfl) (pe_op op_cat (pv 9) (pe_lc (own := [("number", 20), ("late", 11)]) (g := gTup K 2 (gCons (gName 20) (gCons (gName 11) gNil))) rfl scLw.nd (pi_enumT rfl C.bn.enum (pa_cons (pv 4) pa_nil))
      (blkOk_by (N := NLw) (sc := defScope sLw) (by decide +kernel)) (fun _ _ _ _ _ => pg_tup rfl (pgs_cons (pg_name (i := 20) scLw.nd rfl (Or.inl rfl)) (pgs_cons (pg_name (i := 11) scLw.nd rfl (Or.inl rfl)) pgs_nil)))
      (fun _ _ _ _ _ => pts_one (pt_not (pt_val (pe_cl C.fit (hr.mono (by decide)) (pa_cons (pv 5) (pa_cons (pv 11) pa_nil))))))
      (fun _ _ _ _ _ => pe_tup (pa_cons (pv 10) (pa_cons (pv 20) pa_nil))))))), ?_⟩
  intro D a d t1 t2 p1 p2 x lb C1 C2 n H hn h1 k1 h2 k2 hlb q
  obtain ⟨c1, hT1, hV1⟩ := id h1
  obtain ⟨c2, hT2, hV2⟩ := id h2
  have hl1 : c1.length = C1.length := hV1.len
  have hl2 : c2.length = C2.length := hV2.len
  have ll1 := k1.len
  have ll2 := k2.len
  have ok1 := (k1.ok (m := n) (Nat.le_refl _) (by omega) (by decide)).1
  have ok2 := (k2.ok (m := n) (Nat.le_refl _) (by omega) (by decide)).1
  refine ⟨_, rfl, t1, _, rfl, hT1, ?_⟩
  refine for_enT (xs := c1) (fun i σ H' => Same H H' ∧ ∃ (v5 v10 : Option V) (lb' : Addr) (bv : List V), H' lb' = some (.lst bv) ∧ RelL (NpV K H') bv (cat (fun i e => badR i e C2) 0 (C1.take i)) ∧ σ = [some (.ref a), some (.ref d), some (.int n), some (.ref t1), some (.ref t2), v5, some (.ref p1), some (.ref p2), some (.ref x), some (.ref lb'), v10, none, none, none, none, none, none, none, none, none, none, none, none, none])
    ⟨Same.refl _, none, none, lb, [], hlb, trivial, rfl⟩ (fun i σ H' _ ⟨s, _⟩ => Same.tup s hT1) ?_ ?_
  · rintro i v σ H2 T hv hTn ⟨s2, v5, v10, lb', bv, hb, hB, rfl⟩
    obtain ⟨e, he, hch⟩ := hV1.get hv
    have sT := Same.new hTn (.tup [V.int (i : Nat), v])
    have cT : upd H2 T (.tup [V.int (i : Nat), v]) T = some (.tup [V.int (i : Nat), v]) := upd_same
    have s3 := s2.trans sT
    have hb3 := sT _ _ hb
    have hB3 : RelL (NpV K (upd H2 T (.tup [V.int (i : Nat), v]))) bv (cat (fun i e => badR i e C2) 0 (C1.take i)) := RelL.imp (fun _ _ z => z.imp fun _ _ y => Same.tup sT y) hB
    generalize upd H2 T (.tup [V.int (i : Nat), v]) = H3 at *
    refine ⟨T, _, rfl, SqT.of cT, rfl, _, _, rfl, _, _, rfl, rfl, ?_⟩
    refine ⟨_, rfl, _, rfl, t2, _, rfl, Same.tup s3 hT2, fun L hL => ?_⟩
    refine lcE (K := K) (as := C2) (fun j g => if goB e g = true then none else some ((i, j) : Nat × Nat)) (fun H v x => ChV K H v x) (fun H v b => NpV K H v b) walk_enT (by omega) (fun H' s' => Same.tup (s3.trans s') hT2) hL (chs_rel.mp (hV2.imp fun _ _ z => Same.tup s3 z)) (fun H' v a s z => ChV.same s z) (fun H2 H' v b f z => z.imp f) (fun j y g Tj H' Q' Rn hg hR hTj s' kq kr => ?_) fun H4 ys s4 hL4 hys => ?_
    · refine ⟨Tj, _, rfl, SqT.of hTj, rfl, _, _, rfl, _, _, rfl, rfl, rfl, ?_⟩
      refine ⟨_, rfl, _, rfl, v, y, e, g, rfl, ChV.same (s3.trans s') hch, hR, ok1.ok e (List.mem_of_getElem? he), ok2.ok g (List.mem_of_getElem? hg), _, rfl, ?_⟩
      cases c : goB e g with
      | true => exact iteFF rfl (kr (if_pos c) _ (Same.refl _))
      | false =>
        refine iteTT rfl ⟨_, rfl, _, rfl, by show 2 ≤ sizeLine; decide, fun y7 hy7 => ?_⟩
        exact kq _ (i, j) _ (if_neg (by rw [c]; exact Bool.false_ne_true)) (Same.new hy7 _) ⟨y7, rfl, SqT.of upd_same⟩
    have er : cat (fun j g => (if goB e g = true then none else some ((i, j) : Nat × Nat)).toList) 0 C2 = badR i e C2 := by
      unfold badR
      congr 1
      funext j g
      by_cases c : goB e g = true
      · rw [if_pos c, if_pos c]; rfl
      · rw [if_neg c, if_neg c]; rfl
    rw [er] at hys
    have s34 := s3.trans s4
    have hb4 := s4 _ _ hb3
    have hbl := hB3.len
    have hyl := hys.len
    have step := cat_snoc (f := fun i e => badR i e C2) (k := 0) he
    rw [Nat.zero_add] at step
    have tot1 := badL_len (C1.take (i + 1)) C2
    have etot : badL (C1.take (i + 1)) C2 = cat (fun i e => badR i e C2) 0 (C1.take (i + 1)) := rfl
    rw [etot, step, List.length_append, List.length_take] at tot1
    have hmul : C2.length * min (i + 1) C1.length ≤ 5 * 5 := Nat.mul_le_mul ll2 (by omega)
    refine ⟨lb', L, bv, ys, rfl, rfl, hb4, hL4, small_le (by omega), fun p7 hp7 => ?_⟩
    have s7 := Same.new hp7 (.lst (bv ++ ys))
    refine ⟨s34.trans s7, _, _, p7, bv ++ ys, upd_same, ?_, rfl⟩
    rw [step]
    exact RelL.app (RelL.imp (fun _ _ z => z.imp fun _ _ y => Same.tup (s4.trans s7) y) hB3) (RelL.imp (fun _ _ z => z.imp fun _ _ y => Same.tup s7 y) hys)
  · rintro σ H2 ⟨s2, v5, v10, lb', bv, hb, hB, rfl⟩
    rw [List.take_of_length_le (by omega)] at hB
    exact q v5 v10 lb' bv H2 s2 hb hB
end
end P5

end
section
set_option Elab.async false
set_option linter.all false
set_option maxRecDepth 100000
set_option maxHeartbeats 4000000
/-! the law's rows: what together says is what bad says -/
namespace P5
open PySem PySem.Spec PySem.SeqAt PySem.W PyProof.Rows L2 EN ND
def npD (p : Nat × Nat) : PyData := .tuple [.int (p.1 : Nat), .int (p.2 : Nat)]
theorem dp_nps {K : PySem.W.Frag} {H : Hp} : ∀ {vs : List V} {ps : List (Nat × Nat)}, RelL (NpV K H) vs ps → DpAll K H vs (ps.map npD)
  | [], [], _ => .nil
  | _ :: _, p :: _, h => by
    obtain ⟨y, rfl, hy⟩ := h.1
    exact .cons (.tup hy (.cons (.int _) (.cons (.int _) .nil))) (dp_nps h.2)
  | [], _ :: _, h => h.elim
  | _ :: _, [], h => h.elim
theorem shaped_nps (ps : List (Nat × Nat)) : shaped (.list (ps.map npD)) = true := shaped_mk (by
  simp only [PyData.canLay0]
  exact lay_mem fun d hd => by
    obtain ⟨p, _, rfl⟩ := List.mem_map.mp hd
    simp [npD, PyData.canLay0, PyData.canLayAll0]) (by
  simp only [PyData.depth]
  have := depth_mem (ds := ps.map npD) (m := 2) fun d hd => by
    obtain ⟨p, _, rfl⟩ := List.mem_map.mp hd
    simp [npD, PyData.depth, PyData.depthAll]
  omega)
theorem eqv_nps (ps : List (Nat × Nat)) : PyData.eqv (.list (ps.map npD)) (.list []) = decide (ps = []) := by
  cases ps <;> rfl
theorem cr_alt {X : Cx} {f : Value} {r1 r2 : List V → Hp → VK → Prop} (h1 : CallR X f r1) (h2 : CallR X f r2) : CallR X f (fun xs H Q => r1 xs H Q ∨ r2 xs H Q) := by
  intro pins s σ H xs us Q I r h
  rcases h with h | h
  · exact h1 pins s σ H xs us Q I r h
  · exact h2 pins s σ H xs us Q I r h
section
variable {P : Program} {w : World} {K : PySem.W.Frag} {mg : Str → Option Value} {base : Heap} {fL CE CP CB CT CC : Addr} {cdv : Value} {A : Around} {outer : List Env} {s : Shared} {H0 : Hp} {E : XK}
theorem lw9 (hr : Room 22 (XW P w K mg base fL cdv A outer s H0 E).A) (C : CW P w K mg base CE CP CT CC CB) : ∃ t, PS (XW P w K mg base fL cdv A outer s H0 E) (stW 9) t ∧ ∀ (D : Ends) (a d t1 t2 p1 p2 x lb : Addr) (C1 C2 : List Ed) (n m : Nat) (v5 v10 : Option V) (bv : List V) (H : Hp), ToH K CP CT CC H x C1 C2 n m → H lb = some (.lst bv) → RelL (NpV K H) bv (badL C1 C2) →
    (∀ H', Same H H' → D.nx [some (.ref a), some (.ref d), some (.int n), some (.ref t1), some (.ref t2), v5, some (.ref p1), some (.ref p2), some (.ref x), some (.ref lb), v10, none, none, none, none, none, none, none, none, none, none, none, none, none] H') → t D [some (.ref a), some (.ref d), some (.int n), some (.ref t1), some (.ref t2), v5, some (.ref p1), some (.ref p2), some (.ref x), some (.ref lb), v10, none, none, none, none, none, none, none, none, none, none, none, none, none] H := by
  obtain ⟨fT, fdT, MT, GT, bT⟩ := C.bT.ex
  obtain ⟨fC, fdC, MC, GC, bC⟩ := C.bC.ex
  obtain ⟨fE, fdE, hE1, hE2, GE, bE⟩ := C.eqC.ex
  obtain ⟨fI, fdI, MI, GI, bI⟩ := C.mkC.ex
  refine ⟨_, ps_if (PW.pt (pw_or (pt_cmpR op_ne (pe_callTy (cr_alt (call_boolI MT.at_ MT.fn GT bT (hr.mono (by decide))) (call_boolI MC.at_ MC.fn GC bC (hr.mono (by decide)))) rfl C.bool_ (by decide +kernel) (pa_cons (pv 8) pa_nil)) (pe_cmpR (op_eqD (hu64 hr)) (pv 9) (pe_lst pa_nil) (nomark _)) (nomark _))
    (pw_or1 (PW.pt (pw_and (pt_cmpR (op_neD (hu64 hr)) (pv 9) (pe_lst pa_nil) (nomark _)) (pw_and1 (pt_cmpR (op_neI hE1 hE2 C.neC C.obC GE bE (hr.mono (by decide))) (pv 8) (pe_make (E := E0) MI GI (hr.mono (by decide)) rfl C.mkC.m bI .nil pass0 (pa_cons (pe_ix (r := rIxT K) ix_tup (pe_ix (r := rIxL K) ix_list (pv 9) pe_int (fun _ _ => rfl)) pe_int (fun _ _ => rfl)) (pa_cons (pe_ix (r := rIxT K) ix_tup (pe_ix (r := rIxL K) ix_list (pv 9) pe_int (fun _ _ => rfl)) pe_int (fun _ _ => rfl)) pa_nil))) (nomark _))))))))
    (pss_one ps_never) pss_nil, ?_⟩
  intro D a d t1 t2 p1 p2 x lb C1 C2 n m v5 v10 bv H hto hb hB q
  rcases hto with ⟨i, j, hfb, hcl⟩ | ⟨hgo, S, i, j, e1, e2, e3, e4, htg⟩
  · obtain ⟨r, hr2⟩ := badL_first hfb
    rw [hr2] at hB
    refine ⟨_, rfl, .inr ⟨x, rfl, hcl.ins, x, rfl, false, rfl, ?_⟩⟩
    refine ⟨_, rfl, by show 0 ≤ sizeLine; decide, fun q1 hq1 => ?_⟩
    have s1 := Same.new hq1 (.lst [])
    have cq1 : upd H q1 (.lst []) q1 = some (.lst []) := upd_same
    have hb1 := s1 _ _ hb
    have hB1 : RelL (NpV K (upd H q1 (.lst []))) bv ((i, j) :: r) := RelL.imp (fun _ _ z => z.imp fun _ _ y => Same.tup s1 y) hB
    generalize upd H q1 (.lst []) = H1 at *
    refine ⟨.list (((i, j) :: r).map npD), .list [], .lst (SqL.of hb1) (dp_nps hB1), .lst (SqL.of cq1) .nil, shaped_nps _, by rfl, ?_⟩
    rw [eqv_nps]
    refine ⟨rfl, _, rfl, iteFF rfl ?_⟩
    refine ⟨_, rfl, by show 0 ≤ sizeLine; decide, fun q2 hq2 => ?_⟩
    have s2 := Same.new hq2 (.lst [])
    have cq2 : upd H1 q2 (.lst []) q2 = some (.lst []) := upd_same
    have hb2 := s2 _ _ hb1
    have hB2 : RelL (NpV K (upd H1 q2 (.lst []))) bv ((i, j) :: r) := RelL.imp (fun _ _ z => z.imp fun _ _ y => Same.tup s2 y) hB1
    generalize upd H1 q2 (.lst []) = H2 at *
    refine ⟨.list (((i, j) :: r).map npD), .list [], .lst (SqL.of hb2) (dp_nps hB2), .lst (SqL.of cq2) .nil, shaped_nps _, by rfl, _, rfl, ?_⟩
    rw [eqv_nps]
    refine iteTT rfl ?_
    have s12 := s1.trans s2
    cases bv with
    | nil => exact hB2.elim
    | cons v bv =>
    obtain ⟨y, rfl, hy⟩ := hB2.1
    refine ⟨_, rfl, _, rfl, lb, _, 0, .ref y, rfl, rfl, SqL.of hb2, at_first _ _, y, _, 0, .int (i : Nat), rfl, rfl, hy, rfl, _, rfl, lb, _, 0, .ref y, rfl, rfl, SqL.of hb2, at_first _ _, y, _, 1, .int (j : Nat), rfl, rfl, hy, rfl, ?_⟩
    refine mk_cl (Q := fun x H2 => _) fun H3 x3 s3 fx h3 => ?_
    refine ⟨x, x3, rfl, rfl, (hcl.same (s12.trans s3)).ins, h3.ins, x, x3, _, _, rfl, hcl.same (s12.trans s3), h3, true, rfl, _, rfl, iteFF rfl (q H3 (s12.trans s3))⟩
  · have hb0 := badL_none hgo
    rw [hb0] at hB
    refine ⟨_, rfl, .inl ⟨x, rfl, htg.ins, x, rfl, true, rfl, ?_⟩⟩
    refine ⟨_, rfl, by show 0 ≤ sizeLine; decide, fun q1 hq1 => ?_⟩
    have s1 := Same.new hq1 (.lst [])
    have cq1 : upd H q1 (.lst []) q1 = some (.lst []) := upd_same
    have hb1 := s1 _ _ hb
    have hB1 : RelL (NpV K (upd H q1 (.lst []))) bv [] := RelL.imp (fun _ _ z => z.imp fun _ _ y => Same.tup s1 y) hB
    generalize upd H q1 (.lst []) = H1 at *
    refine ⟨.list (([] : List (Nat × Nat)).map npD), .list [], .lst (SqL.of hb1) (dp_nps hB1), .lst (SqL.of cq1) .nil, shaped_nps _, by rfl, ?_⟩
    rw [eqv_nps]
    refine ⟨rfl, _, rfl, iteFF rfl ?_⟩
    refine ⟨_, rfl, by show 0 ≤ sizeLine; decide, fun q2 hq2 => ?_⟩
    have s2 := Same.new hq2 (.lst [])
    have cq2 : upd H1 q2 (.lst []) q2 = some (.lst []) := upd_same
    have hb2 := s2 _ _ hb1
    have hB2 : RelL (NpV K (upd H1 q2 (.lst []))) bv [] := RelL.imp (fun _ _ z => z.imp fun _ _ y => Same.tup s2 y) hB1
    generalize upd H1 q2 (.lst []) = H2 at *
    refine ⟨.list (([] : List (Nat × Nat)).map npD), .list [], .lst (SqL.of hb2) (dp_nps hB2), .lst (SqL.of cq2) .nil, shaped_nps _, by rfl, _, rfl, ?_⟩
    rw [eqv_nps]
    exact iteFF rfl (iteFF rfl (q H2 (s1.trans s2)))
end
end P5

end
section
set_option Elab.async false
set_option linter.all false
set_option maxRecDepth 100000
set_option maxHeartbeats 4000000
/-! the law's rows: three hands -/
namespace P5
open PySem PySem.Spec PySem.SeqAt PySem.W PyProof.Rows L2 EN ND
/-- whether all changes of two hands go together -/
def agB (C D : List Ed) : Bool := C.all fun e => D.all fun f => goB e f
theorem agB_iff {C D : List Ed} : agB C D = true ↔ AllGo C D := by
  unfold agB AllGo
  rw [List.all_eq_true]
  refine ⟨fun h e he f hf => goB_iff.mp (List.all_eq_true.mp (h e he) f hf), fun h e he => List.all_eq_true.mpr fun f hf => goB_iff.mpr (h e he f hf)⟩
/-- the three patches in a list -/
def ThH (K : PySem.W.Frag) (CP : Addr) (H : Hp) (l : Addr) (T : List (List Ed × Nat)) : Prop := ∃ ps : List Addr, H l = some (.lst (ps.map V.ref)) ∧ RelL (PtV K CP H) (ps.map V.ref) T
theorem ThH.same {K : PySem.W.Frag} {CP l : Addr} {H H' : Hp} {T : List (List Ed × Nat)} (s : Same H H') (h : ThH K CP H l T) : ThH K CP H' l T := by
  obtain ⟨ps, h1, h2⟩ := h
  exact ⟨ps, s _ _ h1, RelL.imp (fun _ _ z => PtV.same s z) h2⟩
section
variable {P : Program} {w : World} {K : PySem.W.Frag} {mg : Str → Option Value} {base : Heap} {fL CE CP CB CT CC : Addr} {cdv : Value} {A : Around} {outer : List Env} {s : Shared} {H0 : Hp} {E : XK}
theorem lw10 (hr : Room 22 (XW P w K mg base fL cdv A outer s H0 E).A) (C : CW P w K mg base CE CP CT CC CB) : ∃ t, PS (XW P w K mg base fL cdv A outer s H0 E) (stW 10) t ∧ ∀ (D : Ends) (a d sa t1 t2 p1 p2 x lb : Addr) (C1 C2 : List Ed) (n m : Nat) (v5 v10 : Option V) (H : Hp), DrwS H d sa → n ≤ 9 → PtH K CP H p1 C1 n → PtH K CP H p2 C2 m →
    (∀ l3 C3 H', Aft H H' d → DrwS H' d sa → DrL C3 n 3 → ThH K CP H' l3 [(C1, n), (C2, m), (C3, n)] → D.nx [some (.ref a), some (.ref d), some (.int n), some (.ref t1), some (.ref t2), v5, some (.ref p1), some (.ref p2), some (.ref x), some (.ref lb), v10, none, some (.ref l3), none, none, none, none, none, none, none, none, none, none, none] H') → t D [some (.ref a), some (.ref d), some (.int n), some (.ref t1), some (.ref t2), v5, some (.ref p1), some (.ref p2), some (.ref x), some (.ref lb), v10, none, none, none, none, none, none, none, none, none, none, none, none, none] H := by
  obtain ⟨fI, fdI, MI, GI, bI⟩ := C.mkP.ex
  refine ⟨_, ps_set (i := 12) scLw.nd rfl (Or.inr rfl) (pe_lst (pa_cons (pv 6) (pa_cons (pv 7) (pa_cons (pe_make (E := E0) MI GI (hr.mono (by decide)) rfl C.mkP.m bI .nil pass0 (pa_cons (pe_cl C.chs (hr.mono (by decide)) (pa_cons (pv 1) (pa_cons (pv 2) pa_nil))) (pa_cons (pv 2) pa_nil))) pa_nil)))), ?_⟩
  intro D a d sa t1 t2 p1 p2 x lb C1 C2 n m v5 v10 H hd hn q1 q2 q
  refine ⟨_, rfl, _, rfl, _, rfl, _, rfl, d, sa, n, rfl, hd, by omega, fun H1 t3 c3 C3 a1 d1 hT hV k3 => ⟨_, rfl, ?_⟩⟩
  refine mk_pt (Q := fun x H2 => _) hT hV (k3.dl.ok (m := n) (Nat.le_refl _) (by omega) (by decide)).1 fun H2 p3 s2 f2 hp3 => ⟨by show 3 ≤ sizeLine; decide, fun l3 hl3 => ?_⟩
  have s3 := Same.new hl3 (.lst [.ref p1, .ref p2, .ref p3])
  have aA := a1.trans (Aft.of (s2.trans s3))
  exact q l3 C3 _ aA ((d1.same s2).same s3) k3.dl ⟨[p1, p2, p3], upd_same, ⟨p1, rfl, q1.aft hd aA⟩, ⟨p2, rfl, q2.aft hd aA⟩, ⟨p3, rfl, hp3.same s3⟩, trivial⟩
end
/-- the pairs of hands, in the order asked -/
def PR : List (Nat × Nat) := [(0, 1), (0, 2), (1, 2)]
def Cs (T : List (List Ed × Nat)) (i : Nat) : List Ed := (T.getD i ([], 0)).1
def clR (T : List (List Ed × Nat)) : List (Nat × Nat) := PR.filter fun p => !agB (Cs T p.1) (Cs T p.2)
section
variable {P : Program} {w : World} {K : PySem.W.Frag} {mg : Str → Option Value} {base : Heap} {fL CE CP CB CT CC : Addr} {cdv : Value} {A : Around} {outer : List Env} {s : Shared} {H0 : Hp} {E : XK}
theorem lw11 (hr : Room 22 (XW P w K mg base fL cdv A outer s H0 E).A) (C : CW P w K mg base CE CP CT CC CB) : ∃ t, PS (XW P w K mg base fL cdv A outer s H0 E) (stW 11) t ∧ ∀ (D : Ends) (a d t1 t2 p1 p2 x lb l3 : Addr) (n : Nat) (T : List (List Ed × Nat)) (v5 v10 : Option V) (H : Hp), ThH K CP H l3 T → T.length = 3 → (∀ q ∈ T, Sml q.1 q.2) →
    (∀ lp pv H', Same H H' → H' lp = some (.lst pv) → RelL (NpV K H') pv (clR T) → D.nx [some (.ref a), some (.ref d), some (.int n), some (.ref t1), some (.ref t2), v5, some (.ref p1), some (.ref p2), some (.ref x), some (.ref lb), v10, none, some (.ref l3), some (.ref lp), none, none, none, none, none, none, none, none, none, none] H') → t D [some (.ref a), some (.ref d), some (.int n), some (.ref t1), some (.ref t2), v5, some (.ref p1), some (.ref p2), some (.ref x), some (.ref lb), v10, none, some (.ref l3), none, none, none, none, none, none, none, none, none, none, none] H := by
  refine ⟨_, ps_setLc (i := 13) (own := [("pair", 21)]) (g := gName 21) rfl scLw.nd rfl rfl (sw_true rfl rfl rfl (by decide +kernel)) (pi_list (pe_lst (pa_cons (pe_tup (pa_cons pe_int (pa_cons pe_int pa_nil))) (pa_cons (pe_tup (pa_cons pe_int (pa_cons pe_int pa_nil))) (pa_cons (pe_tup (pa_cons pe_int (pa_cons pe_int pa_nil))) pa_nil)))))
      (blkOk_by (N := NLw) (sc := defScope sLw) (by decide +kernel)) (fun _ _ _ _ _ => pg_name (i := 21) scLw.nd rfl (Or.inl rfl))
      (fun _ _ _ _ _ => pts_one (pt_not (pt_truthR (r := rTo K CT CC) (pe_cl C.tog (hr.mono (by decide)) (pa_cons (pe_ix (r := rIxL K) ix_list (pv 12) (pe_ix (r := rIxT K) ix_tup (pv 21) pe_int (fun _ _ => rfl)) (fun _ _ => rfl)) (pa_cons (pe_ix (r := rIxL K) ix_list (pv 12) (pe_ix (r := rIxT K) ix_tup (pv 21) pe_int (fun _ _ => rfl)) (fun _ _ => rfl)) pa_nil))) (tru_to C.bT C.bC (hr.mono (by decide))) (by intro _; rfl))))
      (fun _ _ _ _ _ => pv 21), ?_⟩
  intro D a d t1 t2 p1 p2 x lb l3 n T v5 v10 H hT hT3 hsm q
  refine ⟨by show 2 ≤ sizeLine; decide, fun y1 hy1 => ⟨by show 2 ≤ sizeLine; decide, fun y2 hy2 => ⟨by show 2 ≤ sizeLine; decide, fun y3 hy3 => ⟨by show 3 ≤ sizeLine; decide, fun li hli => ?_⟩⟩⟩⟩
  have s1 := Same.new hy1 (.tup [.int 0, .int 1])
  have c1 : upd H y1 (.tup [.int 0, .int 1]) y1 = some (.tup [.int 0, .int 1]) := upd_same
  generalize upd H y1 (.tup [.int 0, .int 1]) = H1 at *
  have s2 := Same.new hy2 (.tup [.int 0, .int 2])
  have c2 : upd H1 y2 (.tup [.int 0, .int 2]) y2 = some (.tup [.int 0, .int 2]) := upd_same
  generalize upd H1 y2 (.tup [.int 0, .int 2]) = H2 at *
  have s3 := Same.new hy3 (.tup [.int 1, .int 2])
  have c3 : upd H2 y3 (.tup [.int 1, .int 2]) y3 = some (.tup [.int 1, .int 2]) := upd_same
  generalize upd H2 y3 (.tup [.int 1, .int 2]) = H3 at *
  have s4 := Same.new hli (.lst [.ref y1, .ref y2, .ref y3])
  have c4 : upd H3 li (.lst [.ref y1, .ref y2, .ref y3]) li = some (.lst [.ref y1, .ref y2, .ref y3]) := upd_same
  generalize upd H3 li (.lst [.ref y1, .ref y2, .ref y3]) = H4 at *
  have s04 := ((s1.trans s2).trans s3).trans s4
  obtain ⟨ps, hps, hR⟩ := hT.same s04
  have hpl : (ps.map V.ref).length = 3 := by rw [hR.len, hT3]
  have hget : ∀ i : Nat, i < 3 → ∃ (p : Addr) (qq : List Ed × Nat), (ps.map V.ref)[i]? = some (.ref p) ∧ T[i]? = some qq ∧ PtH K CP H4 p qq.1 qq.2 ∧ Cs T i = qq.1 := fun i hi => by
    have hip : i < (ps.map V.ref).length := by omega
    obtain ⟨qq, hq, p, ep, hpt⟩ := hR.get (List.getElem?_eq_getElem hip)
    refine ⟨p, qq, by rw [List.getElem?_eq_getElem hip, ep], hq, hpt, ?_⟩
    unfold Cs
    rw [List.getD_eq_getElem?_getD, hq]
    rfl
  have hPR : ∀ p ∈ PR, p.1 < 3 ∧ p.2 < 3 := by decide
  refine ⟨li, rfl, ⟨_, SqL.of c4⟩, fun L hL => ?_⟩
  refine lcM (K := K) (as := PR) (fun p => if (!agB (Cs T p.1) (Cs T p.2)) = true then some p else none) (fun H v p => NpV K H v p) (fun H v p => NpV K H v p) (walk_list (xs := [.ref y1, .ref y2, .ref y3])) (by show 3 ≤ 1000; decide) (fun H' s' => s'.seq (SqL.of c4)) hL
    ⟨⟨y1, rfl, SqT.of (s4 _ _ (s3 _ _ (s2 _ _ c1)))⟩, ⟨y2, rfl, SqT.of (s4 _ _ (s3 _ _ c2))⟩, ⟨y3, rfl, SqT.of (s4 _ _ c3)⟩, trivial⟩ (fun H' v a s z => z.imp fun _ _ y => Same.tup s y) (fun H2 H' v b f z => z.imp f) (fun xx b H' Q' Rn hb hRx s' kq kr => ?_) fun H5 ys s5 hL5 hys => ?_
  · obtain ⟨y, rfl, hy⟩ := id hRx
    obtain ⟨hb1, hb2⟩ := hPR b hb
    obtain ⟨pi, qi, hpi, hqi, hti, hci⟩ := hget b.1 hb1
    obtain ⟨pj, qj, hpj, hqj, htj, hcj⟩ := hget b.2 hb2
    have ixL : ∀ {i : Nat} {v : V}, (ps.map V.ref)[i]? = some v → atI (ps.map V.ref) (i : Nat) = some v := fun {i v} hv => by
      have hi : i < (ps.map V.ref).length := (List.getElem?_eq_some_iff.mp hv).1
      unfold atI ixN
      rw [if_pos (by omega), if_pos (by omega)]
      show (ps.map V.ref)[((i : Nat) : Int).toNat]? = some v
      rw [Int.toNat_natCast]
      exact hv
    refine ⟨rfl, _, rfl, _, rfl, y, _, 0, .int (b.1 : Nat), rfl, rfl, hy, rfl, l3, _, _, .ref pi, rfl, rfl, SqL.of (s' _ _ hps), ixL hpi, _, rfl, _, rfl, y, _, 1, .int (b.2 : Nat), rfl, rfl, hy, rfl, l3, _, _, .ref pj, rfl, rfl, SqL.of (s' _ _ hps), ixL hpj, ?_⟩
    refine ⟨pi, pj, qi.1, qj.1, qi.2, qj.2, rfl, hti.same s', htj.same s', hsm qi (List.mem_of_getElem? hqi), hsm qj (List.mem_of_getElem? hqj), fun ka kb hfb H6 x6 s6 fx hcl => ?_, fun hgo H6 x6 s6 fx htg => ?_⟩
    · have ng : agB (Cs T b.1) (Cs T b.2) = false := by
        rw [hci, hcj]
        cases z : agB qi.1 qj.1 with
        | false => rfl
        | true =>
          obtain ⟨e, f, he, hf, hn, _⟩ := hfb
          exact absurd (agB_iff.mp z e (List.mem_of_getElem? he) f (List.mem_of_getElem? hf)) hn
      refine .inr ⟨x6, rfl, hcl.ins, x6, rfl, _, rfl, iteTT rfl ⟨_, rfl, ?_⟩⟩
      exact kq _ _ _ (if_pos (by rw [ng]; rfl)) s6 (hRx.imp fun _ _ z => Same.tup s6 z)
    · obtain ⟨S, i1, j1, _, _, _, _, hh⟩ := htg
      have yg : agB (Cs T b.1) (Cs T b.2) = true := by
        rw [hci, hcj]
        exact agB_iff.mpr hgo
      refine .inl ⟨x6, rfl, hh.ins, x6, rfl, _, rfl, iteFF rfl ?_⟩
      exact kr (if_neg (by rw [yg]; exact Bool.false_ne_true)) _ s6
  rw [filterMap_filter] at hys
  exact q L ys H5 (s04.trans s5) hL5 hys
end
end P5

end
section
set_option Elab.async false
set_option linter.all false
set_option maxRecDepth 100000
set_option maxHeartbeats 4000000
/-! the law's rows: what all do, or the first two that clash -/
namespace P5
open PySem PySem.Spec PySem.SeqAt PySem.W PyProof.Rows L2 EN ND
def AllT (T : List (List Ed × Nat)) : Prop := ∀ (a' b' : Nat) (p p' : List Ed × Nat), b' < a' → T[b']? = some p → T[a']? = some p' → AllGo p.1 p'.1
/-- what all_together gives -/
def WhR (K : PySem.W.Frag) (CP : Addr) (H : Hp) (x : Addr) (T : List (List Ed × Nat)) (N : Nat) : Prop := (∃ b a : Nat, FirstClash T b a ∧ H x = some (.tup [.int (b : Nat), .int (a : Nat)])) ∨ (AllT T ∧ ∃ S : List Ed, S.Pairwise Bf ∧ (∀ e, e ∈ S ↔ e ∈ allC T) ∧ PtH K CP H x (asOne S) N)
theorem WhR.same {K : PySem.W.Frag} {CP x : Addr} {H H' : Hp} {T : List (List Ed × Nat)} {N : Nat} (s : Same H H') (h : WhR K CP H x T N) : WhR K CP H' x T N := by
  rcases h with ⟨b, a, h1, h2⟩ | ⟨h1, S, h2, h3, h4⟩
  · exact .inl ⟨b, a, h1, s _ _ h2⟩
  · exact .inr ⟨h1, S, h2, h3, h4.same s⟩
theorem clR_none {T : List (List Ed × Nat)} (h3 : T.length = 3) (h : AllT T) : clR T = [] := by
  obtain ⟨q0, q1, q2, rfl⟩ : ∃ q0 q1 q2, T = [q0, q1, q2] := by
    match T, h3 with
    | [q0, q1, q2], _ => exact ⟨q0, q1, q2, rfl⟩
  have e01 : agB q0.1 q1.1 = true := agB_iff.mpr (h 1 0 q0 q1 (by decide) rfl rfl)
  have e02 : agB q0.1 q2.1 = true := agB_iff.mpr (h 2 0 q0 q2 (by decide) rfl rfl)
  have e12 : agB q1.1 q2.1 = true := agB_iff.mpr (h 2 1 q1 q2 (by decide) rfl rfl)
  show PR.filter _ = []
  unfold PR
  rw [List.filter_cons_of_neg (by show ¬ (!agB q0.1 q1.1) = true; rw [e01]; exact Bool.false_ne_true), List.filter_cons_of_neg (by show ¬ (!agB q0.1 q2.1) = true; rw [e02]; exact Bool.false_ne_true), List.filter_cons_of_neg (by show ¬ (!agB q1.1 q2.1) = true; rw [e12]; exact Bool.false_ne_true)]
  rfl
theorem ag_false {C D : List Ed} (h : ¬ AllGo C D) : agB C D = false := by
  cases z : agB C D with
  | false => rfl
  | true => exact absurd (agB_iff.mp z) h
theorem clR_first {T : List (List Ed × Nat)} (h3 : T.length = 3) {b a : Nat} (h : FirstClash T b a) : ∃ r, clR T = (b, a) :: r := by
  obtain ⟨q0, q1, q2, rfl⟩ : ∃ q0 q1 q2, T = [q0, q1, q2] := by
    match T, h3 with
    | [q0, q1, q2], _ => exact ⟨q0, q1, q2, rfl⟩
  obtain ⟨p, p', hp, hp', hba, hn, h1, h2⟩ := h
  have ha : a < 3 := (List.getElem?_eq_some_iff.mp hp').1
  have cases3 : (b = 0 ∧ a = 1) ∨ (b = 0 ∧ a = 2) ∨ (b = 1 ∧ a = 2) := by omega
  show ∃ r, PR.filter _ = _
  unfold PR
  rcases cases3 with ⟨rfl, rfl⟩ | ⟨rfl, rfl⟩ | ⟨rfl, rfl⟩
  · cases hp
    cases hp'
    exact ⟨_, List.filter_cons_of_pos (by show (!agB q0.1 q1.1) = true; rw [ag_false hn]; rfl)⟩
  · cases hp
    cases hp'
    have e01 : agB q0.1 q1.1 = true := agB_iff.mpr (h1 1 0 q0 q1 (by decide) (by decide) rfl rfl)
    rw [List.filter_cons_of_neg (by show ¬ (!agB q0.1 q1.1) = true; rw [e01]; exact Bool.false_ne_true)]
    exact ⟨_, List.filter_cons_of_pos (by show (!agB q0.1 q2.1) = true; rw [ag_false hn]; rfl)⟩
  · cases hp
    cases hp'
    have e01 : agB q0.1 q1.1 = true := agB_iff.mpr (h1 1 0 q0 q1 (by decide) (by decide) rfl rfl)
    have e02 : agB q0.1 q2.1 = true := agB_iff.mpr (h2 0 q0 (by decide) rfl)
    rw [List.filter_cons_of_neg (by show ¬ (!agB q0.1 q1.1) = true; rw [e01]; exact Bool.false_ne_true), List.filter_cons_of_neg (by show ¬ (!agB q0.1 q2.1) = true; rw [e02]; exact Bool.false_ne_true)]
    exact ⟨_, List.filter_cons_of_pos (by show (!agB q1.1 q2.1) = true; rw [ag_false hn]; rfl)⟩
theorem allC_sm {T : List (List Ed × Nat)} (h3 : T.length = 3) (h : ∀ q ∈ T, Sml q.1 q.2) : (allC T).length ≤ 100 ∧ tot (allC T) ≤ 100 := by
  obtain ⟨q0, q1, q2, rfl⟩ : ∃ q0 q1 q2, T = [q0, q1, q2] := by
    match T, h3 with
    | [q0, q1, q2], _ => exact ⟨q0, q1, q2, rfl⟩
  have e : allC [q0, q1, q2] = q0.1 ++ (q1.1 ++ q2.1) := by simp [allC]
  have a0 := h q0 (by simp)
  have a1 := h q1 (by simp)
  have a2 := h q2 (by simp)
  have := a0.len; have := a1.len; have := a2.len
  have := a0.tot; have := a1.tot; have := a2.tot
  rw [e, List.length_append, List.length_append, tot_app, tot_app]
  omega
section
variable {P : Program} {w : World} {K : PySem.W.Frag} {mg : Str → Option Value} {base : Heap} {fL CE CP CB CT CC : Addr} {cdv : Value} {A : Around} {outer : List Env} {s : Shared} {H0 : Hp} {E : XK}
theorem lw12 (hr : Room 22 (XW P w K mg base fL cdv A outer s H0 E).A) (C : CW P w K mg base CE CP CT CC CB) : ∃ t, PS (XW P w K mg base fL cdv A outer s H0 E) (stW 12) t ∧ ∀ (D : Ends) (a d t1 t2 p1 p2 x lb l3 lp : Addr) (n N : Nat) (T : List (List Ed × Nat)) (v5 v10 : Option V) (H : Hp), ThH K CP H l3 T → T.length = 3 → (∀ q ∈ T, Sml q.1 q.2) → MaxOf T N → N ≤ 60 →
    (∀ wh H', Same H H' → WhR K CP H' wh T N → D.nx [some (.ref a), some (.ref d), some (.int n), some (.ref t1), some (.ref t2), v5, some (.ref p1), some (.ref p2), some (.ref x), some (.ref lb), v10, none, some (.ref l3), some (.ref lp), some (.ref wh), none, none, none, none, none, none, none, none, none] H') → t D [some (.ref a), some (.ref d), some (.int n), some (.ref t1), some (.ref t2), v5, some (.ref p1), some (.ref p2), some (.ref x), some (.ref lb), v10, none, some (.ref l3), some (.ref lp), none, none, none, none, none, none, none, none, none, none] H := by
  refine ⟨_, ps_set (i := 14) scLw.nd rfl (Or.inl rfl) (pe_cl C.att (hr.mono (by decide)) (pa_cons (pe_callTy call_tuple_of rfl C.bn.tup (by decide +kernel) (pa_cons (pv 12) pa_nil)) pa_nil)), ?_⟩
  intro D a d t1 t2 p1 p2 x lb l3 lp n N T v5 v10 H hT hT3 hsm hmx hN q
  obtain ⟨ps, hps, hR⟩ := hT
  obtain ⟨z1, z2⟩ := allC_sm hT3 hsm
  refine ⟨_, rfl, l3, _, rfl, .inl ⟨SqL.of hps, fun t5 ht5 => ?_⟩⟩
  have s5 := Same.new ht5 (.tup (ps.map V.ref))
  refine ⟨t5, ps.map V.ref, T, N, rfl, .inr (SqT.of upd_same), RelL.imp (fun _ _ z => PtV.same s5 z) hR, hmx, hsm, z1, z2, by omega, by omega, fun b a hfc H6 t6 s6 f6 h6 => ?_, fun hall H6 t6 S s6 f6 hS hm hp => ?_⟩
  · exact q t6 H6 (s5.trans s6) (.inl ⟨b, a, hfc, h6⟩)
  · exact q t6 H6 (s5.trans s6) (.inr ⟨hall, S, hS, hm, hp⟩)
theorem lw13 (hr : Room 22 (XW P w K mg base fL cdv A outer s H0 E).A) : ∃ t, PS (XW P w K mg base fL cdv A outer s H0 E) (stW 13) t ∧ ∀ (D : Ends) (a d t1 t2 p1 p2 x lb l3 lp wh : Addr) (n N : Nat) (T : List (List Ed × Nat)) (pv : List V) (v5 v10 : Option V) (H : Hp), T.length = 3 → H lp = some (.lst pv) → RelL (NpV K H) pv (clR T) → WhR K CP H wh T N →
    (∀ H', Same H H' → D.nx [some (.ref a), some (.ref d), some (.int n), some (.ref t1), some (.ref t2), v5, some (.ref p1), some (.ref p2), some (.ref x), some (.ref lb), v10, none, some (.ref l3), some (.ref lp), some (.ref wh), none, none, none, none, none, none, none, none, none] H') → t D [some (.ref a), some (.ref d), some (.int n), some (.ref t1), some (.ref t2), v5, some (.ref p1), some (.ref p2), some (.ref x), some (.ref lb), v10, none, some (.ref l3), some (.ref lp), some (.ref wh), none, none, none, none, none, none, none, none, none] H := by
  refine ⟨_, ps_if (PW.pt (pw_and (pt_cmpR (op_neD (hu64 hr)) (pv 13) (pe_lst pa_nil) (nomark _)) (pw_and1 (pt_cmpR (op_neD (hu64 hr)) (pv 14) (pe_ix (r := rIxL K) ix_list (pv 13) pe_int (fun _ _ => rfl)) (nomark _))))) (pss_one ps_never) pss_nil, ?_⟩
  intro D a d t1 t2 p1 p2 x lb l3 lp wh n N T pv v5 v10 H hT3 hlp hpv hwh q
  refine ⟨_, rfl, by show 0 ≤ sizeLine; decide, fun q1 hq1 => ?_⟩
  have s1 := Same.new hq1 (.lst [])
  have cq1 : upd H q1 (.lst []) q1 = some (.lst []) := upd_same
  have hb1 := s1 _ _ hlp
  have hB1 : RelL (NpV K (upd H q1 (.lst []))) pv (clR T) := RelL.imp (fun _ _ z => z.imp fun _ _ y => Same.tup s1 y) hpv
  have hw1 := hwh.same s1
  generalize upd H q1 (.lst []) = H1 at *
  refine ⟨.list ((clR T).map npD), .list [], .lst (SqL.of hb1) (dp_nps hB1), .lst (SqL.of cq1) .nil, shaped_nps _, by rfl, _, rfl, ?_⟩
  rw [eqv_nps]
  rcases hw1 with ⟨b, a', hfc, h6⟩ | ⟨hall, S, hS, hm, hp⟩
  · obtain ⟨r, hr2⟩ := clR_first hT3 hfc
    rw [hr2] at hB1 ⊢
    refine iteTT rfl ?_
    cases pv with
    | nil => exact hB1.elim
    | cons v pv =>
    obtain ⟨y, rfl, hy⟩ := hB1.1
    refine ⟨_, rfl, _, rfl, lp, _, 0, .ref y, rfl, rfl, SqL.of hb1, at_first _ _, .tuple [.int (b : Nat), .int (a' : Nat)], .tuple [.int (b : Nat), .int (a' : Nat)], .tup (SqT.of h6) (.cons (.int _) (.cons (.int _) .nil)), .tup hy (.cons (.int _) (.cons (.int _) .nil)), by rfl, by rfl, _, rfl, ?_⟩
    refine iteFF ?_ (q H1 s1)
    show (!(decide ((b : Int) = b) && (decide ((a' : Int) = a') && true))) = false
    simp
  · rw [clR_none hT3 hall]
    exact iteFF rfl (iteFF rfl (q H1 s1))
end
end P5

end
section
set_option Elab.async false
set_option linter.all false
set_option maxRecDepth 100000
set_option maxHeartbeats 4000000
/-! the law's rows: in any order, and one hand alone -/
namespace P5
open PySem PySem.Spec PySem.SeqAt PySem.W PyProof.Rows L2 EN ND
theorem AllT.turn {q0 q1 q2 : List Ed × Nat} (h : AllT [q0, q1, q2]) : AllT [q2, q0, q1] := by
  have h01 := h 1 0 q0 q1 (by decide) rfl rfl
  have h02 := h 2 0 q0 q2 (by decide) rfl rfl
  have h12 := h 2 1 q1 q2 (by decide) rfl rfl
  intro a b p p' hba hp hp'
  have ha : a < 3 := (List.getElem?_eq_some_iff.mp hp').1
  have cases3 : (b = 0 ∧ a = 1) ∨ (b = 0 ∧ a = 2) ∨ (b = 1 ∧ a = 2) := by omega
  rcases cases3 with ⟨rfl, rfl⟩ | ⟨rfl, rfl⟩ | ⟨rfl, rfl⟩
  · cases hp
    cases hp'
    exact fun e he f hf => (h02 f hf e he).symm
  · cases hp
    cases hp'
    exact fun e he f hf => (h12 f hf e he).symm
  · cases hp
    cases hp'
    exact h01
theorem no_clash {T : List (List Ed × Nat)} (h : AllT T) {b a : Nat} (z : FirstClash T b a) : False := by
  obtain ⟨p, p', hp, hp', hba, hn, _⟩ := z
  exact hn (h a b p p' hba hp hp')
theorem PtH.pok' {K : PySem.W.Frag} {CP p : Addr} {H : Hp} {C : List Ed} {m : Nat} (h : PtH K CP H p C m) : PtOk C m := by
  obtain ⟨_, _, _, _, _, _, z⟩ := h
  exact z
section
variable {P : Program} {w : World} {K : PySem.W.Frag} {mg : Str → Option Value} {base : Heap} {fL CE CP CB CT CC : Addr} {cdv : Value} {A : Around} {outer : List Env} {s : Shared} {H0 : Hp} {E : XK}
theorem lw14 (hr : Room 22 (XW P w K mg base fL cdv A outer s H0 E).A) (C : CW P w K mg base CE CP CT CC CB) : ∃ t, PS (XW P w K mg base fL cdv A outer s H0 E) (stW 14) t ∧ ∀ (D : Ends) (a d t1 t2 p1 p2 x lb l3 lp wh : Addr) (n N : Nat) (C1 : List Ed) (q0 q1 q2 : List Ed × Nat) (pv : List V) (v5 v10 : Option V) (H : Hp), H lp = some (.lst pv) → RelL (NpV K H) pv (clR [q0, q1, q2]) → WhR K CP H wh [q0, q1, q2] N →
    ThH K CP H l3 [q0, q1, q2] → (∀ q ∈ [q0, q1, q2], Sml q.1 q.2) → MaxOf [q0, q1, q2] N → N ≤ 60 → PtH K CP H p1 C1 n → Sml C1 n →
    (∀ H', Same H H' → D.nx [some (.ref a), some (.ref d), some (.int n), some (.ref t1), some (.ref t2), v5, some (.ref p1), some (.ref p2), some (.ref x), some (.ref lb), v10, none, some (.ref l3), some (.ref lp), some (.ref wh), none, none, none, none, none, none, none, none, none] H') → t D [some (.ref a), some (.ref d), some (.int n), some (.ref t1), some (.ref t2), v5, some (.ref p1), some (.ref p2), some (.ref x), some (.ref lb), v10, none, some (.ref l3), some (.ref lp), some (.ref wh), none, none, none, none, none, none, none, none, none] H := by
  obtain ⟨fE, fdE, hE1, hE2, GE, bE⟩ := C.eqP.ex
  refine ⟨_, ps_if (PW.pt (pw_or (PW.pt (pw_and (pt_cmpR (op_eqD (hu64 hr)) (pv 13) (pe_lst pa_nil) (nomark _)) (pw_and1 (pt_cmpR (op_neI hE1 hE2 C.neP C.obP GE bE (hr.mono (by decide))) (pv 14) (pe_cl C.att (hr.mono (by decide)) (pa_cons (pe_lst (pa_cons (pe_ix (r := rIxL K) ix_list (pv 12) pe_int (fun _ _ => rfl)) (pa_cons (pe_ix (r := rIxL K) ix_list (pv 12) pe_int (fun _ _ => rfl)) (pa_cons (pe_ix (r := rIxL K) ix_list (pv 12) pe_int (fun _ _ => rfl)) pa_nil)))) pa_nil)) (nomark _)))))
    (pw_or1 (pt_cmpR (op_neI hE1 hE2 C.neP C.obP GE bE (hr.mono (by decide))) (pe_cl C.att (hr.mono (by decide)) (pa_cons (pe_lst (pa_cons (pv 6) pa_nil)) pa_nil)) (pv 6) (nomark _))))) (pss_one ps_never) pss_nil, ?_⟩
  intro D a d t1 t2 p1 p2 x lb l3 lp wh n N C1 q0 q1 q2 pv v5 v10 H hlp hpv hwh hth hsm hmx hN hp1 hs1 q
  -- one hand alone
  have alone : ∀ {H3 : Hp}, Same H H3 → tCall (spAt K CP) [] E0 (tCons (tLst (tCons (tVar 6) tNil)) tNil) [some (.ref a), some (.ref d), some (.int n), some (.ref t1), some (.ref t2), v5, some (.ref p1), some (.ref p2), some (.ref x), some (.ref lb), v10, none, some (.ref l3), some (.ref lp), some (.ref wh), none, none, none, none, none, none, none, none, none] H3 fun v H4 => tVar 6 [some (.ref a), some (.ref d), some (.int n), some (.ref t1), some (.ref t2), v5, some (.ref p1), some (.ref p2), some (.ref x), some (.ref lb), v10, none, some (.ref l3), some (.ref lp), some (.ref wh), none, none, none, none, none, none, none, none, none] H4 fun u H5 => (fun (x y : V) (H : Hp) (Q : VK) => ∃ (a b : Addr), x = .ref a ∧ y = .ref b ∧ InsI H a CP ∧ InsI H b CP ∧ spPEq K CP [.ref a, .ref b] H (fun v H' => ∃ c, v = .bl c ∧ Q (.bl (!c)) H') (fun _ _ _ => False)) v u H5 fun z H6 => ∃ c, z = .bl c ∧ if c = true then False else D.nx [some (.ref a), some (.ref d), some (.int n), some (.ref t1), some (.ref t2), v5, some (.ref p1), some (.ref p2), some (.ref x), some (.ref lb), v10, none, some (.ref l3), some (.ref lp), some (.ref wh), none, none, none, none, none, none, none, none, none] H6 := fun {H3} s3 => by
    refine ⟨_, rfl, by show 1 ≤ sizeLine; decide, fun l1 hl1 => ?_⟩
    have s4 := Same.new hl1 (.lst [.ref p1])
    have c4 : upd H3 l1 (.lst [.ref p1]) l1 = some (.lst [.ref p1]) := upd_same
    have s04 := s3.trans s4
    generalize upd H3 l1 (.lst [.ref p1]) = H4 at *
    have ea : allC [(C1, n)] = C1 := by simp [allC]
    have lc := hs1.len
    have lt := hs1.tot
    have ln := hs1.least
    refine ⟨l1, [.ref p1], [(C1, n)], n, rfl, .inl (SqL.of c4), ⟨⟨p1, rfl, hp1.same s04⟩, trivial⟩, ⟨⟨(C1, n), by simp, rfl⟩, fun q hq => by rw [List.mem_singleton.mp hq]; exact Nat.le_refl _⟩, fun q hq => by rw [List.mem_singleton.mp hq]; exact hs1, by rw [ea]; omega, by rw [ea]; omega, by omega, by show 1 ≤ 100; decide, fun b a' hfc => ?_, fun _ H5 x5 S s5 f5 hS hm hp => ?_⟩
    · obtain ⟨p, p', hp, hp', hba, _⟩ := hfc
      have ha : a' < 1 := (List.getElem?_eq_some_iff.mp hp').1
      omega
    · have hO := hp1.pok'
      have eS : S = C1 := bf_uniq hS (apt_pw hO.apt) fun e => by rw [hm e, ea]
      rw [eS, asOne_same hO.apt] at hp
      refine ⟨_, rfl, x5, p1, rfl, rfl, hp.ins, (hp1.same (s04.trans s5)).ins, x5, p1, C1, C1, n, n, rfl, hp, hp1.same (s04.trans s5), _, rfl, _, rfl, ?_⟩
      have e : ∀ (d : Decidable (C1 = C1 ∧ n = n)), @decide _ d = true := fun d => @decide_eq_true _ d ⟨rfl, rfl⟩
      rw [e]
      exact iteFF rfl (q H5 (s04.trans s5))
  refine ⟨_, rfl, by show 0 ≤ sizeLine; decide, fun q1' hq1 => ?_⟩
  have s1 := Same.new hq1 (.lst [])
  have cq1 : upd H q1' (.lst []) q1' = some (.lst []) := upd_same
  have hb1 := s1 _ _ hlp
  have hB1 : RelL (NpV K (upd H q1' (.lst []))) pv (clR [q0, q1, q2]) := RelL.imp (fun _ _ z => z.imp fun _ _ y => Same.tup s1 y) hpv
  have hw1 := hwh.same s1
  have ht1 := hth.same s1
  generalize upd H q1' (.lst []) = H1 at *
  refine ⟨.list ((clR [q0, q1, q2]).map npD), .list [], .lst (SqL.of hb1) (dp_nps hB1), .lst (SqL.of cq1) .nil, shaped_nps _, by rfl, _, rfl, ?_⟩
  rw [eqv_nps]
  rcases hw1 with ⟨b, a', hfc, h6⟩ | ⟨hall, S, hS, hm, hp⟩
  · obtain ⟨r, hr2⟩ := clR_first rfl hfc
    rw [hr2]
    exact iteFF rfl (iteFF rfl (alone s1))
  · rw [clR_none rfl hall]
    refine iteTT rfl ?_
    obtain ⟨ps, hps, hR⟩ := ht1
    match ps, hps, hR with
    | [], _, h => exact h.elim
    | [_], _, h => exact h.2.elim
    | [_, _], _, h => exact h.2.2.elim
    | _ :: _ :: _ :: _ :: _, _, h => exact h.2.2.2.elim
    | [y0, y1, y2], hps, ⟨h0, h1, h2, _⟩ =>
    refine ⟨_, rfl, _, rfl, l3, _, 2, .ref y2, rfl, rfl, SqL.of hps, rfl, _, rfl, l3, _, 0, .ref y0, rfl, rfl, SqL.of hps, rfl, _, rfl, l3, _, 1, .ref y1, rfl, rfl, SqL.of hps, rfl, by show 3 ≤ sizeLine; decide, fun l1 hl1 => ?_⟩
    have s4 := Same.new hl1 (.lst [.ref y2, .ref y0, .ref y1])
    have c4 : upd H1 l1 (.lst [.ref y2, .ref y0, .ref y1]) l1 = some (.lst [.ref y2, .ref y0, .ref y1]) := upd_same
    have s04 := s1.trans s4
    have hp4 := hp.same s4
    have k0 := h0.same s4
    have k1 := h1.same s4
    have k2 := h2.same s4
    generalize upd H1 l1 (.lst [.ref y2, .ref y0, .ref y1]) = H4 at *
    have hsm' : ∀ q ∈ [q2, q0, q1], Sml q.1 q.2 := fun q hq => hsm q (by simp at hq ⊢; rcases hq with z | z | z <;> simp [z])
    obtain ⟨z1, z2⟩ := allC_sm (T := [q2, q0, q1]) rfl hsm'
    have hmx' : MaxOf [q2, q0, q1] N := by
      obtain ⟨⟨q, hq, e⟩, h⟩ := hmx
      refine ⟨⟨q, by simp at hq ⊢; rcases hq with z | z | z <;> simp [z], e⟩, fun q hq => h q (by simp at hq ⊢; rcases hq with z | z | z <;> simp [z])⟩
    refine ⟨l1, _, [q2, q0, q1], N, rfl, .inl (SqL.of c4), ⟨k2, k0, k1, trivial⟩, hmx', hsm', z1, z2, by omega, by show 3 ≤ 100; decide, fun b a' hfc => (no_clash hall.turn hfc).elim, fun _ H5 x5 S' s5 f5 hS' hm' hp' => ?_⟩
    have eS : S' = S := bf_uniq hS' hS fun e => by
      rw [hm' e, hm e]
      simp [allC]
      constructor
      · rintro (z | z | z) <;> simp [z]
      · rintro (z | z | z) <;> simp [z]
    rw [eS] at hp'
    refine ⟨wh, x5, rfl, rfl, (hp4.same s5).ins, hp'.ins, wh, x5, asOne S, asOne S, N, N, rfl, hp4.same s5, hp', _, rfl, _, rfl, ?_⟩
    have e : ∀ (d : Decidable (asOne S = asOne S ∧ N = N)), @decide _ d = true := fun d => @decide_eq_true _ d ⟨rfl, rfl⟩
    rw [e]
    exact iteFF rfl (alone (s04.trans s5))
end
end P5

end
section
set_option Elab.async false
set_option linter.all false
set_option maxRecDepth 100000
set_option maxHeartbeats 4000000
/-! the law's rows: the least number of all -/
namespace P5
open PySem PySem.Spec PySem.SeqAt PySem.W PyProof.Rows L2 EN ND
section
variable {P : Program} {w : World} {K : PySem.W.Frag} {mg : Str → Option Value} {base : Heap} {fL CE CP CB CT CC : Addr} {cdv : Value} {A : Around} {outer : List Env} {s : Shared} {H0 : Hp} {E : XK}
theorem lw15 (hr : Room 22 (XW P w K mg base fL cdv A outer s H0 E).A) (C : CW P w K mg base CE CP CT CC CB) : ∃ t, PS (XW P w K mg base fL cdv A outer s H0 E) (stW 15) t ∧ ∀ (D : Ends) (a d t1 t2 p1 p2 x lb l3 lp wh : Addr) (n N : Nat) (T : List (List Ed × Nat)) (pv : List V) (v5 v10 : Option V) (H : Hp), T.length = 3 → H lp = some (.lst pv) → RelL (NpV K H) pv (clR T) → WhR K CP H wh T N →
    ThH K CP H l3 T → MaxOf T N →
    (∀ H', Same H H' → D.nx [some (.ref a), some (.ref d), some (.int n), some (.ref t1), some (.ref t2), v5, some (.ref p1), some (.ref p2), some (.ref x), some (.ref lb), v10, none, some (.ref l3), some (.ref lp), some (.ref wh), none, none, none, none, none, none, none, none, none] H') → t D [some (.ref a), some (.ref d), some (.int n), some (.ref t1), some (.ref t2), v5, some (.ref p1), some (.ref p2), some (.ref x), some (.ref lb), v10, none, some (.ref l3), some (.ref lp), some (.ref wh), none, none, none, none, none, none, none, none, none] H := by
  refine ⟨_, ps_if (PW.pt (pw_and (pt_cmpR (op_eqD (hu64 hr)) (pv 13) (pe_lst pa_nil) (nomark _)) (pw_and1 (pt_cmpR op_ne (pe_fld (pv 14) rfl)
    (pe_callB (cr_max rfl) rfl C.bn.max (by decide +kernel) (pa_cons (pe_lc (own := [("patch", 22)]) (g := gName 22) (te := tFld K (tVar 22) "least") rfl scLw.nd (pi_list (pv 12)) (blkOk_by (N := NLw) (sc := defScope sLw) (by decide +kernel)) (fun _ _ _ _ _ => pg_name (i := 22) scLw.nd rfl (Or.inl rfl)) (fun _ _ _ _ _ => pts_nil) (fun _ _ _ _ _ => pe_fld (pv 22) rfl)) pa_nil)) (nomark _))))) (pss_one ps_never) pss_nil, ?_⟩
  intro D a d t1 t2 p1 p2 x lb l3 lp wh n N T pv v5 v10 H hT3 hlp hpv hwh hth hmx q
  refine ⟨_, rfl, by show 0 ≤ sizeLine; decide, fun q1 hq1 => ?_⟩
  have s1 := Same.new hq1 (.lst [])
  have cq1 : upd H q1 (.lst []) q1 = some (.lst []) := upd_same
  have hb1 := s1 _ _ hlp
  have hB1 : RelL (NpV K (upd H q1 (.lst []))) pv (clR T) := RelL.imp (fun _ _ z => z.imp fun _ _ y => Same.tup s1 y) hpv
  have hw1 := hwh.same s1
  have ht1 := hth.same s1
  generalize upd H q1 (.lst []) = H1 at *
  refine ⟨.list ((clR T).map npD), .list [], .lst (SqL.of hb1) (dp_nps hB1), .lst (SqL.of cq1) .nil, shaped_nps _, by rfl, _, rfl, ?_⟩
  rw [eqv_nps]
  rcases hw1 with ⟨b, a', hfc, h6⟩ | ⟨hall, S, hS, hm, hp⟩
  · obtain ⟨r, hr2⟩ := clR_first hT3 hfc
    rw [hr2]
    exact iteFF rfl (iteFF rfl (q H1 s1))
  rw [clR_none hT3 hall]
  refine iteTT rfl ?_
  obtain ⟨dx, t, vs, hpw, _⟩ := id hp
  obtain ⟨ps, hps, hR⟩ := ht1
  have hpl : (ps.map V.ref).length = 3 := by rw [hR.len, hT3]
  refine ⟨_, rfl, wh, CP, dx, _, .int N, rfl, hpw, C.clP.cl, C.clP.nL, rfl, ?_⟩
  refine ⟨_, rfl, l3, rfl, ⟨_, SqL.of hps⟩, fun L hL => ?_⟩
  refine lcM (K := K) (as := T) (fun q => some q.2) (fun H v q => PtV K CP H v q) (fun H v m => v = V.int (m : Nat)) walk_list (by omega) (fun H' s' => s'.seq (SqL.of hps)) hL hR (fun H' v a s z => PtV.same s z) (fun H2 H' v b f z => z) (fun y b H' Q' Rn hb hRx s' kq kr => ?_) fun H8 ys s8 hL8 hys => ?_
  · obtain ⟨p, rfl, hpt⟩ := hRx
    obtain ⟨dx, t, cv, hp, _⟩ := id hpt
    exact ⟨rfl, yesI ⟨_, rfl, p, CP, dx, _, .int b.2, rfl, hp, C.clP.cl, C.clP.nL, rfl, kq _ b.2 _ rfl (Same.refl _) rfl⟩⟩
  have eys : ys = (T.map fun q => (q.2 : Int)).map V.int := by
    rw [List.filterMap_eq_map'] at hys
    have z : ∀ {ys : List V} {ms : List Nat}, RelL (fun v (m : Nat) => v = V.int (m : Nat)) ys ms → ys = ms.map fun m => V.int (m : Nat) := by
      intro ys
      induction ys with
      | nil => intro ms h; cases ms with
        | nil => rfl
        | cons _ _ => exact h.elim
      | cons v ys ih => intro ms h; cases ms with
        | nil => exact h.elim
        | cons m ms => rw [List.map_cons, ← ih h.2, h.1]
    rw [z hys, List.map_map, List.map_map]
    rfl
  subst eys
  have hne : T.map (fun q => (q.2 : Int)) ≠ [] := fun z => by
    rw [List.map_eq_nil_iff] at z
    rw [z] at hT3
    cases hT3
  refine ⟨L, T.map (fun q => (q.2 : Int)), rfl, SqL.of hL8, List.length_pos_iff.mpr hne, fun M h2 h3 => ?_⟩
  have eM : M = (N : Int) := by
    obtain ⟨q, hq, eq⟩ := List.mem_map.mp h2
    have := hmx.2 q hq
    obtain ⟨q2, hq2, eq2⟩ := hmx.1
    have := h3 (q2.2 : Int) (List.mem_map.mpr ⟨q2, hq2, rfl⟩)
    omega
  refine ⟨rfl, _, rfl, iteFF ?_ (q H8 (s1.trans s8))⟩
  rw [eM]
  show (!decide (V.int (N : Int) = V.int (N : Int))) = false
  simp
end
end P5

end
section
set_option Elab.async false
set_option linter.all false
set_option maxRecDepth 100000
set_option maxHeartbeats 4000000
/-! the law's rows: changes that do not go together are the end -/
namespace P5
open PySem PySem.Spec PySem.SeqAt PySem.W PyProof.Rows L2 EN ND
section
variable {P : Program} {w : World} {K : PySem.W.Frag} {mg : Str → Option Value} {base : Heap} {fL CE CP CB CT CC : Addr} {cdv : Value} {A : Around} {outer : List Env} {s : Shared} {H0 : Hp} {E : XK}
theorem lw16 (hr : Room 22 (XW P w K mg base fL cdv A outer s H0 E).A) (C : CW P w K mg base CE CP CT CC CB) (RC : RIn K mg "Clash" CC) (gT : mg "Together" = some (.ref CT)) (kf : PySem.W.kitOne K (.ref CC) (.ref CT) = some false) : ∃ t, PS (XW P w K mg base fL cdv A outer s H0 E) (stW 16) t ∧ ∀ (D : Ends) (a d t1 t2 p1 p2 x lb l3 lp wh : Addr) (n m : Nat) (C1 C2 : List Ed) (bv : List V) (v5 v10 : Option V) (H : Hp), ToH K CP CT CC H x C1 C2 n m → H lb = some (.lst bv) → RelL (NpV K H) bv (badL C1 C2) →
    (∀ H', Same H H' → D.rt (.bl true) H') → (∀ H', Same H H' → AllGo C1 C2 → TgR K CP CT H' x C1 C2 n m → D.nx [some (.ref a), some (.ref d), some (.int n), some (.ref t1), some (.ref t2), v5, some (.ref p1), some (.ref p2), some (.ref x), some (.ref lb), v10, none, some (.ref l3), some (.ref lp), some (.ref wh), none, none, none, none, none, none, none, none, none] H') → t D [some (.ref a), some (.ref d), some (.int n), some (.ref t1), some (.ref t2), v5, some (.ref p1), some (.ref p2), some (.ref x), some (.ref lb), v10, none, some (.ref l3), some (.ref lp), some (.ref wh), none, none, none, none, none, none, none, none, none] H := by
  refine ⟨_, ps_if (pt_cmpR (op_neD (hu64 hr)) (pv 9) (pe_lst pa_nil) (nomark _)) (pss_one (ps_ret (pe_not (pe_callB call_isi rfl C.bn.isi (by decide +kernel) (pa_cons (pv 8) (pa_cons (pgl gT) pa_nil)))))) pss_nil, ?_⟩
  intro D a d t1 t2 p1 p2 x lb l3 lp wh n m C1 C2 bv v5 v10 H hto hlb hbv qr q
  refine ⟨_, rfl, by show 0 ≤ sizeLine; decide, fun q1 hq1 => ?_⟩
  have s1 := Same.new hq1 (.lst [])
  have cq1 : upd H q1 (.lst []) q1 = some (.lst []) := upd_same
  have hb1 := s1 _ _ hlb
  have hB1 : RelL (NpV K (upd H q1 (.lst []))) bv (badL C1 C2) := RelL.imp (fun _ _ z => z.imp fun _ _ y => Same.tup s1 y) hbv
  have hw1 := hto.same s1
  generalize upd H q1 (.lst []) = H1 at *
  refine ⟨.list ((badL C1 C2).map npD), .list [], .lst (SqL.of hb1) (dp_nps hB1), .lst (SqL.of cq1) .nil, shaped_nps _, by rfl, _, rfl, ?_⟩
  rw [eqv_nps]
  rcases hw1 with ⟨i, j, hfb, hcl⟩ | ⟨hgo, htg⟩
  · obtain ⟨r, hr2⟩ := badL_first hfb
    rw [hr2]
    obtain ⟨dx, hx⟩ := hcl
    exact iteTT rfl ⟨_, rfl, .ref x, .ref CT, .ref CC, .ref CT, false, rfl, .own _, .base (.ins hx C.clC.cl RC.ha RC.hn RC.ht RC.hm), kf, _, rfl, qr H1 s1⟩
  · rw [badL_none hgo]
    exact iteFF rfl (q H1 s1 hgo htg)
end
end P5

end
section
set_option Elab.async false
set_option linter.all false
set_option maxRecDepth 100000
set_option maxHeartbeats 4000000
/-! the law's rows: the words, and what is due -/
namespace P5
open PySem PySem.Spec PySem.SeqAt PySem.W PyProof.Rows L2 EN ND
def LT13 : Str := "defghijklmnop"
/-- the law's words -/
def WW : List Str := (signs LT13).map fun x => x ++ ("w" : Str)
theorem WW_mrk : ∀ z ∈ WW, z ∈ MRK := fun z hz => mrk_of (by revert z; decide +kernel)
theorem WW_len : WW.length = 13 := by decide +kernel
section
variable {P : Program} {w : World} {K : PySem.W.Frag} {mg : Str → Option Value} {base : Heap} {fL CE CP CB CT CC : Addr} {cdv : Value} {A : Around} {outer : List Env} {s : Shared} {H0 : Hp} {E : XK}
theorem lw17 : ∃ t, PS (XW P w K mg base fL cdv A outer s H0 E) (stW 17) t ∧ ∀ (D : Ends) (a d t1 t2 p1 p2 x lb l3 lp wh : Addr) (n : Nat) (v5 v10 : Option V) (H : Hp),
    (∀ lw H', Same H H' → H' lw = some (.lst (WW.map V.str)) → D.nx [some (.ref a), some (.ref d), some (.int n), some (.ref t1), some (.ref t2), v5, some (.ref p1), some (.ref p2), some (.ref x), some (.ref lb), v10, none, some (.ref l3), some (.ref lp), some (.ref wh), some (.ref lw), none, none, none, none, none, none, none, none] H') → t D [some (.ref a), some (.ref d), some (.int n), some (.ref t1), some (.ref t2), v5, some (.ref p1), some (.ref p2), some (.ref x), some (.ref lb), v10, none, some (.ref l3), some (.ref lp), some (.ref wh), none, none, none, none, none, none, none, none, none] H := by
  refine ⟨_, ps_setLc (i := 15) (own := [("letter", 23)]) (g := gName 23) rfl scLw.nd rfl rfl (sw_true rfl rfl rfl (by decide +kernel)) (pi_str pe_str) (blkOk_by (N := NLw) (sc := defScope sLw) (by decide +kernel)) (fun _ _ _ _ _ => pg_name (i := 23) scLw.nd rfl (Or.inl rfl)) (fun _ _ _ _ _ => pts_nil) (fun _ _ _ _ _ => pe_op op_add_str (pv 23) pe_str), ?_⟩
  intro D a d t1 t2 p1 p2 x lb l3 lp wh n v5 v10 H q
  refine ⟨LT13, rfl, fun L hL => lcS (WW.map V.str) (by rw [List.length_map]; decide +kernel) (by decide +kernel) hL (fun i y c H' Q' hc hy s k => ?_) fun H1 s1 hL1 => q L H1 s1 hL1⟩
  have ey : y = .str ((⟨#[c]⟩ : Str) ++ ("w" : Str)) := by
    have z : (WW.map V.str)[i]? = some (.str ((⟨#[c]⟩ : Str) ++ ("w" : Str))) := by
      unfold WW signs
      rw [List.getElem?_map, List.getElem?_map, List.getElem?_map, hc]
      rfl
    rw [z] at hy
    exact (Option.some.inj hy).symm
  rw [ey] at k
  refine ⟨rfl, _, rfl, (⟨#[c]⟩ : Str), ("w" : Str), rfl, rfl, small_le (by show 1 + 1 ≤ 1000; decide), k H' (Same.refl _)⟩
end
end P5

end
section
set_option Elab.async false
set_option linter.all false
set_option maxRecDepth 100000
set_option maxHeartbeats 4000000
/-! o.f(e, ..) where the field f of the instance holds an instance that can be called -/
namespace P5
open PySem PySem.Spec PyProof.Rows L2
section
variable {X : Cx} {CX : CXT} {k : Nat} {C CT g : Addr} {sp : Sp} {E : XK} {e o : Expr} {es : List Expr} {ta : TE} {t : TA} {pos apos : Pos} {m : Str}
def tFldO (X : Cx) (CT C : Addr) (m : Str) (sp : Sp) (E : XK) (ta : TE) (t : TA) : TE := fun σ H Q => ta σ H fun y H1 => ∃ a dx fs p, y = V.ref a ∧ H1 a = some (.ins CT dx fs) ∧ fs.lookup m = some (.ref p) ∧ t σ H1 fun vs H2 => StX.InsC X H2 p C ∧ sp (V.ref p :: vs) H2 Q E
theorem pe_fldO {pl : Sem Bool} (he : PE X o ta) (cD : Cls X.K CT) (n : NoAttr X.K CT m) (c : StX.CallO X.K C g) (F : FnR X.prog X.w X.K X.mg X.base CX k g sp) (hr : Room k X.A) (hx : Passes CX X E) (ha : PA X (e :: es) t)
    (hst : starEach (e :: es) X.env = (false, eval e X.env) :: starEach es X.env := by rfl) (hpl : (backTo pos (starEach es X.env)).any (·.1) = false := by rfl)
    (ht : eval (.Call (.Attribute o m apos) (e :: es) [] pos) X.env = (do
      let ov ← eval o X.env
      standAt apos.atName
      let (f, first) ← holding [ov] (getMethod ov m pl)
      callWith pos f first (backTo pos (starEach (e :: es) X.env)) (backToKw pos (keywordEach [] X.env))) := by rfl) :
    PE X (.Call (.Attribute o m apos) (e :: es) [] pos) (tFldO X CT C m sp E ta t) := by
  refine ⟨fun pins s σ H Q I h => ?_⟩
  refine PySem.W.methodCall_KW (pl := pl) (thn (he.run pins s σ H _ I h) fun u s1 ⟨x, H1, I1, rx, a, dx, fs, p, ex, ea, l, q⟩ => ?_) ht
  subst ex
  obtain rfl : u = Value.ref a := rx
  obtain ⟨mA, O, r, _, _, _⟩ := ins_get I1.hok ea
  obtain ⟨od, J, hl⟩ := O.look
  refine PySem.W.method_usual (r := none) I1.kIn J (PySem.W.plainGet_of (cD.get m)).1 (PySem.W.plainGet_of (cD.get m)).2 n rfl ?_
  refine getattr_ok I1 ea cD n l fun u' s' I2 ru => ?_
  obtain rfl : u' = Value.ref p := ru
  refine StX.callO_with (thn (ha.run pos pins s' σ H1 _ I2 q) fun us s2 z2 => ?_) hst hpl
  obtain ⟨vs, H2, I3, r3, hi, q2⟩ := z2
  obtain ⟨ox, od2, J2, hd⟩ := StX.insC_at I3 hi
  exact ⟨⟨C, ox, od2, J2, hd⟩, StX.run_callO c F hr hx I3 hi r3 q2⟩
end
end P5

end
section
set_option Elab.async false
set_option linter.all false
set_option maxRecDepth 100000
set_option maxHeartbeats 4000000
/-! the law's rows: what is due -/
namespace P5
open PySem PySem.Spec PySem.SeqAt PySem.W PyProof.Rows L2 EN ND
section
variable {P : Program} {w : World} {K : PySem.W.Frag} {mg : Str → Option Value} {base : Heap} {fL CE CP CB CT CC : Addr} {cdv : Value} {A : Around} {outer : List Env} {s : Shared} {H0 : Hp} {E : XK}
theorem lw18 (hr : Room 22 (XW P w K mg base fL cdv A outer s H0 E).A) (C : CW P w K mg base CE CP CT CC CB) : ∃ t, PS (XW P w K mg base fL cdv A outer s H0 E) (stW 18) t ∧ ∀ (D : Ends) (a d t1 t2 p1 p2 x lb l3 lp wh lw : Addr) (n m i j : Nat) (C1 C2 S U O : List Ed) (v5 v10 : Option V) (H : Hp), TgH K CP CT H x (asOne S) U O m i j → S.Pairwise Bf → (∀ e ∈ S, Ne e) → tot S ≤ 100 → m ≤ 13 → H lw = some (.lst (WW.map V.str)) →
    (∀ ld H', Same H H' → LsH H' ld (apC S 0 WW) → D.nx [some (.ref a), some (.ref d), some (.int n), some (.ref t1), some (.ref t2), v5, some (.ref p1), some (.ref p2), some (.ref x), some (.ref lb), v10, none, some (.ref l3), some (.ref lp), some (.ref wh), some (.ref lw), some (.ref ld), none, none, none, none, none, none, none] H') → t D [some (.ref a), some (.ref d), some (.int n), some (.ref t1), some (.ref t2), v5, some (.ref p1), some (.ref p2), some (.ref x), some (.ref lb), v10, none, some (.ref l3), some (.ref lp), some (.ref wh), some (.ref lw), none, none, none, none, none, none, none, none] H := by
  obtain ⟨fC, cC, GC⟩ := C.call.ex
  refine ⟨_, ps_set (i := 16) scLw.nd rfl (Or.inl rfl) (pe_fldO (pv 8) C.clT.cl C.clT.nW cC GC (hr.mono (by decide)) passLN (pa_cons (pv 15) pa_nil)), ?_⟩
  intro D a d t1 t2 p1 p2 x lb l3 lp wh lw n m i j C1 C2 S U O v5 v10 H htg hS hN ht hm hlw q
  obtain ⟨dx, w1, u1, o1, hx, hw, hu, ho⟩ := htg
  have hrow := uni_row hS hN
  have hlen : (apC (asOne S) 0 WW).length ≤ 200 := by
    have z := apC_le WW (asOne_apt hrow)
    rw [asOne_tot, WW_len] at z
    omega
  have hls : LsH H lw WW := ⟨hlw, WW_mrk, by rw [WW_len]; decide⟩
  refine ⟨_, rfl, x, dx, _, w1, rfl, hx, rfl, _, rfl, hw.insC, w1, lw, asOne S, m, WW, rfl, hw, hls.wse, hlen, fun _ H6 u6 s6 f6 L6 => ?_, fun z => absurd z (by rw [WW_len]; omega)⟩
  rw [asOne_apC hrow] at L6
  exact q u6 H6 s6 L6
end
end P5

end
section
set_option Elab.async false
set_option linter.all false
set_option maxRecDepth 100000
set_option maxHeartbeats 4000000
/-! the law's rows: one hand behind the other does what is due -/
namespace P5
open PySem PySem.Spec PySem.SeqAt PySem.W PyProof.Rows L2 EN ND
theorem rest_tot {C D : List Ed} (hD : D.Pairwise Bf) : tot (asOne (rest0 C D)) ≤ tot D := by
  rw [asOne_tot]
  have e1 : tot (rest0 C D) = tot (D.filter (fun e => decide (e ∉ C))) := by
    unfold tot rest0
    rw [List.map_map]
    rfl
  rw [e1]
  exact (sub_len (pw_nodup (hD.sublist List.filter_sublist)) fun x hx => (List.mem_filter.mp hx).1).2
section
variable {P : Program} {w : World} {K : PySem.W.Frag} {mg : Str → Option Value} {base : Heap} {fL CE CP CB CT CC : Addr} {cdv : Value} {A : Around} {outer : List Env} {s : Shared} {H0 : Hp} {E : XK}
theorem lw19 (hr : Room 22 (XW P w K mg base fL cdv A outer s H0 E).A) (C : CW P w K mg base CE CP CT CC CB) : ∃ t, PS (XW P w K mg base fL cdv A outer s H0 E) (stW 19) t ∧ ∀ (D : Ends) (a d t1 t2 p1 p2 x lb l3 lp wh lw ld : Addr) (n m i j : Nat) (C1 C2 S : List Ed) (v5 v10 : Option V) (H : Hp), n ≤ 9 → m ≤ 10 → PtH K CP H p1 C1 n → PtH K CP H p2 C2 m → AllGo C1 C2 → tot C1 ≤ 10 → tot C2 ≤ 10 → C1.length ≤ 5 → C2.length ≤ 5 →
    TgH K CP CT H x (asOne S) (asOne (rest0 C2 C1)) (asOne (rest0 C1 C2)) (max n m) i j → S.Pairwise Bf → (∀ e, e ∈ S ↔ e ∈ C1 ∨ e ∈ C2) → (i : Int) = max n m + growC C2 → (j : Int) = max n m + growC C1 → H lw = some (.lst (WW.map V.str)) → LsH H ld (apC S 0 WW) →
    (∀ H', Same H H' → D.nx [some (.ref a), some (.ref d), some (.int n), some (.ref t1), some (.ref t2), v5, some (.ref p1), some (.ref p2), some (.ref x), some (.ref lb), v10, none, some (.ref l3), some (.ref lp), some (.ref wh), some (.ref lw), some (.ref ld), none, none, none, none, none, none, none] H') → t D [some (.ref a), some (.ref d), some (.int n), some (.ref t1), some (.ref t2), v5, some (.ref p1), some (.ref p2), some (.ref x), some (.ref lb), v10, none, some (.ref l3), some (.ref lp), some (.ref wh), some (.ref lw), some (.ref ld), none, none, none, none, none, none, none] H := by
  obtain ⟨fC, cC, GC⟩ := C.call.ex
  refine ⟨_, ps_if (PW.pt (pw_or (pt_cmpR (op_neW (hu64 hr)) (StX.pe_callO (pe_cl C.beh (hr.mono (by decide)) (pa_cons (pv 6) (pa_cons (pe_fld (pv 8) rfl) pa_nil))) cC GC (hr.mono (by decide)) passLN (pa_cons (pv 15) pa_nil)) (pv 16) (nomark _)) (pw_or (pt_cmpR (op_neW (hu64 hr)) (StX.pe_callO (pe_cl C.beh (hr.mono (by decide)) (pa_cons (pv 7) (pa_cons (pe_fld (pv 8) rfl) pa_nil))) cC GC (hr.mono (by decide)) passLN (pa_cons (pv 15) pa_nil)) (pv 16) (nomark _))
    (pw_or1 (pt_cmpR op_ne (pe_fld (pe_fld (pv 8) rfl) rfl) (pe_callB (call_max2 rfl) rfl C.bn.max (by decide +kernel) (pa_cons (pe_fld (pv 6) rfl) (pa_cons (pe_fld (pv 7) rfl) pa_nil))) (nomark _)))))) (pss_one ps_never) pss_nil, ?_⟩
  intro D a d t1 t2 p1 p2 x lb l3 lp wh lw ld n m i j C1 C2 S v5 v10 H hn hm h1 h2 hgo ht1 ht2 hl1 hl2 htg hS hmS hi hj hlw hld q
  obtain ⟨dx, w1, u1, o1, hx, hw, hu, ho⟩ := htg
  have O1 := h1.pok'
  have O2 := h2.pok'
  have tg : Tg C1 C2 n m := ⟨O1, O2, hgo⟩
  have g1 := growC_le C1 fun x hx => (O1.ok x hx).le
  have g2 := growC_le C2 fun x hx => (O2.ok x hx).le
  have r1 := rest_tot (C := C2) (apt_pw O1.apt)
  have r2 := rest_tot (C := C1) (apt_pw O2.apt)
  have hls : LsH H lw WW := ⟨hlw, WW_mrk, by rw [WW_len]; decide⟩
  have hNS : ∀ e ∈ S, Ne e := fun e he => by
    rcases (hmS e).mp he with z | z
    · exact (O1.ne z).1
    · exact (O2.ne z).1
  have hrow := uni_row hS hNS
  have htS : tot S ≤ 20 := by
    have z := (sub_len (pw_nodup hS) (L := C1 ++ C2) fun e he => List.mem_append.mpr ((hmS e).mp he)).2
    rw [tot_app] at z
    omega
  have hlen : (apC (asOne S) 0 WW).length ≤ 200 := by
    have z := apC_le WW (asOne_apt hrow)
    rw [asOne_tot, WW_len] at z
    omega
  have dueE : ∀ (b : Bool), b = decide (apC S 0 WW = apC S 0 WW) → b = true := fun b hb => by rw [hb]; exact decide_eq_true rfl
  refine ⟨_, rfl, _, rfl, x, CT, dx, _, .ref o1, rfl, hx, C.clT.cl, C.clT.nR, rfl, p1, o1, C1, _, n, j, rfl, h1, ho, by omega, by omega, by omega, by omega, fun H1 f F jj s1 ff hF hjj hrun => ?_⟩
  obtain ⟨eF, ejj⟩ := tg.behind hS hmS hj (by omega) (by omega) (by omega) (by omega) hF.pok' hjj hrun
  subst eF
  subst ejj
  refine ⟨f, rfl, _, rfl, hF.insC, f, lw, asOne S, max n m, WW, rfl, hF, (hls.same s1).wse, hlen, fun _ H2 u2 s2 f2 L2 => ?_, fun z => absurd z (by rw [WW_len]; omega)⟩
  rw [asOne_apC hrow] at L2
  have s12 := s1.trans s2
  refine ⟨_, rfl, u2, ld, _, _, rfl, rfl, L2.wsl.at_, (hld.same s12).wsl.at_, L2.mrk, hld.mrk, _, rfl, iteFF (by rw [decide_eq_true rfl]; rfl) ?_⟩
  refine ⟨_, rfl, _, rfl, x, CT, dx, _, .ref u1, rfl, s12 _ _ hx, C.clT.cl, C.clT.nO, rfl, p2, u1, C2, _, m, i, rfl, h2.same s12, hu.same s12, by omega, by omega, by omega, by omega, fun H3 f F jj s3 ff hF hjj hrun => ?_⟩
  obtain ⟨eF, ejj⟩ := tg.symm.behind hS (fun e => (hmS e).trans Or.comm) (show (i : Int) = (max m n : Nat) + growC C2 by rw [Nat.max_comm]; exact hi) (by omega) (by omega) (by omega) (by omega) hF.pok' hjj hrun
  subst eF
  subst ejj
  have s13 := s12.trans s3
  refine ⟨f, rfl, _, rfl, hF.insC, f, lw, asOne S, max m n, WW, rfl, hF, (hls.same s13).wse, hlen, fun _ H4 u4 s4 f4 L4 => ?_, fun z => absurd z (by rw [WW_len]; omega)⟩
  rw [asOne_apC hrow] at L4
  have s14 := s13.trans s4
  refine ⟨_, rfl, u4, ld, _, _, rfl, rfl, L4.wsl.at_, (hld.same s14).wsl.at_, L4.mrk, hld.mrk, _, rfl, iteFF (by rw [decide_eq_true rfl]; rfl) ?_⟩
  obtain ⟨dw, tw, vw, hpw, _⟩ := hw.same s14
  obtain ⟨d1, y1, z1, hp1, _⟩ := h1.same s14
  obtain ⟨d2, y2, z2, hp2, _⟩ := h2.same s14
  refine ⟨_, rfl, x, CT, dx, _, .ref w1, rfl, s14 _ _ hx, C.clT.cl, C.clT.nW, rfl, w1, CP, dw, _, .int (max n m : Nat), rfl, hpw, C.clP.cl, C.clP.nL, rfl, _, rfl, p1, CP, d1, _, .int n, rfl, hp1, C.clP.cl, C.clP.nL, rfl, _, rfl, p2, CP, d2, _, .int m, rfl, hp2, C.clP.cl, C.clP.nL, rfl, _, _, rfl, rfl, _, rfl, iteFF ?_ (q H4 s14)⟩
  have e : (if (m : Int) > (n : Int) then (m : Int) else (n : Int)) = ((max n m : Nat) : Int) := by
    by_cases z : (m : Int) > n
    · rw [if_pos z]; omega
    · rw [if_neg z]; omega
  rw [e]
  show (!decide (V.int ((max n m : Nat) : Int) = V.int ((max n m : Nat) : Int))) = false
  simp
end
end P5

end
section
set_option Elab.async false
set_option linter.all false
set_option maxRecDepth 100000
set_option maxHeartbeats 4000000
/-! the law's rows: the least numbers of what is left -/
namespace P5
open PySem PySem.Spec PySem.SeqAt PySem.W PyProof.Rows L2 EN ND
section
variable {P : Program} {w : World} {K : PySem.W.Frag} {mg : Str → Option Value} {base : Heap} {fL CE CP CB CT CC : Addr} {cdv : Value} {A : Around} {outer : List Env} {s : Shared} {H0 : Hp} {E : XK}
theorem lw21 (hr : Room 22 (XW P w K mg base fL cdv A outer s H0 E).A) (C : CW P w K mg base CE CP CT CC CB) : ∃ t, PS (XW P w K mg base fL cdv A outer s H0 E) (stW 21) t ∧ ∀ (D : Ends) (a d t1 t2 p1 p2 x lb l3 lp wh lw ld : Addr) (n m i j N : Nat) (C1 C2 W U O : List Ed) (v5 v10 : Option V) (H : Hp), PtH K CP H p1 C1 n → PtH K CP H p2 C2 m →
    TgH K CP CT H x W U O N i j → (i : Int) = N + growC C2 → (j : Int) = N + growC C1 →
    (∀ H', Same H H' → D.nx [some (.ref a), some (.ref d), some (.int n), some (.ref t1), some (.ref t2), v5, some (.ref p1), some (.ref p2), some (.ref x), some (.ref lb), v10, none, some (.ref l3), some (.ref lp), some (.ref wh), some (.ref lw), some (.ref ld), none, none, none, none, none, none, none] H') → t D [some (.ref a), some (.ref d), some (.int n), some (.ref t1), some (.ref t2), v5, some (.ref p1), some (.ref p2), some (.ref x), some (.ref lb), v10, none, some (.ref l3), some (.ref lp), some (.ref wh), some (.ref lw), some (.ref ld), none, none, none, none, none, none, none] H := by
  obtain ⟨fG, fdG, MG, GG, bG⟩ := C.gP.ex
  refine ⟨_, ps_if (PW.pt (pw_or (pt_cmpR op_ne (pe_fld (pe_fld (pv 8) rfl) rfl) (pe_op op_add (pe_fld (pe_fld (pv 8) rfl) rfl) (pe_meth0 (pv 7) C.clP.cl MG GG (hr.mono (by decide)) bG .nil pass0)) (nomark _)) (pw_or1 (pt_cmpR op_ne (pe_fld (pe_fld (pv 8) rfl) rfl) (pe_op op_add (pe_fld (pe_fld (pv 8) rfl) rfl) (pe_meth0 (pv 6) C.clP.cl MG GG (hr.mono (by decide)) bG .nil pass0)) (nomark _))))) (pss_one ps_never) pss_nil, ?_⟩
  intro D a d t1 t2 p1 p2 x lb l3 lp wh lw ld n m i j N C1 C2 W U O v5 v10 H h1 h2 htg hi hj q
  obtain ⟨dx, w1, u1, o1, hx, hw, hu, ho⟩ := htg
  obtain ⟨dw, tw, vw, hpw, _⟩ := id hw
  obtain ⟨du, tu, vu, hpu, _⟩ := id hu
  obtain ⟨d2, y2, z2, hp2, _⟩ := id h2
  refine ⟨_, rfl, x, CT, dx, _, .ref u1, rfl, hx, C.clT.cl, C.clT.nO, rfl, u1, CP, du, _, .int i, rfl, hpu, C.clP.cl, C.clP.nL, rfl, _, rfl, x, CT, dx, _, .ref w1, rfl, hx, C.clT.cl, C.clT.nW, rfl, w1, CP, dw, _, .int N, rfl, hpw, C.clP.cl, C.clP.nL, rfl, _, rfl, p2, d2, _, rfl, hp2, rfl, p2, C2, m, rfl, h2, fun H1 s1 => ⟨_, _, rfl, rfl, rfl, _, rfl, iteFF (by show (!decide (V.int (i : Int) = V.int ((N : Int) + growC C2))) = false; rw [← hi]; simp) ?_⟩⟩
  obtain ⟨dw, tw, vw, hpw, _⟩ := hw.same s1
  obtain ⟨du, tu, vu, hpu, _⟩ := ho.same s1
  obtain ⟨d2, y2, z2, hp2, _⟩ := h1.same s1
  refine ⟨_, rfl, x, CT, dx, _, .ref o1, rfl, s1 _ _ hx, C.clT.cl, C.clT.nR, rfl, o1, CP, du, _, .int j, rfl, hpu, C.clP.cl, C.clP.nL, rfl, _, rfl, x, CT, dx, _, .ref w1, rfl, s1 _ _ hx, C.clT.cl, C.clT.nW, rfl, w1, CP, dw, _, .int N, rfl, hpw, C.clP.cl, C.clP.nL, rfl, _, rfl, p1, d2, _, rfl, hp2, rfl, p1, C1, n, rfl, h1.same s1, fun H2 s2 => ⟨_, _, rfl, rfl, rfl, _, rfl, iteFF (by show (!decide (V.int (j : Int) = V.int ((N : Int) + growC C1))) = false; rw [← hj]; simp) (q H2 (s1.trans s2))⟩⟩
end
end P5

end
section
set_option Elab.async false
set_option linter.all false
set_option maxRecDepth 100000
set_option maxHeartbeats 4000000
/-! the law's rows: turned about -/
namespace P5
open PySem PySem.Spec PySem.SeqAt PySem.W PyProof.Rows L2 EN ND
section
variable {P : Program} {w : World} {K : PySem.W.Frag} {mg : Str → Option Value} {base : Heap} {fL CE CP CB CT CC : Addr} {cdv : Value} {A : Around} {outer : List Env} {s : Shared} {H0 : Hp} {E : XK}
theorem lw22 (hr : Room 22 (XW P w K mg base fL cdv A outer s H0 E).A) (C : CW P w K mg base CE CP CT CC CB) : ∃ t, PS (XW P w K mg base fL cdv A outer s H0 E) (stW 22) t ∧ ∀ (D : Ends) (a d t1 t2 p1 p2 x lb l3 lp wh lw ld : Addr) (n m : Nat) (C1 C2 : List Ed) (v5 v10 : Option V) (H : Hp), PtH K CP H p1 C1 n → PtH K CP H p2 C2 m → Sml C1 n → Sml C2 m → AllGo C1 C2 →
    (∀ ag H', Same H H' → TgR K CP CT H' ag C2 C1 m n → D.nx [some (.ref a), some (.ref d), some (.int n), some (.ref t1), some (.ref t2), v5, some (.ref p1), some (.ref p2), some (.ref x), some (.ref lb), v10, none, some (.ref l3), some (.ref lp), some (.ref wh), some (.ref lw), some (.ref ld), some (.ref ag), none, none, none, none, none, none] H') → t D [some (.ref a), some (.ref d), some (.int n), some (.ref t1), some (.ref t2), v5, some (.ref p1), some (.ref p2), some (.ref x), some (.ref lb), v10, none, some (.ref l3), some (.ref lp), some (.ref wh), some (.ref lw), some (.ref ld), none, none, none, none, none, none, none] H := by
  refine ⟨_, ps_set (i := 17) scLw.nd rfl (Or.inl rfl) (pe_cl C.tog (hr.mono (by decide)) (pa_cons (pv 7) (pa_cons (pv 6) pa_nil))), ?_⟩
  intro D a d t1 t2 p1 p2 x lb l3 lp wh lw ld n m C1 C2 v5 v10 H h1 h2 k1 k2 hgo q
  have hgo' : ∀ e ∈ C2, ∀ f ∈ C1, Go e f := fun e he f hf => (hgo f hf e he).symm
  exact ⟨_, rfl, _, rfl, p2, p1, C2, C1, m, n, rfl, h2, h1, k2, k1, fun i j hfb => by
    obtain ⟨e, f, he, hf, hn, _⟩ := hfb
    exact absurd (hgo' e (List.mem_of_getElem? he) f (List.mem_of_getElem? hf)) hn, fun _ H' x' s' fx hx => q x' H' s' hx⟩
theorem lw23 (hr : Room 22 (XW P w K mg base fL cdv A outer s H0 E).A) (C : CW P w K mg base CE CP CT CC CB) : ∃ t, PS (XW P w K mg base fL cdv A outer s H0 E) (stW 23) t ∧ ∀ (D : Ends) (a d t1 t2 p1 p2 x lb l3 lp wh lw ld ag : Addr) (n m i j : Nat) (C1 C2 S : List Ed) (v5 v10 : Option V) (H : Hp),
    TgH K CP CT H x (asOne S) (asOne (rest0 C2 C1)) (asOne (rest0 C1 C2)) (max n m) i j → S.Pairwise Bf → (∀ e, e ∈ S ↔ e ∈ C1 ∨ e ∈ C2) → (i : Int) = max n m + growC C2 → (j : Int) = max n m + growC C1 → TgR K CP CT H ag C2 C1 m n →
    (∀ H', Same H H' → D.nx [some (.ref a), some (.ref d), some (.int n), some (.ref t1), some (.ref t2), v5, some (.ref p1), some (.ref p2), some (.ref x), some (.ref lb), v10, none, some (.ref l3), some (.ref lp), some (.ref wh), some (.ref lw), some (.ref ld), some (.ref ag), none, none, none, none, none, none] H') → t D [some (.ref a), some (.ref d), some (.int n), some (.ref t1), some (.ref t2), v5, some (.ref p1), some (.ref p2), some (.ref x), some (.ref lb), v10, none, some (.ref l3), some (.ref lp), some (.ref wh), some (.ref lw), some (.ref ld), some (.ref ag), none, none, none, none, none, none] H := by
  obtain ⟨fI, fdI, MI, GI, bI⟩ := C.mkT.ex
  obtain ⟨fE, fdE, hE1, hE2, GE, bE⟩ := C.eqT.ex
  obtain ⟨fQ, fdQ, hQ1, hQ2, GQ, bQ⟩ := C.eqP.ex
  refine ⟨_, ps_if (PW.pt (pw_or (pt_cmpR (op_neI hE1 hE2 C.neT C.obT GE bE (hr.mono (by decide))) (pv 17) (pe_make (E := E0) MI GI (hr.mono (by decide)) rfl C.mkT.m bI .nil pass0 (pa_cons (pe_fld (pv 8) rfl) (pa_cons (pe_fld (pv 8) rfl) (pa_cons (pe_fld (pv 8) rfl) pa_nil)))) (nomark _))
    (pw_or1 (pt_cmpR (op_neI hQ1 hQ2 C.neP C.obP GQ bQ (hr.mono (by decide))) (pe_fld (pv 17) rfl) (pe_fld (pv 8) rfl) (nomark _))))) (pss_one ps_never) pss_nil, ?_⟩
  intro D a d t1 t2 p1 p2 x lb l3 lp wh lw ld ag n m i j C1 C2 S v5 v10 H htg hS hmS hi hj hag q
  obtain ⟨S', i', j', hS', hm', hi', hj', hag⟩ := hag
  have eS : S' = S := bf_uniq hS' hS fun e => by rw [hm' e, hmS e]; exact Or.comm
  subst eS
  have em : max m n = max n m := Nat.max_comm m n
  rw [em] at hi' hj' hag
  have e1 : i' = j := by omega
  have e2 : j' = i := by omega
  subst e1
  subst e2
  obtain ⟨dx, w1, u1, o1, hx, hw, hu, ho⟩ := htg
  refine ⟨_, rfl, _, rfl, x, CT, dx, _, .ref w1, rfl, hx, C.clT.cl, C.clT.nW, rfl, _, rfl, x, CT, dx, _, .ref o1, rfl, hx, C.clT.cl, C.clT.nR, rfl, _, rfl, x, CT, dx, _, .ref u1, rfl, hx, C.clT.cl, C.clT.nO, rfl, ?_⟩
  refine mk_tg (Q := fun x H2 => _) hw ho hu fun H1 y s1 fy hy => ?_
  refine ⟨ag, y, rfl, rfl, (hag.same s1).ins, hy.ins, ag, y, _, _, _, _, _, _, rfl, hag.same s1, hy, true, rfl, _, rfl, iteFF rfl ?_⟩
  obtain ⟨da, wa, ua, oa, hxa, hwa, _, _⟩ := hag.same s1
  refine ⟨_, rfl, ag, CT, da, _, .ref wa, rfl, hxa, C.clT.cl, C.clT.nW, rfl, _, rfl, x, CT, dx, _, .ref w1, rfl, s1 _ _ hx, C.clT.cl, C.clT.nW, rfl, wa, w1, rfl, rfl, hwa.ins, (hw.same s1).ins, wa, w1, _, _, _, _, rfl, hwa, hw.same s1, _, rfl, _, rfl, ?_⟩
  have e : ∀ (d : Decidable (asOne S' = asOne S' ∧ max n m = max n m)), @decide _ d = true := fun d => @decide_eq_true _ d ⟨rfl, rfl⟩
  rw [e]
  exact iteFF rfl (q H1 s1)
end
end P5

end
section
set_option Elab.async false
set_option linter.all false
set_option maxRecDepth 100000
set_option maxHeartbeats 4000000
/-! the law's rows: one hand behind the other is all, in any order -/
namespace P5
open PySem PySem.Spec PySem.SeqAt PySem.W PyProof.Rows L2 EN ND
section
variable {P : Program} {w : World} {K : PySem.W.Frag} {mg : Str → Option Value} {base : Heap} {fL CE CP CB CT CC : Addr} {cdv : Value} {A : Around} {outer : List Env} {s : Shared} {H0 : Hp} {E : XK}
theorem lw20 (hr : Room 22 (XW P w K mg base fL cdv A outer s H0 E).A) (C : CW P w K mg base CE CP CT CC CB) : ∃ t, PS (XW P w K mg base fL cdv A outer s H0 E) (stW 20) t ∧ ∀ (D : Ends) (a d sa t1 t2 p1 p2 x lb l3 lp wh lw ld : Addr) (n m i j : Nat) (C1 C2 S : List Ed) (v5 v10 : Option V) (H : Hp), DrwS H d sa → n ≤ 9 → m ≤ 10 → PtH K CP H p1 C1 n → PtH K CP H p2 C2 m → AllGo C1 C2 → tot C1 ≤ 10 → tot C2 ≤ 10 → C1.length ≤ 5 → C2.length ≤ 5 → RwC K H t1 C1 → RwC K H t2 C2 →
    TgH K CP CT H x (asOne S) (asOne (rest0 C2 C1)) (asOne (rest0 C1 C2)) (max n m) i j → S.Pairwise Bf → (∀ e, e ∈ S ↔ e ∈ C1 ∨ e ∈ C2) → (i : Int) = max n m + growC C2 → (j : Int) = max n m + growC C1 → H lw = some (.lst (WW.map V.str)) → LsH H ld (apC S 0 WW) →
    (∀ H', Aft H H' d → DrwS H' d sa → D.nx [some (.ref a), some (.ref d), some (.int n), some (.ref t1), some (.ref t2), v5, some (.ref p1), some (.ref p2), some (.ref x), some (.ref lb), v10, none, some (.ref l3), some (.ref lp), some (.ref wh), some (.ref lw), some (.ref ld), none, none, none, none, none, none, none] H') → t D [some (.ref a), some (.ref d), some (.int n), some (.ref t1), some (.ref t2), v5, some (.ref p1), some (.ref p2), some (.ref x), some (.ref lb), v10, none, some (.ref l3), some (.ref lp), some (.ref wh), some (.ref lw), some (.ref ld), none, none, none, none, none, none, none] H := by
  obtain ⟨fQ, fdQ, hQ1, hQ2, GQ, bQ⟩ := C.eqP.ex
  refine ⟨_, ps_if (PW.pt (pw_or (pt_cmpR (op_neI hQ1 hQ2 C.neP C.obP GQ bQ (hr.mono (by decide))) (pe_cl C.beh (hr.mono (by decide)) (pa_cons (pv 6) (pa_cons (pe_fld (pv 8) rfl) pa_nil))) (pe_fld (pv 8) rfl) (nomark _)) (pw_or (pt_cmpR (op_neI hQ1 hQ2 C.neP C.obP GQ bQ (hr.mono (by decide))) (pe_cl C.beh (hr.mono (by decide)) (pa_cons (pv 7) (pa_cons (pe_fld (pv 8) rfl) pa_nil))) (pe_fld (pv 8) rfl) (nomark _))
    (pw_or1 (pt_cmpR (op_neW (hu64 hr)) (pe_cl C.wv (hr.mono (by decide)) (pa_cons (pv 1) (pa_cons (pe_op op_cat (pe_callTy call_list_of rfl C.bn.lst (by decide +kernel) (pa_cons (pv 3) pa_nil)) (pe_lc (own := [("change", 5)]) (g := gName 5) rfl scLw.nd (pi_tup (pv 4)) (blkOk_by (N := NLw) (sc := defScope sLw) (by decide +kernel)) (fun _ _ _ _ _ => pg_name (i := 5) scLw.nd rfl (Or.inl rfl)) (fun _ _ _ _ _ => pts_one (pt_cmpR (r := rNotInT K) (op_notInT (hu65 hr)) (pv 5) (pv 3) (by rfl))) (fun _ _ _ _ _ => pv 5))) (pa_cons (pv 15) pa_nil)))) (pv 16) (nomark _)))))) (pss_one ps_never) pss_nil, ?_⟩
  intro D a d sa t1 t2 p1 p2 x lb l3 lp wh lw ld n m i j C1 C2 S v5 v10 H hd hn hm h1 h2 hgo ht1 ht2 hl1 hl2 w1' w2' htg hS hmS hi hj hlw hld q
  obtain ⟨dx, w1, u1, o1, hx, hw, hu, ho⟩ := htg
  have O1 := h1.pok'
  have O2 := h2.pok'
  have tg : Tg C1 C2 n m := ⟨O1, O2, hgo⟩
  have g1 := growC_le C1 fun x hx => (O1.ok x hx).le
  have g2 := growC_le C2 fun x hx => (O2.ok x hx).le
  have r1 := rest_tot (C := C2) (apt_pw O1.apt)
  have r2 := rest_tot (C := C1) (apt_pw O2.apt)
  have e : ∀ (d : Decidable (asOne S = asOne S ∧ max n m = max n m)), @decide _ d = true := fun d => @decide_eq_true _ d ⟨rfl, rfl⟩
  refine ⟨_, rfl, _, rfl, x, CT, dx, _, .ref o1, rfl, hx, C.clT.cl, C.clT.nR, rfl, p1, o1, C1, _, n, j, rfl, h1, ho, by omega, by omega, by omega, by omega, fun H1 f F jj s1 ff hF hjj hrun => ?_⟩
  obtain ⟨eF, ejj⟩ := tg.behind hS hmS hj (by omega) (by omega) (by omega) (by omega) hF.pok' hjj hrun
  subst eF
  subst ejj
  refine ⟨_, rfl, x, CT, dx, _, .ref w1, rfl, s1 _ _ hx, C.clT.cl, C.clT.nW, rfl, f, w1, rfl, rfl, hF.ins, (hw.same s1).ins, f, w1, _, _, _, _, rfl, hF, hw.same s1, _, rfl, _, rfl, ?_⟩
  rw [e]
  refine iteFF rfl ?_
  refine ⟨_, rfl, _, rfl, x, CT, dx, _, .ref u1, rfl, s1 _ _ hx, C.clT.cl, C.clT.nO, rfl, p2, u1, C2, _, m, i, rfl, h2.same s1, hu.same s1, by omega, by omega, by omega, by omega, fun H3 f F jj s3 ff hF hjj hrun => ?_⟩
  obtain ⟨eF, ejj⟩ := tg.symm.behind hS (fun e => (hmS e).trans Or.comm) (show (i : Int) = (max m n : Nat) + growC C2 by rw [Nat.max_comm]; exact hi) (by omega) (by omega) (by omega) (by omega) hF.pok' hjj hrun
  subst eF
  rw [Nat.max_comm] at ejj
  subst ejj
  have s13 := s1.trans s3
  refine ⟨_, rfl, x, CT, dx, _, .ref w1, rfl, s13 _ _ hx, C.clT.cl, C.clT.nW, rfl, f, w1, rfl, rfl, hF.ins, (hw.same s13).ins, f, w1, _, _, _, _, rfl, hF, hw.same s13, _, rfl, _, rfl, ?_⟩
  rw [e]
  refine iteFF rfl ?_
  have d3 := hd.same s13
  obtain ⟨c1, hT1, hV1⟩ := w1'.same s13
  obtain ⟨c2, hT2, hV2⟩ := w2'.same s13
  have hc1 : c1.length = C1.length := hV1.len
  have hc2 : c2.length = C2.length := hV2.len
  refine ⟨_, rfl, _, rfl, t1, c1, rfl, .inr hT1, fun la hla => ?_⟩
  have s4 := Same.new hla (.lst c1)
  have c4 : upd H3 la (.lst c1) la = some (.lst c1) := upd_same
  have s14 := s13.trans s4
  have hT14 := Same.tup s4 hT1
  have hT24 := Same.tup s4 hT2
  have hV14 : ChsV K (upd H3 la (.lst c1)) c1 C1 := hV1.imp fun _ _ z => Same.tup s4 z
  have hV24 : ChsV K (upd H3 la (.lst c1)) c2 C2 := hV2.imp fun _ _ z => Same.tup s4 z
  generalize upd H3 la (.lst c1) = H4 at *
  refine ⟨_, rfl, t2, rfl, ⟨_, hT24⟩, fun L hL => ?_⟩
  refine lcM (K := K) (as := C2) (fun x => if (decide (x ∉ C1)) = true then some x else none) (fun H v x => ChV K H v x) (fun H v x => ChV K H v x) walk_tup (by omega) (fun H' s => Same.tup s hT24) hL (chs_rel.mp hV24) (fun H' v a s z => ChV.same s z) (fun H2 H' v b f z => z.imp f) (fun y b H' Q' Rn hb hR s' kq kr => ?_) fun H5 ys s5 hL5 hys => ?_
  · refine ⟨rfl, _, rfl, _, rfl, b, C1, t1, c1, hR, rfl, Same.tup s' hT14, hV14.imp (fun _ _ z => Same.tup s' z), (O2.ok b hb).mrk, O1.ok, _, rfl, ?_⟩
    by_cases z : b ∉ C1
    · exact iteTT (decide_eq_true z) ⟨_, rfl, kq _ b _ (if_pos (decide_eq_true z)) (Same.refl _) hR⟩
    · exact iteFF (decide_eq_false z) (kr (if_neg (by rw [decide_eq_true_eq]; exact z)) _ (Same.refl _))
  rw [filterMap_filter] at hys
  have hyl : ys.length ≤ C2.length := by rw [hys.len]; exact List.length_filter_le _ _
  have s15 := s14.trans s5
  refine ⟨la, L, c1, ys, rfl, rfl, s5 _ _ c4, hL5, small_le (by omega), fun lc hlc => ?_⟩
  have s6 := Same.new hlc (.lst (c1 ++ ys))
  have c6 : upd H5 lc (.lst (c1 ++ ys)) lc = some (.lst (c1 ++ ys)) := upd_same
  have s16 := s15.trans s6
  have hV6 : RelL (ChV K (upd H5 lc (.lst (c1 ++ ys)))) (c1 ++ ys) (C1 ++ C2.filter fun x => decide (x ∉ C1)) := RelL.app (chs_rel.mp (hV14.imp fun _ _ z => Same.tup (s5.trans s6) z)) (RelL.imp (fun _ _ z => ChV.same s6 z) hys)
  generalize upd H5 lc (.lst (c1 ++ ys)) = H6 at *
  have d6 := hd.same s16
  have hmem : ∀ e, e ∈ S ↔ e ∈ C1 ++ C2.filter fun x => decide (x ∉ C1) := fun e => by
    rw [hmS e, List.mem_append, List.mem_filter, decide_eq_true_eq]
    by_cases z : e ∈ C1
    · simp [z]
    · simp [z]
  have hnd : (C1 ++ C2.filter fun x => decide (x ∉ C1)).Nodup := by
    rw [List.nodup_append]
    refine ⟨pw_nodup (apt_pw O1.apt), pw_nodup ((apt_pw O2.apt).sublist List.filter_sublist), fun y hy z hz => ?_⟩
    have := of_decide_eq_true (List.mem_filter.mp hz).2
    intro k
    exact this (k ▸ hy)
  have hft := (sub_len (pw_nodup ((apt_pw O2.apt).sublist (List.filter_sublist (p := fun x => decide (x ∉ C1))))) fun x hx => (List.mem_filter.mp hx).1)
  have hlw6 := s16 _ _ hlw
  refine ⟨_, rfl, d, sa, lc, lw, c1 ++ ys, _, S, WW, rfl, d6, SqL.of c6, chs_rel.mpr hV6, SqL.of hlw6, hnd, hS, hmem, fun y hy => ?_, by rw [WW_len]; decide, by rw [List.length_append]; omega, by rw [tot_app]; omega, fun H7 l7 a7 d7 h7 => ?_⟩
  · rcases List.mem_append.mp hy with z | z
    · have k := O1.ne z
      exact ⟨k.1, by rw [WW_len]; omega, O1.ok y z⟩
    · have z := (List.mem_filter.mp z).1
      have k := O2.ne z
      exact ⟨k.1, by rw [WW_len]; omega, O2.ok y z⟩
  · have hld7 := (hld.same s16).aft d6 a7
    exact ⟨_, rfl, l7, ld, _, _, rfl, rfl, SqL.of h7, SqL.of hld7.at_, hld7.mrk, hld7.mrk, _, rfl, iteFF (by rw [decide_eq_true rfl]; rfl) (q H7 ((Aft.of s16).trans a7) d7)⟩
end
end P5

end
section
set_option Elab.async false
set_option linter.all false
set_option maxRecDepth 100000
set_option maxHeartbeats 4000000
/-! the law's last row -/
namespace P5
open PySem PySem.Spec PySem.SeqAt PySem.W PyProof.Rows L2 EN ND
section
variable {P : Program} {w : World} {K : PySem.W.Frag} {mg : Str → Option Value} {base : Heap} {fL CE CP CB CT CC : Addr} {cdv : Value} {A : Around} {outer : List Env} {s : Shared} {H0 : Hp} {E : XK}
theorem lw26 : ∃ t, PS (XW P w K mg base fL cdv A outer s H0 E) (stW 26) t ∧ ∀ (D : Ends) (σ : L2.St) (H : Hp), D.rt (.bl true) H → t D σ H := ⟨_, ps_ret pe_bl, fun D σ H h => h⟩
end
end P5

end
section
set_option Elab.async false
set_option linter.all false
set_option maxRecDepth 100000
set_option maxHeartbeats 4000000
/-! sets of nested keys: what a search and an adding ask of a key -/
namespace ND
open PySem PySem.Spec PySem.SeqAt PySem.Calls PyProof.Rows L2 PySem.W
section
variable (P : Program) (w : World)
/-- v is of no class statement -/
def NoCl (n : Nat) (s : Shared) (v : Value) : Prop := ∀ (A : Around) (E : Value → Shared → Prop) (Q : Bool → Shared → Prop), Q false s → wpAny (model P w) A (ofAClassStatement n v) Q E s
/-- whether v's hash goes by its value is told -/
def HbT (n : Nat) (s : Shared) (v : Value) : Prop := ∀ (A : Around) (E : Value → Shared → Prop) (Q : Bool → Shared → Prop), (∀ b, Q b s) → wpAny (model P w) A (hashByValue n v) Q E s
end
section
variable {P : Program} {w : World}
theorem noCl_byval {v : Value} (hv : ∀ a, v ≠ .ref a) (n : Nat) (s : Shared) : NoCl P w n s v := by
  intro A E Q h
  have e : ofAClassStatement n v = pure false := by
    cases v <;> first | rfl | (cases n <;> rfl) | exact absurd rfl (hv _)
  rw [e]
  exact wpAny_pure h
mutual
theorem noCl_key : ∀ (k : NK) (v : Value) (n : Nat) (s : Shared), NestedIs s.heap k v → k.depth ≤ n → NoCl P w n s v
  | .none, _, n, s, x, _ => by cases x; exact noCl_byval (by intro a z; cases z) n s
  | .num i, _, n, s, x, _ => by cases x <;> exact noCl_byval (by intro a z; cases z) n s
  | .text y, _, n, s, x, _ => by cases x; exact noCl_byval (by intro a z; cases z) n s
  | .tup ks, _, n, s, x, hn => by
    cases x with
    | @tup a o vs _ _ hg hc hd hk =>
      simp only [NestedKey.depth] at hn
      cases n with
      | zero => omega
      | succ n =>
        have all := noCl_keys ks vs.toList n s hk (by omega)
        intro A E Q h
        have hT : s.TypeIs (.ref a) "tuple" := ⟨o, hg, hc⟩
        unfold ofAClassStatement
        refine wpAny_bind (wpAny_typeOf hT ?_)
        dsimp only
        rw [show (("tuple" : String) == "tuple") = true from by decide]
        refine wp_if_pos rfl (wpAny_bind (wpAny_pure ?_))
        refine wp_if_neg (by decide) ?_
        try refine wpAny_bind (wpAny_pure ?_)
        refine wpAny_bind (wpAny_seqItems hg hd ?_)
        dsimp only
        refine wpAny_bind ?_
        rw [← Array.forIn_toList]
        refine wpAny_forIn_list _ (fun l r s' => s' = s ∧ r.1 = none ∧ ∀ y ∈ l, NoCl P w n s y) _ ?_ ?_ _ _ ⟨rfl, rfl, all⟩
        · rintro y l r s' ⟨rfl, e, hl⟩
          refine wpAny_bind (hl y List.mem_cons_self _ _ _ ?_)
          refine wp_if_neg Bool.false_ne_true ?_
          exact wpAny_pure ⟨rfl, rfl, fun z hz => hl z (List.mem_cons_of_mem _ hz)⟩
        · rintro ⟨r, u⟩ s' ⟨rfl, e, _⟩
          cases e
          exact wpAny_pure h
theorem noCl_keys : ∀ (ks : List NK) (vs : List Value) (n : Nat) (s : Shared), NestedAll s.heap ks vs → NestedKey.depthAll ks ≤ n → ∀ y ∈ vs, NoCl P w n s y
  | [], _, _, _, x, _, y, hy => by cases x; cases hy
  | k :: ks, _, n, s, x, hn, y, hy => by
    cases x with
    | cons x1 x2 =>
      simp only [NestedKey.depthAll] at hn
      rcases List.mem_cons.mp hy with e | hy
      · rw [e]; exact noCl_key k _ n s x1 (by omega)
      · exact noCl_keys ks _ n s x2 (by omega) y hy
end
theorem hbT_byval {v : Value} (hv : v = .none ∨ (∃ b, v = .bool b) ∨ (∃ i t, v = .int i t) ∨ ∃ x t, v = .str x t) (n : Nat) (s : Shared) : HbT P w n s v := by
  intro A E Q h
  have e : ∃ b, hashByValue n v = pure b := by
    rcases hv with rfl | ⟨b, rfl⟩ | ⟨i, t, rfl⟩ | ⟨x, t, rfl⟩
    · exact ⟨true, by cases n <;> rfl⟩
    · exact ⟨true, by cases n <;> rfl⟩
    · exact ⟨true, by cases n <;> rfl⟩
    · exact ⟨false, by cases n <;> rfl⟩
  obtain ⟨b, e⟩ := e
  rw [e]
  exact wpAny_pure (h b)
mutual
theorem hbT_key : ∀ (k : NK) (v : Value) (n : Nat) (s : Shared), NestedIs s.heap k v → k.depth ≤ n → HbT P w n s v
  | .none, _, n, s, x, _ => by cases x; exact hbT_byval (.inl rfl) n s
  | .num i, _, n, s, x, _ => by
    cases x with
    | bool e => exact hbT_byval (.inr (.inl ⟨_, rfl⟩)) n s
    | int _ t => exact hbT_byval (.inr (.inr (.inl ⟨_, _, rfl⟩))) n s
  | .text y, _, n, s, x, _ => by cases x; exact hbT_byval (.inr (.inr (.inr ⟨_, _, rfl⟩))) n s
  | .tup ks, _, n, s, x, hn => by
    cases x with
    | @tup a o vs _ _ hg hc hd hk =>
      simp only [NestedKey.depth] at hn
      cases n with
      | zero => omega
      | succ n =>
        have all := hbT_keys ks vs.toList n s hk (by omega)
        intro A E Q h
        have hT : s.TypeIs (.ref a) "tuple" := ⟨o, hg, hc⟩
        unfold hashByValue
        refine wpAny_bind (wpAny_specialOf hT F.slot_tuple_hash.lookup ?_)
        dsimp only
        refine wpAny_bind (wpAny_seqItems hg hd ?_)
        dsimp only [Option.getD]
        refine wpAny_bind ?_
        rw [← Array.forIn_toList]
        refine wpAny_forIn_list _ (fun l r s' => s' = s ∧ r.1 = none ∧ ∀ y ∈ l, HbT P w n s y) _ ?_ ?_ _ _ ⟨rfl, rfl, all⟩
        · rintro y l r s' ⟨rfl, e, hl⟩
          refine wpAny_bind (hl y List.mem_cons_self _ _ _ fun b => ?_)
          cases b with
          | true =>
            refine wp_if_neg (by decide) ?_
            exact wpAny_pure ⟨rfl, rfl, fun z hz => hl z (List.mem_cons_of_mem _ hz)⟩
          | false =>
            refine wp_if_pos (by decide) ?_
            exact wpAny_pure (wpAny_pure (h false))
        · rintro ⟨r, u⟩ s' ⟨rfl, e, _⟩
          cases e
          exact wpAny_pure (h true)
theorem hbT_keys : ∀ (ks : List NK) (vs : List Value) (n : Nat) (s : Shared), NestedAll s.heap ks vs → NestedKey.depthAll ks ≤ n → ∀ y ∈ vs, HbT P w n s y
  | [], _, _, _, x, _, y, hy => by cases x; cases hy
  | k :: ks, _, n, s, x, hn, y, hy => by
    cases x with
    | cons x1 x2 =>
      simp only [NestedKey.depthAll] at hn
      rcases List.mem_cons.mp hy with e | hy
      · rw [e]; exact hbT_key k _ n s x1 (by omega)
      · exact hbT_keys ks _ n s x2 (by omega) y hy
end
variable {A : Around} {E : Value → Shared → Prop} {s : Shared}
/-- the tuple at a is the key k -/
abbrev IsN (P : Program) (w : World) (h : Heap) (k : NK) (a : Addr) : Prop := (nestedKind P w).is h k a
theorem seen_key {k : NK} {b : Addr} {Q : Bool → Shared → Prop} (hk : IsN P w s.heap k b) {ys : List Value} (hy : ∀ y ∈ ys, ∃ l c, y = Value.ref c ∧ IsN P w s.heap l c) (h : Q false s) : wpAny (model P w) A (searchCouldBeSeen (.ref b) ys) Q E s := by
  unfold searchCouldBeSeen
  refine wpAny_bind ?_
  refine wpAny_forIn_list _ (fun l r s' => s' = s ∧ r.1 = none ∧ ∀ y ∈ l, ∃ j c, y = Value.ref c ∧ IsN P w s.heap j c) _ ?_ ?_ _ _ ⟨rfl, rfl, hy⟩
  · rintro y l r s' ⟨rfl, e, hl⟩
    obtain ⟨j, c, rfl, hc⟩ := hl y List.mem_cons_self
    have hl' := fun z hz => hl z (List.mem_cons_of_mem _ hz)
    dsimp only
    split
    · exact wpAny_pure ⟨rfl, rfl, hl'⟩
    · refine wpAny_bind ((nestedKind P w).quiet hk (wp_if_neg (by decide) ?_))
      try refine wpAny_bind (wpAny_pure ?_)
      refine wpAny_bind ((nestedKind P w).quiet hc (wp_if_neg (by decide) ?_))
      try refine wpAny_bind (wpAny_pure ?_)
      refine wpAny_bind (noCl_key k _ 8 _ hk.1 hk.2 _ _ _ (wp_if_neg Bool.false_ne_true ?_))
      try refine wpAny_bind (wpAny_pure ?_)
      refine wpAny_bind (noCl_key j _ 8 _ hc.1 hc.2 _ _ _ (wp_if_neg Bool.false_ne_true ?_))
      exact wpAny_pure ⟨rfl, rfl, hl'⟩
  · rintro ⟨r, u⟩ s' ⟨rfl, e, _⟩
    cases e
    exact wpAny_pure h
end
end ND

end
section
set_option Elab.async false
set_option linter.all false
set_option maxRecDepth 100000
set_option maxHeartbeats 4000000
/-! sets of nested keys: the search -/
namespace ND
open PySem PySem.Spec PySem.SeqAt PySem.Calls PyProof.Rows L2 PySem.W
/-- the rows that the members L make -/
def rwN (w : World) (L : List (Addr × NK)) : List (Int × Value) := L.map fun q => (q.2.hash w, Value.ref q.1)
/-- a set of nested keys: its members L, in the order of its table -/
structure SnR (P : Program) (w : World) (h : Heap) (a : Addr) (L : List (Addr × NK)) (es : Array (Int × Value)) (ep : Nat) (t : SetTable) : Prop where
  ob : ∃ o, h.get? a = some o ∧ o.ExactSet ∧ o.data = .set es ep t
  ro : es.toList = rwN w L
  tb : TabOk t (L.map fun q => q.2.hash w)
  nd : (L.map (·.2)).Nodup
  ky : ∀ q ∈ L, IsN P w h q.2 q.1
  ld : w.params.followText "set-order" = true ∨ t.led = true
  sp : L.length * 5 < t.mask * 3
  sm : L.length < 64
/-- the c-th state of a search -/
abbrev prN (t : SetTable) (h : Int) (c : Nat) : SetTable.Probe := nth t.mask (runAt t.mask (SetTable.bits h % (t.mask + 1)) (SetTable.bits h)) c
theorem prN_dummy (t : SetTable) (h : Int) : ∀ c, (prN t h c).dummy = none
  | 0 => rfl
  | c + 1 => by
    show (nth t.mask _ (c + 1)).dummy = none
    rw [nth_succ]
    have z := prN_dummy t h c
    unfold adv
    split <;> exact z
theorem prN_add (t : SetTable) (h : Int) (c q : Nat) : nth t.mask (prN t h c) q = prN t h (c + q) := (nth_add t.mask c _ q).symm
section
variable {P : Program} {w : World} {A : Around} {E : Value → Shared → Prop} {s : Shared}
variable {a : Addr} {L : List (Addr × NK)} {es : Array (Int × Value)} {ep : Nat} {t : SetTable}
theorem rwN_len (w : World) (L : List (Addr × NK)) : (rwN w L).length = L.length := by unfold rwN; rw [List.length_map]
theorem SnR.size {h : Heap} (R : SnR P w h a L es ep t) : es.size = L.length := by rw [← rwN_len w L, ← R.ro, Array.length_toList]
theorem SnR.psize {h : Heap} (R : SnR P w h a L es ep t) : t.place.toList.length = L.length := by rw [Array.length_toList, R.tb.sz, List.length_map]
theorem SnR.fits {h : Heap} (R : SnR P w h a L es ep t) : t.fits es.size = true := by
  have h1 := R.psize
  rw [Array.length_toList] at h1
  have h2 := R.size
  have h3 := R.sp
  simp only [SetTable.fits, SetTable.fill, R.tb.dm, Bool.and_eq_true, beq_iff_eq, decide_eq_true_eq]
  show t.place.size = es.size ∧ t.place.size + 0 ≤ t.mask
  omega
theorem SnR.row {h : Heap} (R : SnR P w h a L es ep t) {i : Nat} {q : Addr × NK} (hi : L[i]? = some q) : es[i]? = some (q.2.hash w, Value.ref q.1) := by
  rw [← Array.getElem?_toList, R.ro, rwN, List.getElem?_map, hi]
  rfl
theorem SnR.keep {h h' : Heap} (R : SnR P w h a L es ep t) (ha : ∀ o, h.get? a = some o → h'.get? a = some o) (hk : ∀ q ∈ L, IsN P w h' q.2 q.1) : SnR P w h' a L es ep t := by
  obtain ⟨o, ho, r⟩ := R.ob
  exact ⟨⟨o, ha o ho, r⟩, R.ro, R.tb, R.nd, hk, R.ld, R.sp, R.sm⟩
/-- what a search for k in such a set finds, from the c-th state on; K is the first free place of its way -/
theorem find_from (R : SnR P w s.heap a L es ep t) {x : Addr} {k : NK} (hx : IsN P w s.heap k x) (hu : A.units + 8 < cLine) {K : Nat} (hfin : K < 10 * SetTable.turns t.mask) (hfree : way t.mask (k.hash w) K ∉ t.place.toList)
    (hbusy : ∀ c, c < K → way t.mask (k.hash w) c ∈ t.place.toList) {Q : SetFound → Shared → Prop} (yes : k ∈ L.map (·.2) → Q (.there none) s) (no : k ∉ L.map (·.2) → Q (.free (way t.mask (k.hash w) K) false) s) :
    ∀ (f c : Nat) (o : Option SetTable.Probe), c ≤ K → K < f + c → o.getD (t.probeStart (k.hash w)) = prN t (k.hash w) c →
      (∀ (i : Nat) q, L[i]? = some q → q.2 = k → ∃ d, c ≤ d ∧ d < K ∧ t.place.toList[i]? = some (way t.mask (k.hash w) d)) → wpAny (model P w) A (setSearchFrom a (.ref x) (k.hash w) true f o) Q E s := by
  intro f
  induction f with
  | zero => intro c o h1 h2; exact absurd h2 (by omega)
  | succ f ih =>
    intro c o hc hf he hrest
    obtain ⟨ob, hob, _, hdat⟩ := R.ob
    rw [setSearchFrom_succ]
    refine wpAny_bind (wpAny_setState_of hob hdat R.fits ?_)
    dsimp only
    refine wp_if_neg (by unfold SetTable.gaveWay; rw [mask_odd R.tb.mok]; decide) ?_
    try refine wpAny_bind (wpAny_pure ?_)
    have hash_at : ∀ (i : Nat) q, L[i]? = some q → (es[i]?.map (·.1)).getD 0 = q.2.hash w := fun i q hq => by rw [R.row hq]; rfl
    have w1 : ∀ q, (nth t.mask (prN t (k.hash w) c) q).j = way t.mask (k.hash w) (c + q) := fun q => congrArg SetTable.Probe.j (prN_add t (k.hash w) c q)
    have hcK : c + (K - c) = K := by omega
    have G := go_spec t R.tb.ris R.tb.dm (fun i => (es[i]?.map (·.1)).getD 0) (k.hash w) (10 * SetTable.turns t.mask) (K - c) (prN t (k.hash w) c) (prN_dummy t _ c) (by omega)
      (fun q hq => by rw [w1]; exact hbusy _ (by omega)) (by rw [w1, hcK]; exact hfree)
    rcases G with ⟨q, i, hq, hi, hh, hno, hpr⟩ | ⟨hno, hpr⟩
    · rw [prN_add, prN_add] at hpr
      rw [w1] at hi
      have hil : i < L.length := by rw [← R.psize]; exact (List.getElem?_eq_some_iff.mp hi).1
      obtain ⟨p, hp⟩ : ∃ p, L[i]? = some p := ⟨_, List.getElem?_eq_getElem hil⟩
      have hpL := List.mem_of_getElem? hp
      have hsl := slot_live R.tb.ris hi
      rw [he, show t.probe (fun i => (es[i]?.map (·.1)).getD 0) (k.hash w) (prN t (k.hash w) c) = _ from hpr]
      dsimp only
      have tail : wpAny (model P w) A (searchRest a (.ref x) (k.hash w) true f es t (way t.mask (k.hash w) (c + q)) i (prN t (k.hash w) (c + (q + 1)))) Q E s := by
        unfold searchRest
        rw [R.row hp]
        dsimp only
        refine wpAny_bind (wpAny_holding ((nestedKind P w).eqBool hu (R.ky p hpL) hx ?_))
        refine wpAny_bind (wpAny_setState_of hob hdat R.fits ?_)
        dsimp only
        by_cases hkk : p.2 = k
        · exact wp_if_pos (by rw [decide_eq_true hkk]; rfl) (wpAny_pure (yes (List.mem_map.mpr ⟨p, hpL, hkk⟩)))
        · rw [decide_eq_false hkk]
          refine wp_if_neg (by decide) ?_
          try refine wpAny_bind (wpAny_pure ?_)
          rw [sameMem]
          simp only [if_true, hsl, R.row hp]
          refine wpAny_bind (wpAny_isSame_ref_self (wpAny_bind (wpAny_pure ?_)))
          simp only [if_true]
          refine wp_if_neg Bool.false_ne_true ?_
          refine ih (c + (q + 1)) _ (by omega) (by omega) rfl fun j r hj hr => ?_
          obtain ⟨d, d1, d2, d3⟩ := hrest j r hj hr
          refine ⟨d, ?_, d2, d3⟩
          by_cases z : d < c + q
          · refine absurd ((hash_at j r hj).trans (congrArg (NestedKey.hash w) hr)) (hno (d - c) j (by omega) ?_)
            rw [w1, show c + (d - c) = d from by omega]
            exact d3
          · by_cases y : d = c + q
            · subst y
              have e := slot_live R.tb.ris d3
              rw [hsl] at e
              injection e with e
              subst e
              rw [hp] at hj
              injection hj with hj
              exact absurd (hj ▸ hr) hkk
            · omega
      cases hl : t.led with
      | true =>
        refine wp_if_neg (by decide) ?_
        try refine wpAny_bind (wpAny_pure ?_)
        exact tail
      | false =>
        refine wp_if_pos (by decide) (wpAny_bind (seen_key hx (fun y hy => ?_) (wp_if_neg Bool.false_ne_true ?_)))
        · obtain ⟨e, he1, rfl⟩ := List.mem_map.mp hy
          have he2 : e ∈ es.toList := by
            have z : e ∈ es ∧ e.1 = k.hash w := by simpa using he1
            simpa using z.1
          rw [R.ro] at he2
          obtain ⟨r, hr, rfl⟩ := List.mem_map.mp he2
          exact ⟨r.2, r.1, rfl, R.ky r hr⟩
        · try refine wpAny_bind (wpAny_pure ?_)
          exact tail
    · rw [w1, hcK] at hpr
      rw [he, show t.probe (fun i => (es[i]?.map (·.1)).getD 0) (k.hash w) (prN t (k.hash w) c) = _ from hpr]
      refine wpAny_pure (no fun hm => ?_)
      obtain ⟨r, hr, hrk⟩ := List.mem_map.mp hm
      obtain ⟨j, hjl, hj⟩ := List.getElem_of_mem hr
      have hj : L[j]? = some r := by rw [List.getElem?_eq_getElem hjl, hj]
      obtain ⟨d, d1, d2, d3⟩ := hrest j r hj hrk
      refine hno (d - c) j (by omega) ?_ ((hash_at j r hj).trans (congrArg (NestedKey.hash w) hrk))
      rw [w1, show c + (d - c) = d from by omega]
      exact d3
/-- the search that an adding asks for -/
theorem find_key (R : SnR P w s.heap a L es ep t) {x : Addr} {k : NK} (hx : IsN P w s.heap k x) (hu : A.units + 8 < cLine) {Q : SetFound → Shared → Prop} (yes : k ∈ L.map (·.2) → Q (.there none) s)
    (no : ∀ K, k ∉ L.map (·.2) → way t.mask (k.hash w) K ∉ t.place.toList → (∀ c, c < K → way t.mask (k.hash w) c ∈ t.place.toList) → Q (.free (way t.mask (k.hash w) K) false) s) : wpAny (model P w) A (setSearch a (.ref x) (k.hash w) true) Q E s := by
  have hsp := R.sp
  obtain ⟨K, k1, k2, k3⟩ := R.tb.first (by rw [List.length_map]; omega) (k.hash w)
  have kb : K < 100000 := by
    refine Nat.lt_of_lt_of_le k1 ?_
    unfold SetTable.turns
    rcases R.tb.mok with e | e | e <;> rw [e] <;> decide
  unfold setSearch
  refine find_from R hx hu k1 k2 k3 yes (fun n => no K n k2 k3) 100000 0 none (Nat.zero_le _) kb rfl fun i q hq hqk => ?_
  have hil : i < t.place.toList.length := by rw [R.psize]; exact (List.getElem?_eq_some_iff.mp hq).1
  have hj := List.getElem?_eq_getElem hil
  obtain ⟨c, hc, e⟩ := R.tb.before (h := k.hash w) k2 (by rw [List.getElem?_map, hq, ← hqk]; rfl) hj
  exact ⟨c, Nat.zero_le _, hc, by rw [hj, e]⟩
end
end ND

end
section
set_option Elab.async false
set_option linter.all false
set_option maxRecDepth 100000
set_option maxHeartbeats 4000000
/-! sets of nested keys: the adding -/
namespace ND
open PySem PySem.Spec PySem.SeqAt PySem.Calls PyProof.Rows L2 PySem.W
section
variable {P : Program} {w : World} {A : Around} {E : Value → Shared → Prop} {s : Shared}
variable {a : Addr} {L : List (Addr × NK)} {es : Array (Int × Value)} {ep : Nat} {t : SetTable}
/-- a key isn't the set: it stays when the set is written -/
theorem isN_same {h h' : Heap} {k : NK} {b : Addr} {o : Obj} (x : IsN P w h k b) (ho : h.get? a = some o) (hd : o.data = .set es ep t) (sb : Heap.SameBut a h h') : IsN P w h' k b :=
  ⟨NestedIs.at (fun c u vs n hc hv => by
    refine (sb.2 c fun z => ?_).trans hc
    rw [z, ho] at hc
    cases hc
    rw [hd] at hv
    cases hv) _ _ x.1, x.2⟩
theorem isN_keep {h h' : Heap} {k : NK} {b : Addr} (x : IsN P w h k b) (hk : ∀ c o, h.get? c = some o → h'.get? c = some o) : IsN P w h' k b :=
  ⟨NestedIs.at (fun c u _ _ hc _ => hk c u hc) _ _ x.1, x.2⟩
theorem pick_rows (hr : es.toList = rwN w L) : ∀ l : List Nat, (∀ i ∈ l, i < L.length) → l.filterMap (fun i => es[i]?) = rwN w (l.filterMap fun i => L[i]?) ∧ ((l.filterMap fun i => L[i]?).map fun q => q.2.hash w) = l.map fun i => (es.map (·.1)).getD i 0
  | [], _ => ⟨rfl, rfl⟩
  | i :: l, hl => by
    obtain ⟨e1, e2⟩ := pick_rows hr l fun j hj => hl j (List.mem_cons_of_mem _ hj)
    have hi := hl i List.mem_cons_self
    have hL : L[i]? = some L[i] := List.getElem?_eq_getElem hi
    have hE : es[i]? = some (L[i].2.hash w, Value.ref L[i].1) := by rw [← Array.getElem?_toList, hr, rwN, List.getElem?_map, hL]; rfl
    rw [List.filterMap_cons_some hE, List.filterMap_cons_some hL, e1]
    refine ⟨rfl, ?_⟩
    rw [List.map_cons, List.map_cons, e2, Array.getD_eq_getD_getElem?, Array.getElem?_map, hE]
    rfl
theorem all_picked {α : Type} : ∀ L : List α, (List.range L.length).filterMap (fun i => L[i]?) = L
  | [] => rfl
  | x :: L => by
    rw [List.length_cons, List.range_succ_eq_map, List.filterMap_cons_some (f := fun i => (x :: L)[i]?) (a := 0) (b := x) rfl, List.filterMap_map]
    exact congrArg (x :: ·) (all_picked L)
/-- the table is laid anew, with more room -/
theorem laid_anew {o : Obj} (ho : s.heap.get? a = some o) (hex : o.ExactSet) (hd : o.data = .set es ep t) (hr : es.toList = rwN w L) (hp : t.place.size = es.size) (hdm : t.dummies = #[]) (hle : es.size ≤ t.mask) (nd : (L.map (·.2)).Nodup)
    (ky : ∀ q ∈ L, IsN P w s.heap q.2 q.1) (ld : w.params.followText "set-order" = true ∨ t.led = true) (sm : L.length < 64) {n M : Nat} (hM : SetTable.sizeAbove n - 1 = M) (mok : MaskOk M) (hline : SetTable.sizeAbove n ≤ 128) (sp : L.length * 5 < M * 3) {Q : Unit → Shared → Prop}
    (h : ∀ h' L' es' ep' t', Heap.SameBut a s.heap h' → SnR P w h' a L' es' ep' t' → L'.Perm L → Q () { s with heap := h' }) : wpAny (model P w) A (setRelay a n) Q E s := by
  have hl : es.size = L.length := by rw [← rwN_len w L, ← hr, Array.length_toList]
  have hfit : t.fits es.size = true := by
    simp only [SetTable.fits, SetTable.fill, hdm, Bool.and_eq_true, beq_iff_eq, decide_eq_true_eq]
    exact ⟨hp, by show t.place.size + 0 ≤ t.mask; omega⟩
  obtain ⟨t', od, e, pm, T, e1, e2, _, _⟩ := relaid_ok t (hs := es.map (·.1)) (wanted := n) hM mok (by rw [Array.size_map]; omega)
  rw [Array.size_map, hl] at pm
  obtain ⟨p1, p2⟩ := pick_rows (w := w) hr od.toList fun i hi => List.mem_range.mp (pm.mem_iff.mp hi)
  have pL : (od.toList.filterMap fun i => L[i]?).Perm L := by
    have z := pm.filterMap fun i => L[i]?
    rwa [all_picked] at z
  generalize (od.toList.filterMap fun i => L[i]?) = L' at p1 p2 pL
  have r1 : (od.filterMap (es[·]?)).toList = rwN w L' := by rw [Array.toList_filterMap]; exact p1
  have hz : (od.filterMap (es[·]?)).size = es.size := by rw [← Array.length_toList, r1, rwN_len, pL.length_eq, hl]
  rw [setRelay_eq]
  refine wpAny_bind (wpAny_setState_of ho hd hfit ?_)
  dsimp only
  refine wp_if_neg (by rw [sizeLine_eq]; omega) ?_
  try refine wpAny_bind (wpAny_pure ?_)
  rw [e]
  dsimp only
  refine wpAny_bind (wp_if_neg (by rw [hz]; simp) ?_)
  try refine wpAny_bind (wpAny_pure ?_)
  refine wpAny_pure ?_
  dsimp only
  have sb : Heap.SameBut a s.heap (s.heap.update a (Obj.putSet (od.filterMap (es[·]?)) t')) := Heap.SameBut.update ..
  refine wpAny_storeSet_of ho hd (h _ L' _ (ep + 1) t' sb ⟨⟨_, store_at ho hd, ⟨hex.1, hex.2.1, hex.2.2⟩, rfl⟩, r1, by rw [p2]; exact T, (pL.map (·.2)).nodup_iff.mpr nd, fun q hq => isN_same (ky q (pL.mem_iff.mp hq)) ho hd sb, by rw [e2]; exact ld, by rw [pL.length_eq, e1]; exact sp, by rw [pL.length_eq]; exact sm⟩ pL) (by rw [hz, hl, sizeLine_eq]; omega)
/-- one key is added -/
theorem add_key (R : SnR P w s.heap a L es ep t) {x : Addr} {k : NK} (hx : IsN P w s.heap k x) (hu : A.units + 8 < cLine) (hm : L.length + 1 < 64) {Q : Bool → Shared → Prop}
    (h : ∀ b h' L' es' ep' t', Heap.SameBut a s.heap h' → SnR P w h' a L' es' ep' t' → (k ∈ L.map (·.2) → L' = L) → (k ∉ L.map (·.2) → L'.Perm ((x, k) :: L)) → Q b { s with heap := h' }) :
    wpAny (model P w) A (setAddHashed a (.ref x) (k.hash w)) Q E s := by
  obtain ⟨o, ho, hex, hd⟩ := R.ob
  have hsz := R.size
  have hsp := R.sp
  unfold setAddHashed
  refine wpAny_holding ?_
  rw [show (100000 : Nat) = 99999 + 1 from rfl, setAddHashedIn_succ]
  refine wpAny_bind (wpAny_setState_of ho hd R.fits ?_)
  dsimp only
  refine wp_if_neg (by simp [byScan, Value.scannable]) ?_
  try refine wpAny_bind (wpAny_pure ?_)
  refine wpAny_bind (find_key R hx hu (fun hin => ?_) fun K hout hK hb => ?_)
  · exact wpAny_pure (h false s.heap L es ep t (Heap.SameBut.refl a s.heap) R (fun _ => rfl) fun z => absurd hin z)
  dsimp only
  refine wpAny_bind (wpAny_setState_of ho hd R.fits ?_)
  dsimp only
  obtain ⟨q1, q2, q3, q4, q5, q6, q7, q8, q9⟩ := R.tb.put hK hb
  generalize way t.mask (k.hash w) K = j at *
  obtain ⟨p, hp⟩ : ∃ p, SetTable.below t.place j = p := ⟨_, rfl⟩
  generalize hpt : t.put j = pt at *
  obtain ⟨t1, pp⟩ := pt
  dsimp only at q1 q3 q4 q5 q6 q7 q8 q9 ⊢
  subst q1
  rw [hp] at q2 q3 ⊢
  have pm : (L.take p ++ (x, k) :: L.drop p).Perm ((x, k) :: L) := put_perm L p (x, k)
  have hin : (SetTable.insertAt es p (k.hash w, Value.ref x)).toList = rwN w (L.take p ++ (x, k) :: L.drop p) := by
    rw [SetTable.toList_insertAt, R.ro]
    simp only [rwN, List.map_append, List.map_cons, List.map_take, List.map_drop]
  have q3' : TabOk t1 ((L.take p ++ (x, k) :: L.drop p).map fun q => q.2.hash w) := by
    rw [List.map_append, List.map_cons, List.map_take, List.map_drop]
    exact q3
  generalize SetTable.insertAt es p (k.hash w, Value.ref x) = es1 at *
  generalize L.take p ++ (x, k) :: L.drop p = L1 at *
  have l1 : L1.length = L.length + 1 := pm.length_eq
  have z1 : es1.size = L.length + 1 := by rw [← l1, ← rwN_len w L1, ← hin, Array.length_toList]
  have nd1 : (L1.map (·.2)).Nodup := (pm.map (·.2)).nodup_iff.mpr (List.nodup_cons.mpr ⟨hout, R.nd⟩)
  rw [List.length_map] at q9
  -- what is left, whatever the flag says
  have rest : ∀ t2 : SetTable, t2.place = t1.place → t2.dummies = t1.dummies → t2.mask = t1.mask → t2.led = t1.led → t2.tooFull = t1.tooFull →
      wpAny (model P w) A (do storeSet a es1 t2; (if (!false && t2.tooFull) = true then do setRelay a (SetTable.grown (es.size + 1)); pure true else pure true)) Q E s := by
    intro t2 f1 f2 f3 f4 f5
    have T2 : TabOk t2 (L1.map fun q => q.2.hash w) := ⟨by rw [f1]; exact q3'.ris, by rw [f2]; exact q3'.dm, by rw [f1]; exact q3'.sz, by rw [f3]; exact q3'.mok, by rw [f1, f3]; exact q3'.bd, by rw [f1, f3]; exact q3'.reach⟩
    have sb : Heap.SameBut a s.heap (s.heap.update a (Obj.putSet es1 t2)) := Heap.SameBut.update ..
    have ho1 := store_at (es' := es1) (t' := t2) ho hd
    have hfl : t2.tooFull = true ↔ t.mask * 3 ≤ (L.length + 1) * 5 := by
      rw [f5]
      unfold SetTable.tooFull
      rw [decide_eq_true_eq, q9, q4]
    refine wpAny_bind (wpAny_storeSet_of ho hd ?_ (by rw [z1, sizeLine_eq]; omega))
    generalize s.heap.update a (Obj.putSet es1 t2) = h1 at sb ho1 ⊢
    have ky1 : ∀ q ∈ L1, IsN P w h1 q.2 q.1 := fun q hq => by
      rcases List.mem_cons.mp (pm.mem_iff.mp hq) with e | hq
      · rw [e]; exact isN_same hx ho hd sb
      · exact isN_same (R.ky q hq) ho hd sb
    have ld1 : w.params.followText "set-order" = true ∨ t2.led = true := by rw [f4, q5]; exact R.ld
    cases c : t2.tooFull with
    | false =>
      refine wp_if_neg (by decide) ?_
      try refine wpAny_bind (wpAny_pure ?_)
      have hnf : ¬ t.mask * 3 ≤ (L.length + 1) * 5 := fun z => by rw [hfl.mpr z] at c; cases c
      exact wpAny_pure (h true h1 L1 es1 (ep + 1) t2 sb ⟨⟨_, ho1, ⟨hex.1, hex.2.1, hex.2.2⟩, rfl⟩, hin, T2, nd1, ky1, ld1, by rw [l1, f3, q4]; omega, by rw [l1]; exact hm⟩ (fun z => absurd z hout) fun _ => pm)
    | true =>
      have hf := hfl.mp c
      refine wp_if_pos (by decide) (wpAny_bind ?_)
      have go : ∀ M, SetTable.sizeAbove (SetTable.grown (es.size + 1)) - 1 = M → MaskOk M → SetTable.sizeAbove (SetTable.grown (es.size + 1)) ≤ 128 → L1.length * 5 < M * 3 →
          wpAny (model P w) A (setRelay a (SetTable.grown (es.size + 1))) (fun _ s' => wpAny (model P w) A (pure true) Q E s') E { s with heap := h1 } := fun M m1 m2 m3 m4 =>
        laid_anew (s := { s with heap := h1 }) ho1 ⟨hex.1, hex.2.1, hex.2.2⟩ rfl hin (by rw [T2.sz, List.length_map, l1, z1]) T2.dm (by rw [z1, f3, q4]; omega) nd1 ky1 ld1 (by rw [l1]; exact hm) m1 m2 m3 m4 fun h2 L2 es2 ep2 t2 sb2 R2 pm2 =>
          wpAny_pure (h true h2 L2 es2 ep2 t2 (sb.trans sb2) R2 (fun z => absurd z hout) fun _ => pm2.trans pm)
      have two : (t.mask = 7 ∧ L.length = 4) ∨ (t.mask = 31 ∧ L.length = 18) := by
        rcases R.tb.mok with e | e | e <;> rw [e] at hf hsp <;> omega
      rcases two with ⟨_, e⟩ | ⟨_, e⟩
      · exact go 31 (by rw [hsz, e, size_20]) (.inr (.inl rfl)) (by rw [hsz, e, size_20]; decide) (by omega)
      · exact go 127 (by rw [hsz, e, size_76]) (.inr (.inr rfl)) (by rw [hsz, e, size_76]; decide) (by omega)
  cases hpl : t1.plain with
  | true =>
    refine wp_if_pos rfl (wpAny_bind (hbT_key k _ 8 s hx.1 hx.2 _ _ _ fun b => ?_))
    cases b with
    | true =>
      simp only [if_true]
      exact rest t1 rfl rfl rfl rfl rfl
    | false =>
      simp only [Bool.false_eq_true, if_false]
      exact rest { t1 with plain := false } rfl rfl rfl rfl rfl
  | false =>
    refine wp_if_neg Bool.false_ne_true (wpAny_bind (wpAny_pure ?_))
    simp only [if_true]
    exact rest t1 rfl rfl rfl rfl rfl
end
end ND

end
section
set_option Elab.async false
set_option linter.all false
set_option maxRecDepth 100000
set_option maxHeartbeats 4000000
/-! set(t), t a tuple of nested keys -/
namespace ND
open PySem PySem.Spec PySem.SeqAt PySem.Calls PyProof.Rows L2 PySem.W
/-- what the set holds of the first i items -/
structure HasN (ks : List (Addr × NK)) (i : Nat) (L : List (Addr × NK)) : Prop where
  sub : ∀ p ∈ L, p ∈ ks.take i
  all : ∀ p ∈ ks.take i, p.2 ∈ L.map (·.2)
  len : L.length ≤ i
theorem HasN.next {ks L L' : List (Addr × NK)} {i : Nat} {x : Addr × NK} (g : HasN ks i L) (h : ks[i]? = some x) (c1 : x.2 ∈ L.map (·.2) → L' = L) (c2 : x.2 ∉ L.map (·.2) → L'.Perm (x :: L)) : HasN ks (i + 1) L' := by
  have e := take_next h
  by_cases c : x.2 ∈ L.map (·.2)
  · rw [c1 c]
    refine ⟨fun p hp => by rw [e]; exact List.mem_append_left _ (g.sub p hp), fun p hp => ?_, Nat.le_succ_of_le g.len⟩
    rw [e, List.mem_append, List.mem_singleton] at hp
    rcases hp with z | z
    · exact g.all p z
    · rw [z]; exact c
  · have pm := c2 c
    refine ⟨fun p hp => ?_, fun p hp => ?_, by rw [pm.length_eq, List.length_cons]; exact Nat.succ_le_succ g.len⟩
    · rw [e, List.mem_append, List.mem_singleton]
      exact (List.mem_cons.mp (pm.mem_iff.mp hp)).symm.imp (fun z => g.sub p z) id
    · rw [(pm.map (·.2)).mem_iff, List.map_cons, List.mem_cons]
      rw [e, List.mem_append, List.mem_singleton] at hp
      rcases hp with z | z
      · exact .inr (g.all p z)
      · rw [z]; exact .inl rfl
section
variable {P : Program} {w : World} {A : Around} {E : Value → Shared → Prop} {s : Shared}
theorem sn_fresh {h : Heap} {a : Addr} (ho : h.get? a = some { cls := .type "set", dict := none, data := .set #[] 0 (.fresh 0 0 (!w.params.followText "set-order")) }) : SnR P w h a [] #[] 0 (.fresh 0 0 (!w.params.followText "set-order")) := by
  refine ⟨⟨_, ho, ⟨rfl, rfl, rfl⟩, rfl⟩, rfl, ⟨.nil, rfl, rfl, .inl rfl, fun x hx => (by cases hx), fun i h j hi => (by simp at hi)⟩, .nil, fun p hp => (nomatch hp), ?_, by show 0 < 21; decide, by decide⟩
  show _ ∨ (!w.params.followText "set-order") = true
  cases w.params.followText "set-order" <;> simp
/-- the object that set(..) begins with -/
abbrev eSn (w : World) : Obj := { cls := .type "set", dict := none, data := .set #[] 0 (.fresh 0 0 (!w.params.followText "set-order")) }
abbrev pSn (w : World) (s : Shared) : Shared := { s with heap := s.heap.push (eSn w) }
set_option maxHeartbeats 3200000 in
/-- set(v): what its filling gives -/
theorem call_set_fill {v : Value} {Q : Value → Shared → Prop} (hh : A.handled = none) (R : Shared → Prop)
    (hf : wpAny (model P w) A.in1.in1 (Builtin.«set.__init__» ⟨[.ref s.heap.objs.size, v], []⟩) (fun fin s' => match fin with
      | .done f => wants (fun r s₂ => r = Value.none ∧ R s₂) E (.ok f) s'
      | .again c => c.quiet = true ∧ codeAny (model P w) A.in1 c (wants (fun r s₂ => r = Value.none ∧ R s₂) E) s') (fun e s' => wants (fun r s₂ => r = Value.none ∧ R s₂) E (.error e) s') (pSn w s))
    (h : ∀ s₂, R s₂ → Q (.ref s.heap.objs.size) s₂) : wpAny (model P w) A (call (.type "set") [v]) Q E s := by
  have hT : Shared.TypeIs (pSn w s) (.ref s.heap.objs.size) "set" := ⟨_, Heap.get?_push_size _ rfl, rfl⟩
  obtain ⟨c, tl, hmro⟩ := F.called_set.mro
  have m1 := F.called_set.made
  have m2 := F.called_set.sub
  have m3 := F.called_set.notType
  have m4 := F.called_set.canCreate
  have m5 := F.typeCall_set_1 v
  have m6 := F.called_set.init.lookup
  have m7 := F.called_set.init.bind (.ref s.heap.objs.size)
  refine wpAny_call (codeAny_of_tree ?_)
  show wpAny _ _ (callAny (.type "set") _) _ _ _
  refine wpAny_pure ⟨Code.quiet_builtin _ (by decide +kernel), codeAny_builtin F.entry_type_call ?_⟩
  rw [Around.under_plain (weight_type_call_type "set" [v] []) rfl]
  repeat (any_goals (first | assumption | wp_step))
  refine codeAny_mono (code_set_led1 v (E := E) (Q₁ := fun o s₁ => o = .ref s.heap.objs.size ∧ s₁ = pSn w s) ⟨rfl, rfl⟩) fun r s₁ hr => ?_
  rcases r with e | fl
  · exact hr
  cases fl with
  | ret o =>
    obtain ⟨rfl, rfl⟩ := hr
    repeat (any_goals (first | assumption | wp_step))
    refine codeAny_mono (codeAny_call_builtin (R := wants (fun r s₂ => r = .none ∧ R s₂) E) F.called_set.init.plain F.entry_set_init (check_set_init_1 hT ?_)) fun r₂ s₂ hr₂ => ?_
    · exact hf
    · rcases r₂ with e | fl₂
      · exact hr₂
      cases fl₂ with
      | ret r =>
        obtain ⟨rfl, hr⟩ := hr₂
        repeat (any_goals (first | assumption | wp_step))
        exact h _ hr
      | _ => exact hr₂.elim
  | _ => exact hr.elim

/-- the loop that fills the set, from item i on -/
theorem fill_keys {I : Addr} {fp wr : List Addr} {G : Array GenState → Array GenState → Prop} {n : Nat} {Pv : Nat → Value → Prop} {St : Nat → Shared → Prop} {R : Result → Shared → Prop}
    (W : WalksS P w A.in1 I fp wr G n Pv St) (S : Addr) (hSf : S ∉ fp) (ks : List (Addr × NK)) (hn : n = ks.length) (hfew : ks.length < 63) (hval : ∀ i v, Pv i v → ∃ p, ks[i]? = some p ∧ v = .ref p.1)
    (h0 : Heap) (hk : ∀ p ∈ ks, IsN P w h0 p.2 p.1) (hS0 : h0.get? S = none) (hw0 : ∀ b ∈ wr, h0.get? b = none) (hu : A.in1.units + 8 < cLine) :
    ∀ (m i : Nat) (s : Shared), i + m = n → St i s → (∀ b o, h0.get? b = some o → s.heap.get? b = some o) → (∃ L es ep t, SnR P w s.heap S L es ep t ∧ HasN ks i L) →
      (∀ s' L es ep t, Moved (S :: wr) G s s' → SnR P w s'.heap S L es ep t → HasN ks n L → R (.ok (.ret .none)) s') →
      codeAny (model P w) A (.builtin "set.update.loop" ⟨[.ref S, .ref I], []⟩) R s
  | 0, i, s, e, hst, hkp, ⟨L, es, ep, t, hS, g⟩, hR => by
    have e : i = n := e
    subst e
    refine codeAny_builtin F.entry_set_update_loop ?_
    rw [Around.under_plainId F.plain_set_update_loop _]
    show wpAny _ A.in1 (pyNext (.ref I) >>= _) _ _ s
    refine wpAny_bind (W.done s _ _ hst fun s' hm => ?_)
    have hkp' : ∀ b o, h0.get? b = some o → s'.heap.get? b = some o := fun b o e => hm.heap b o (fun hb => by rw [hw0 b hb] at e; cases e) (hkp b o e)
    exact wpAny_pure (hR s' L es ep t (hm.mono fun b hb => List.mem_cons_of_mem _ hb) (hS.keep (fun o e => hm.heap S o (fun h => hSf (W.sub _ h)) e) fun p hp => isN_keep (hk p (List.mem_of_mem_take (g.sub p hp))) hkp') g)
  | m + 1, i, s, e, hst, hkp, ⟨L, es, ep, t, hS, g⟩, hR => by
    have hlt : i < n := by omega
    refine codeAny_builtin F.entry_set_update_loop ?_
    rw [Around.under_plainId F.plain_set_update_loop _]
    show wpAny _ A.in1 (pyNext (.ref I) >>= _) _ _ s
    refine wpAny_bind (W.item i s _ _ hlt hst fun v s' hP hst' hm => ?_)
    obtain ⟨p, hp, rfl⟩ := hval i v hP
    have hkp' : ∀ b o, h0.get? b = some o → s'.heap.get? b = some o := fun b o e => hm.heap b o (fun hb => by rw [hw0 b hb] at e; cases e) (hkp b o e)
    have hS' : SnR P w s'.heap S L es ep t := hS.keep (fun o e => hm.heap S o (fun h => hSf (W.sub _ h)) e) fun q hq => isN_keep (hk q (List.mem_of_mem_take (g.sub q hq))) hkp'
    have hx := isN_keep (hk p (List.mem_of_getElem? hp)) hkp'
    have hL := g.len
    show wpAny _ A.in1 (holding [Value.ref p.1] (setAdd S (.ref p.1)) >>= _) _ _ s'
    refine wpAny_bind (wpAny_holding ?_)
    unfold setAdd
    refine wpAny_holding (wpAny_bind ((nestedKind P w).pyHash hu hx ?_))
    refine add_key (s := { s' with toks := s'.toks + (nestedKind P w).draws p.2 }) hS' hx hu (by omega) fun b h' L' es' ep' t' hsb hS2 c1 c2 => ?_
    refine wpAny_pure ⟨plainId_quiet F.plain_set_update_loop _, fill_keys W S hSf ks hn hfew hval h0 hk hS0 hw0 hu m (i + 1) _ (by omega) (W.frame _ s' _ _ hst' (Nat.le_add_right _ _) fun b hb o e => ?_)
      (fun b o e => (hsb.2 b (fun z => by rw [z, hS0] at e; cases e)).trans (hkp' b o e)) ⟨L', es', ep', t', hS2, g.next hp c1 c2⟩ fun s'' L2 es2 ep2 t2 hm2 hS3 g2 => hR s'' L2 es2 ep2 t2 (Moved.trans W.gtrans ((hm.mono fun b hb => List.mem_cons_of_mem _ hb).then_heap (Nat.le_add_right _ _) fun b o hb e => ?_) hm2) hS3 g2⟩
    · rw [hsb.2 b (fun h : b = S => hSf (by rw [← h]; exact hb))]
      exact e
    · rw [hsb.2 b (fun h : b = S => hb (by rw [h]; exact List.mem_cons_self))]
      exact e
theorem call_set_tupN {l : Addr} {its : Array Value} (ks : List (Addr × NK)) {Q : Value → Shared → Prop} (hh : A.handled = none) (hl : s.heap.IsTuple l its) (hit : its.toList = ks.map fun p => Value.ref p.1)
    (hk : ∀ p ∈ ks, IsN P w s.heap p.2 p.1) (hfew : ks.length < 63) (hu : A.units + 16 < cLine)
    (h : ∀ (h' : Heap) (tk : Nat) L es ep t, SnR P w h' s.heap.objs.size L es ep t → HasN ks ks.length L → (∀ b o, s.heap.get? b = some o → h'.get? b = some o) → Q (.ref s.heap.objs.size) { s with heap := h', toks := tk }) :
    wpAny (model P w) A (call (.type "set") [.ref l]) Q E s := by
  have hz : its.size = ks.length := by
    have q := congrArg List.length hit
    rwa [Array.length_toList, List.length_map] at q
  have hlt : l < s.heap.objs.size := by
    obtain ⟨o, ho, _⟩ := hl
    exact Heap.lt_size ho
  have hl1 : (pSn w s).heap.IsTuple l its := by
    obtain ⟨o, ho, r⟩ := hl
    exact ⟨o, Heap.get?_push_of_some _ ho, r⟩
  have hS : (pSn w s).heap.get? s.heap.objs.size = some (eSn w) := Heap.get?_push_size _ rfl
  have hzz : (pSn w s).heap.objs.size = s.heap.objs.size + 1 := Heap.size_push ..
  refine call_set_fill (v := .ref l) hh (fun s₂ => ∃ h' tk L es ep t, s₂ = { s with heap := h', toks := tk } ∧ SnR P w h' s.heap.objs.size L es ep t ∧ HasN ks ks.length L ∧ (∀ b o, s.heap.get? b = some o → h'.get? b = some o)) ?_ fun s₂ ⟨h', tk, L, es, ep, t, e, r, g, k⟩ => by rw [e]; exact h h' tk L es ep t r g k
  have hT : (pSn w s).TypeIs (.ref l) "tuple" := by
    obtain ⟨o, ho, hc, _⟩ := hl1
    exact ⟨o, ho, hc⟩
  have e1 := F.sub_tuple_set
  have e2 := F.sub_tuple_frozenset
  have e3 : (Value.type "tuple" == Value.type "dict") = false := by decide
  unfold Builtin.«set.__init__» noKeywords Builtin.Frozenset.updateFrom
  generalize hPI : pyIter = PI
  wp_walk
  subst hPI
  refine wpAny_pyIter_tuple hl1 (wpAny_bind (wpAny_runValue ?_))
  have hd3 : A.in1.in1.in1.handled = none := by simp [hh]
  have n1 : s.heap.objs.size ∉ [(pSn w s).heap.objs.size, l] := by
    rw [hzz]
    simp only [List.mem_cons, List.mem_singleton, List.not_mem_nil, or_false, not_or]
    exact ⟨Nat.ne_of_lt (Nat.lt_succ_self _), Nat.ne_of_gt hlt⟩
  have hl2 : ((pSn w s).heap.push { cls := .type "tuple_iterator", data := .fields #[.ref l, .int 0 0] }).IsTuple l its := by
    obtain ⟨o, ho, r⟩ := hl1
    exact ⟨o, Heap.get?_push_of_some _ ho, r⟩
  refine fill_keys ((Walks.tuple hd3 (pSn w s).heap.objs.size l (by rw [hzz]; exact Nat.ne_of_lt (Nat.lt_succ_of_lt hlt)) its).toS) s.heap.objs.size n1 ks hz hfew (fun i v hv => ?_) s.heap hk (Heap.get?_none_of_le (Nat.le_refl _))
    (fun b hb => ?_) (by show A.in1.in1.in1.units + 8 < cLine; simp; omega) its.size 0 _ (Nat.zero_add _)
    ⟨⟨_, Heap.get?_push_size _ rfl, rfl, rfl⟩, hl2⟩ (fun b o e => Heap.get?_push_of_some _ (Heap.get?_push_of_some _ e)) ⟨[], _, _, _, sn_fresh (Heap.get?_push_of_some _ hS), ⟨fun p h => (nomatch h), fun p h => (by simp at h), Nat.le_refl _⟩⟩ fun s' L es ep t hm r g => ?_
  · have hv' : its.toList[i]? = some v := by rw [Array.getElem?_toList]; exact hv
    rw [hit, List.getElem?_map] at hv'
    cases e : ks[i]? with
    | none => rw [e] at hv'; cases hv'
    | some p =>
      rw [e] at hv'
      cases hv'
      exact ⟨p, rfl, rfl⟩
  · rw [List.mem_singleton.mp hb]
    exact Heap.get?_none_of_le (by rw [hzz]; exact Nat.le_succ _)
  · have g1 : s'.gens = s.gens := hm.gens
    have g2 : s'.drawn = s.drawn := hm.drawn
    have g3 : s'.os = s.os := hm.os
    refine wpAny_pure (wpAny_pure ⟨rfl, s'.heap, s'.toks, L, es, ep, t, ?_, r, by rw [← hz]; exact g, fun b o e => ?_⟩)
    · cases s'
      cases g1
      cases g2
      cases g3
      rfl
    · have hlb := Heap.lt_size e
      refine hm.heap b o ?_ (Heap.get?_push_of_some _ (Heap.get?_push_of_some _ e))
      rw [hzz]
      simp only [List.mem_cons, List.mem_singleton, List.not_mem_nil, or_false, not_or]
      exact ⟨Nat.ne_of_lt hlb, Nat.ne_of_lt (Nat.lt_succ_of_lt hlb)⟩
end
end ND

end
section
set_option Elab.async false
set_option linter.all false
set_option maxRecDepth 100000
set_option maxHeartbeats 4000000
/-! sets of nested keys in the heap; set(t), sorted(set) as calls -/
namespace ND
open PySem PySem.Spec PySem.SeqAt PySem.Calls PyProof.Rows L2 PySem.W
structure SnT (P : Program) (w : World) (h : Heap) (a : Addr) (L : List (Addr × NK)) : Prop where
  ex : ∃ (es : Array (Int × Value)) (ep : Nat) (t : SetTable), (∃ o, h.get? a = some o ∧ o.ExactSet ∧ o.data = .set es ep t) ∧ es.toList = rwN w L ∧ TabOk t (L.map fun q => q.2.hash w) ∧ (L.map (·.2)).Nodup ∧
    (w.params.followText "set-order" = true ∨ t.led = true) ∧ L.length * 5 < t.mask * 3 ∧ L.length < 64
/-- a set whose members are the keys L -/
def SnO (P : Program) (w : World) (a : Addr) (L : List (Addr × NK)) : HO := .ext fun h => SnT P w h a L
theorem SnR.pure {P : Program} {w : World} {h : Heap} {a : Addr} {L : List (Addr × NK)} {es : Array (Int × Value)} {ep : Nat} {t : SetTable} (R : SnR P w h a L es ep t) : SnT P w h a L := ⟨es, ep, t, R.ob, R.ro, R.tb, R.nd, R.ld, R.sp, R.sm⟩
theorem SnT.keyed {P : Program} {w : World} {h : Heap} {a : Addr} {L : List (Addr × NK)} (R : SnT P w h a L) (hk : ∀ p ∈ L, IsN P w h p.2 p.1) : ∃ es ep t, SnR P w h a L es ep t := by
  obtain ⟨es, ep, t, r1, r2, r3, r4, r5, r6, r7⟩ := R.ex
  exact ⟨es, ep, t, r1, r2, r3, r4, hk, r5, r6, r7⟩
theorem snO_ok {P : Program} {w : World} {H : Hp} {h : Heap} {a : Addr} {L : List (Addr × NK)} (R : SnT P w h a L) : ObjOk P w H h a (SnO P w a L) := by
  obtain ⟨es, ep, t, ⟨o, ho, _⟩, _⟩ := R.ex
  refine ⟨R, ⟨o, ho⟩, fun h1 h2 p k => ?_⟩
  obtain ⟨es', ep', t', ⟨u, hu, ru⟩, q⟩ := SnT.ex p
  exact ⟨es', ep', t', ⟨u, k u hu, ru⟩, q⟩
section
variable {P : Program} {w : World} {A : Around} {E : Value → Shared → Prop} {s : Shared}
theorem sorted_sn {a : Addr} {L : List (Addr × NK)} {es : Array (Int × Value)} {ep : Nat} {t : SetTable} {Q : Value → Shared → Prop} (R : SnR P w s.heap a L es ep t) (hh : A.handled = none) (hr : ∀ q ∈ L, ∃ as, Reads s.heap (.ref q.1) q.2.data as)
    (hdp : ∀ q ∈ L, q.2.data.depth ≤ 8) (hal : ∀ q ∈ L, ∀ r ∈ L, alike q.2.data r.2.data = true) (hk : ∀ q ∈ L, ∃ x r, q.2.data = .tuple (x :: r)) (hu : A.units + 16 < cLine)
    (hQ : ∀ s' p (out : Array Value) (c : Nat) (L' : List (Addr × NK)), (∀ b o, s.heap.get? b = some o → s'.heap.get? b = some o) → s'.gens = s.gens → s'.os = s.os → s.heap.objs.size ≤ p →
      s'.heap.get? p = some (seqObj "list" out c) → out.toList = L'.map (fun q => Value.ref q.1) → L'.Perm L → L'.Pairwise (fun q r => dataLt r.2.data q.2.data = false) → Q (.ref p) s') :
    wpAny (model P w) A (call (.builtin "sorted") [.ref a]) Q E s := by
  obtain ⟨o, ho, hex, hd⟩ := R.ob
  have hsz := R.size
  have hsm := R.sm
  refine Calls.call_function_entry kind_sorted plain_sorted entry_sorted (args_sorted1 _) ?_
  unfold Builtin.«sorted»
  refine wpAny_bind (m := checkCount "sorted" 1 1 _) (wpAny_pure ?_)
  refine wpAny_bind (collect_set (A := A.in1) hh ⟨o, ho, hex.1, hd⟩ R.fits (by unfold scanBound; omega) R.tb.ris R.ld fun s1 vs k1 hz g1 o1 pm => ?_)
  have hes : es.toList.map (·.2) = L.map fun q => Value.ref q.1 := by
    rw [R.ro, rwN, List.map_map]
    rfl
  rw [hes] at pm
  obtain ⟨L1, p1, e1⟩ := perm_mapN pm L rfl
  subst e1
  have hl1 : L1.length < 64 := by rw [p1.length_eq]; exact hsm
  refine wpAny_bind (wpAny_newList ?_ (by rw [List.length_map, sizeLine_eq]; omega))
  have hoL : (s1.heap.push (seqObj "list" (L1.map fun q => Value.ref q.1).toArray 0)).get? s1.heap.objs.size = some (seqObj "list" (L1.map fun q => Value.ref q.1).toArray 0) := Heap.get?_push_size _ rfl
  have er : EachIs (fun v q => ∃ as, Reads (sortingHeap (s1.heap.push (seqObj "list" (L1.map fun q => Value.ref q.1).toArray 0)) s1.heap.objs.size (L1.map fun q => Value.ref q.1)) v q.2.data as) (L1.map fun q => Value.ref q.1) L1 :=
    each_of_map fun q hq => by
      obtain ⟨as, r⟩ := hr q (p1.mem_iff.mp hq)
      exact ⟨as, PyProof.Rows.Reads.keeps (fun b u e => sortingHeap_old (Nat.ne_of_lt (Heap.lt_size (k1 b u e))) (Heap.get?_push_of_some _ (k1 b u e))) r⟩
  have hal1 : AllAlike (L1.map fun q => q.2.data) := fun d hd d' hd' => by
    obtain ⟨q, hq, rfl⟩ := List.mem_map.mp hd
    obtain ⟨r, hr, rfl⟩ := List.mem_map.mp hd'
    exact hal q (p1.mem_iff.mp hq) r (p1.mem_iff.mp hr)
  have hk1 : Sortable (L1.map fun q => q.2.data) := .inl fun d hd => by
    obtain ⟨q, hq, rfl⟩ := List.mem_map.mp hd
    exact hk q (p1.mem_iff.mp hq)
  have hd1 : ∀ d, d ∈ L1.map (fun q => q.2.data) → A.in1.in1.units + d.depth < cLine := fun d hd => by
    obtain ⟨q, hq, rfl⟩ := List.mem_map.mp hd
    have := hdp q (p1.mem_iff.mp hq)
    simp
    omega
  refine wpAny_bind (wpAny_holding (wpAny_call_entry slot_list_sort ⟨_, hoL, rfl⟩ entry_list_sort (list_sort_vals (κ := dataKind (sortingHeap (s1.heap.push (seqObj "list" (L1.map fun q => Value.ref q.1).toArray 0)) s1.heap.objs.size (L1.map fun q => Value.ref q.1)) (L1.map fun q => q.2.data)) hoL
    (SortsAt.data (s := { s1 with heap := sortingHeap (s1.heap.push (seqObj "list" (L1.map fun q => Value.ref q.1).toArray 0)) s1.heap.objs.size (L1.map fun q => Value.ref q.1) }) (each_map (R := fun v d => ∃ as, Reads _ v d as) (fun q : Addr × NK => q.2.data) er) hal1 hk1 hd1) (by rw [List.length_map, sizeLine_eq]; omega) ⟨_, rfl, ?_⟩) (args_list_sort _)))
  have eo := sortVals_data (h' := sortingHeap (s1.heap.push (seqObj "list" (L1.map fun q => Value.ref q.1).toArray 0)) s1.heap.objs.size (L1.map fun q => Value.ref q.1)) (R := fun v q => v = Value.ref q.1) false (each_of_map fun q _ => rfl) er hal1
  have eo := each_of_eq eo
  rw [eo]
  obtain ⟨c, hc⟩ := sortedHeap_at (vs := L1.map fun q => Value.ref q.1) (out := ((L1.mergeSort (dataLe false fun q : Addr × NK => q.2.data)).map fun q => Value.ref q.1).toArray) hoL
  refine wpAny_pure ⟨_, rfl, hQ _ s1.heap.objs.size _ c (L1.mergeSort (dataLe false fun q : Addr × NK => q.2.data)) (fun b u e => ?_) g1 o1 hz hc (by simp) ((List.mergeSort_perm _ _).trans p1) (sort_pw L1)⟩
  have q := k1 b u e
  have hlt := Heap.lt_size q
  show (sortedHeap (s1.heap.push (seqObj "list" (L1.map fun q => Value.ref q.1).toArray 0)) s1.heap.objs.size (L1.map fun q => Value.ref q.1) _).get? b = some u
  rw [sortedHeap_old (Nat.ne_of_lt hlt) (by rw [size_push']; exact Nat.lt_succ_of_lt hlt)]
  exact Heap.get?_push_of_some _ q
end
theorem refs_of_valsN : ∀ {ks : List (Addr × NK)} {us : List Value}, Vals (ks.map fun p => V.ref p.1) us → us = ks.map fun p => Value.ref p.1
  | [], _, h => by cases h; rfl
  | _ :: _, _, h => by
    cases h with
    | cons h t =>
      cases h
      rw [refs_of_valsN t]
      rfl
theorem vals_of_refsN : ∀ ks : List (Addr × NK), Vals (ks.map fun p => V.ref p.1) (ks.map fun p => Value.ref p.1)
  | [] => .nil
  | _ :: ks => .cons rfl (vals_of_refsN ks)
section
variable {X : Cx}
/-- set(t), t a tuple of nested keys -/
def rSetTN (P : Program) (w : World) (K : PySem.W.Frag) : List V → Hp → VK → Prop := fun xs H Q => ∃ (t : Addr) (ks : List (Addr × NK)), xs = [V.ref t] ∧ SqT K H t (ks.map fun p => V.ref p.1) ∧ (∀ p ∈ ks, KeyV K H (.ref p.1) p.2 ∧ p.2.depth ≤ 8) ∧ ks.length < 63 ∧
  ∀ a L, H a = none → (∀ p ∈ L, p ∈ ks) → (∀ p ∈ ks, p.2 ∈ L.map (·.2)) → Q (.ref a) (upd H a (SnO P w a L))
theorem cr_setTN (hc : X.calm = true) (hu : X.A.units + 64 < cLine) : CallR X (.type "set") (rSetTN X.prog X.w X.K) := by
  intro pins s σ H xs us Q I r h
  obtain ⟨l, ks, rfl, hl, hk, hb, q⟩ := h
  rw [Vals.ref1 r]
  obtain ⟨its, rv, pl, hz⟩ := I.tuple hl
  refine call_set_tupN ks (I.ok.hd hc) (show s.heap.IsTuple l its.toArray from pl) (by simpa using refs_of_valsN rv) (fun p hp => ⟨nested_of I (hk p hp).1 rfl, (hk p hp).2⟩) hb (by omega) fun h' tk L es ep t R g k => ?_
  exact ⟨.ref _, upd H s.heap.objs.size (SnO X.prog X.w s.heap.objs.size L), I.laid (t' := tk) k (Nat.le_refl _) (snO_ok R.pure), rfl, q _ L (I.hok.fresh (Nat.le_refl _)) (fun p hp => List.mem_of_mem_take (g.sub p hp)) fun p hp => g.all p (by rw [List.take_length]; exact hp)⟩
/-- sorted(a set of nested keys) -/
def rSortSn (P : Program) (w : World) (K : PySem.W.Frag) : List V → Hp → VK → Prop := fun vs H Q => ∃ (a : Addr) (L : List (Addr × NK)), vs = [V.ref a] ∧ H a = some (SnO P w a L) ∧ (∀ p ∈ L, KeyV K H (.ref p.1) p.2 ∧ p.2.depth ≤ 8 ∧ p.2.data.depth ≤ 8 ∧ ∃ x r, p.2.data = .tuple (x :: r)) ∧
  (∀ q ∈ L, ∀ r ∈ L, alike q.2.data r.2.data = true) ∧
  ∀ (L' : List (Addr × NK)) (p : Addr), L'.Perm L → (L'.map (·.2)).Nodup → L'.Pairwise (fun q r => dataLt r.2.data q.2.data = false) → H p = none → Q (.ref p) (upd H p (.lst (L'.map fun q => V.ref q.1)))
theorem cr_sortSn (hc : X.calm = true) (hu : X.A.units + 64 < cLine) : CallR X (.builtin "sorted") (rSortSn X.prog X.w X.K) := by
  intro pins s σ H vs us Q I r h
  obtain ⟨a, L, rfl, ha, hk, hal, q⟩ := h
  have R0 : SnT X.prog X.w s.heap a L := (I.hok a _ ha).1
  obtain ⟨es, ep, t, R⟩ := R0.keyed fun p hp => ⟨nested_of I (hk p hp).1 rfl, (hk p hp).2.1⟩
  rw [Vals.ref1 r]
  refine sorted_sn R (I.ok.hd hc) (fun p hp => Dp.reads I _ _ _ (hk p hp).1.dp rfl) (fun p hp => (hk p hp).2.2.1) hal (fun p hp => (hk p hp).2.2.2) (by omega) fun s' p out c L' k g o hp hg hout pm pw => ?_
  have hfew : L'.length < 64 := by rw [pm.length_eq]; exact R.sm
  have hlen : (L'.map fun q => V.ref q.1).length ≤ sizeLine := by rw [List.length_map, sizeLine_eq]; omega
  have hn : H p = none := I.hok.fresh hp
  have hv : Vals (L'.map fun q => V.ref q.1) out.toList := by rw [hout]; exact vals_of_refsN L'
  have J := I.call' (s' := s') (ch := []) (H' := upd H p (.lst (L'.map fun q => V.ref q.1))) o (Un.laid k hp hn) (I.hok.laid k hp ⟨hlen, out.toList, c, hv, hg⟩) (by rw [g]; exact I.bare) (fun _ z => nomatch z)
  exact ⟨.ref p, _, J, rfl, q L' p pm ((pm.map (·.2)).nodup_iff.mpr R.nd) pw hn⟩
end
end ND

end
section
set_option Elab.async false
set_option linter.all false
set_option maxRecDepth 100000
set_option maxHeartbeats 4000000
/-! the law's rows: three hands at once, in any order -/
namespace P5
open PySem PySem.Spec PySem.SeqAt PySem.W PyProof.Rows L2 EN ND
/-- a row of changes as keys at their addresses -/
theorem chs_keys {K : PySem.W.Frag} {H : Hp} : ∀ {vs : List V} {Cs : List Ed}, RelL (ChV K H) vs Cs → ∃ ks : List (Addr × NK), vs = ks.map (fun p => V.ref p.1) ∧ ks.map (·.2) = Cs.map kEd ∧ ∀ p ∈ ks, KeyV K H (.ref p.1) p.2
  | [], [], _ => ⟨[], rfl, rfl, fun p hp => (nomatch hp)⟩
  | [], _ :: _, h => h.elim
  | _ :: _, [], h => h.elim
  | v :: vs, e :: Cs, h => by
    obtain ⟨ks, e1, e2, e3⟩ := chs_keys h.2
    have kv := keyV_ch h.1
    obtain ⟨b, _, rfl, _⟩ := h.1
    refine ⟨(b, kEd e) :: ks, by rw [List.map_cons, ← e1], by rw [List.map_cons, List.map_cons, e2], fun p hp => ?_⟩
    rcases List.mem_cons.mp hp with z | z
    · rw [z]; exact kv
    · exact e3 p z
theorem keys_chs {K : PySem.W.Frag} {H : Hp} : ∀ {L : List (Addr × NK)}, (∀ p ∈ L, KeyV K H (.ref p.1) p.2 ∧ ∃ e, p.2 = kEd e) → ∃ Sx : List Ed, RelL (ChV K H) (L.map fun p => V.ref p.1) Sx ∧ L.map (·.2) = Sx.map kEd
  | [], _ => ⟨[], trivial, rfl⟩
  | p :: L, h => by
    obtain ⟨Sx, h1, h2⟩ := keys_chs fun q hq => h q (List.mem_cons_of_mem _ hq)
    obtain ⟨hk, e, he⟩ := h p List.mem_cons_self
    rw [he] at hk
    exact ⟨e :: Sx, ⟨ch_keyV hk, h1⟩, by rw [List.map_cons, List.map_cons, h2, he]⟩
theorem kEd_small {e : Ed} : (kEd e).data.depth ≤ 8 ∧ ∃ x r, (kEd e).data = .tuple (x :: r) := by
  rw [kEd_data]
  refine ⟨?_, _, _, rfl⟩
  have := depth_marks e.ws
  simp only [chD, PyData.depth, PyData.depthAll]
  omega
section
variable {P : Program} {w : World} {K : PySem.W.Frag} {mg : Str → Option Value} {base : Heap} {fL CE CP CB CT CC : Addr} {cdv : Value} {A : Around} {outer : List Env} {s : Shared} {H0 : Hp} {E : XK}
theorem lw24 (hr : Room 22 (XW P w K mg base fL cdv A outer s H0 E).A) (C : CW P w K mg base CE CP CT CC CB) : ∃ t, PS (XW P w K mg base fL cdv A outer s H0 E) (stW 24) t ∧ ∀ (D : Ends) (a d sa t1 t2 p1 p2 x lb l3 lp wh lw ld ag : Addr) (n m N : Nat) (C1 C2 C3 : List Ed) (pv : List V) (v5 v10 : Option V) (H : Hp), DrwS H d sa → n ≤ 9 → m ≤ 10 → N ≤ 13 → RwC K H t1 C1 → RwC K H t2 C2 →
    C1.length ≤ 5 → C2.length ≤ 5 → C3.length ≤ 5 → tot C1 ≤ 10 → tot C2 ≤ 10 → tot C3 ≤ 10 → H lp = some (.lst pv) → RelL (NpV K H) pv (clR [(C1, n), (C2, m), (C3, n)]) → WhR K CP H wh [(C1, n), (C2, m), (C3, n)] N → ThH K CP H l3 [(C1, n), (C2, m), (C3, n)] →
    H lw = some (.lst (WW.map V.str)) → (∀ H', Aft H H' d → DrwS H' d sa → D.nx [some (.ref a), some (.ref d), some (.int n), some (.ref t1), some (.ref t2), v5, some (.ref p1), some (.ref p2), some (.ref x), some (.ref lb), v10, none, some (.ref l3), some (.ref lp), some (.ref wh), some (.ref lw), some (.ref ld), some (.ref ag), none, none, none, none, none, none] H') → t D [some (.ref a), some (.ref d), some (.int n), some (.ref t1), some (.ref t2), v5, some (.ref p1), some (.ref p2), some (.ref x), some (.ref lb), v10, none, some (.ref l3), some (.ref lp), some (.ref wh), some (.ref lw), some (.ref ld), some (.ref ag), none, none, none, none, none, none] H := by
  obtain ⟨fC, cC, GC⟩ := C.call.ex
  refine ⟨_, ps_if (PW.pt (pw_and (pt_cmpR (op_eqD (hu64 hr)) (pv 13) (pe_lst pa_nil) (nomark _)) (pw_and1 (pt_cmpR (op_neW (hu64 hr)) (StX.pe_callO (pv 14) cC GC (hr.mono (by decide)) passLN (pa_cons (pv 15) pa_nil))
    (pe_cl C.wv (hr.mono (by decide)) (pa_cons (pv 1) (pa_cons (pe_callB (cr_sortSn rfl (hu64 hr)) rfl C.srt (by decide +kernel) (pa_cons (pe_callTy (cr_setTN rfl (hu64 hr)) rfl C.set_ (by decide +kernel) (pa_cons (pe_op (r := rCatA K) op_catA (pe_op (r := rCatA K) op_catA (pv 3) (pv 4)) (pe_fld (pe_ix (r := rIxL K) ix_list (pv 12) pe_int (fun _ _ => rfl)) rfl)) pa_nil)) pa_nil)) (pa_cons (pv 15) pa_nil)))) (nomark _))))) (pss_one ps_never) pss_nil, ?_⟩
  intro D a d sa t1 t2 p1 p2 x lb l3 lp wh lw ld ag n m N C1 C2 C3 pv v5 v10 H hd hn hm hN w1 w2 hl1 hl2 hl3 ht1 ht2 ht3 hlp hpv hwh hth hlw q
  refine ⟨_, rfl, by show 0 ≤ sizeLine; decide, fun q1' hq1 => ?_⟩
  have s1 := Same.new hq1 (.lst [])
  have cq1 : upd H q1' (.lst []) q1' = some (.lst []) := upd_same
  have hb1 := s1 _ _ hlp
  have hB1 : RelL (NpV K (upd H q1' (.lst []))) pv (clR [(C1, n), (C2, m), (C3, n)]) := RelL.imp (fun _ _ z => z.imp fun _ _ y => Same.tup s1 y) hpv
  have hw1 := hwh.same s1
  have hth1 := hth.same s1
  have hd1 := hd.same s1
  have w11 := w1.same s1
  have w21 := w2.same s1
  have hlw1 := s1 _ _ hlw
  generalize upd H q1' (.lst []) = H1 at *
  refine ⟨.list ((clR [(C1, n), (C2, m), (C3, n)]).map npD), .list [], .lst (SqL.of hb1) (dp_nps hB1), .lst (SqL.of cq1) .nil, shaped_nps _, by rfl, _, rfl, ?_⟩
  rw [eqv_nps]
  rcases hw1 with ⟨b, a', hfc, h6⟩ | ⟨hall, S, hS, hmS, hp⟩
  · obtain ⟨r, hr2⟩ := clR_first rfl hfc
    rw [hr2]
    exact iteFF rfl (iteFF rfl (q H1 (Aft.of s1) hd1))
  rw [clR_none rfl hall]
  refine iteTT rfl ?_
  obtain ⟨ps, hps, hR⟩ := hth1
  match ps, hps, hR with
  | [], _, h => exact h.elim
  | [_], _, h => exact h.2.elim
  | [_, _], _, h => exact h.2.2.elim
  | _ :: _ :: _ :: _ :: _, _, h => exact h.2.2.2.elim
  | [y0, y1, y2], hps, ⟨h0, h1, h2, _⟩ =>
  obtain ⟨_, e0, k0⟩ := h0
  obtain ⟨_, e1, k1⟩ := h1
  obtain ⟨p3, e2, k2⟩ := h2
  cases e2
  have O1 := k0.pok'
  have O2 := k1.pok'
  have O3 := k2.pok'
  have hmC : ∀ e, e ∈ S ↔ e ∈ C1 ++ C2 ++ C3 := fun e => by
    rw [hmS e]
    simp [allC, or_assoc]
  have okE : ∀ e ∈ C1 ++ C2 ++ C3, Ne e ∧ e.b ≤ WW.length ∧ e.Ok := fun e he => by
    rw [WW_len]
    rcases List.mem_append.mp he with z | z
    · rcases List.mem_append.mp z with z | z
      · exact ⟨(O1.ne z).1, by have := (O1.ne z).2; omega, O1.ok e z⟩
      · exact ⟨(O2.ne z).1, by have := (O2.ne z).2; omega, O2.ok e z⟩
    · exact ⟨(O3.ne z).1, by have := (O3.ne z).2; omega, O3.ok e z⟩
  have hNS : ∀ e ∈ S, Ne e := fun e he => (okE e ((hmC e).mp he)).1
  have hrow := uni_row hS hNS
  have hls : LsH H1 lw WW := ⟨hlw1, WW_mrk, by rw [WW_len]; decide⟩
  have htS : tot S ≤ 30 := by
    have z := (sub_len (pw_nodup hS) fun e he => (hmC e).mp he).2
    rw [tot_app, tot_app] at z
    omega
  have hlen : (apC (asOne S) 0 WW).length ≤ 200 := by
    have z := apC_le WW (asOne_apt hrow)
    rw [asOne_tot, WW_len] at z
    omega
  refine ⟨_, rfl, wh, rfl, _, rfl, hp.insC, wh, lw, asOne S, N, WW, rfl, hp, hls.wse, hlen, fun _ H2 u2 s2 f2 L2 => ?_, fun z => absurd z (by rw [WW_len]; omega)⟩
  rw [asOne_apC hrow] at L2
  have d2 := hd1.same s2
  obtain ⟨c1, hT1, hV1⟩ := w11.same s2
  obtain ⟨c2, hT2, hV2⟩ := w21.same s2
  have hc1 : c1.length = C1.length := hV1.len
  have hc2 : c2.length = C2.length := hV2.len
  refine ⟨_, rfl, _, rfl, _, rfl, ?_⟩
  refine catA_of hT1 hT2 (small_le (by omega)) fun H3 ta s3 hTa => ?_
  have s23 := s2.trans s3
  obtain ⟨dx3, t3, c3, hp3, hT3, hV3, _⟩ := k2.same s23
  have hc3 : c3.length = C3.length := hV3.len
  refine ⟨_, rfl, l3, _, 2, .ref y2, rfl, rfl, SqL.of (s23 _ _ hps), rfl, y2, CP, dx3, _, .ref t3, rfl, hp3, C.clP.cl, C.clP.nC, rfl, ?_⟩
  refine catA_of hTa hT3 (by rw [List.length_append]; exact small_le (by omega)) fun H4 tb s4 hTb => ?_
  have s34 := s3.trans s4
  have hV4 : RelL (ChV K H4) (c1 ++ c2 ++ c3) (C1 ++ C2 ++ C3) := RelL.app (RelL.app (chs_rel.mp (hV1.imp fun _ _ z => Same.tup s34 z)) (chs_rel.mp (hV2.imp fun _ _ z => Same.tup s34 z))) (chs_rel.mp (hV3.imp fun _ _ z => Same.tup s4 z))
  obtain ⟨ks, ek, ekk, hks⟩ := chs_keys hV4
  have hkl : ks.length = C1.length + C2.length + C3.length := by
    have z := congrArg List.length ekk
    rw [List.length_map, List.length_map, List.length_append, List.length_append] at z
    exact z
  have hkE : ∀ p ∈ ks, ∃ e, e ∈ C1 ++ C2 ++ C3 ∧ p.2 = kEd e := fun p hp => by
    have z : p.2 ∈ ks.map (·.2) := List.mem_map.mpr ⟨p, hp, rfl⟩
    rw [ekk] at z
    obtain ⟨e, he, ee⟩ := List.mem_map.mp z
    exact ⟨e, he, ee.symm⟩
  rw [ek] at hTb
  refine ⟨tb, ks, rfl, hTb, fun p hp => ⟨hks p hp, by obtain ⟨e, _, ee⟩ := hkE p hp; rw [ee]; exact kEd_depth e⟩, by omega, fun st L hst hLs hLa => ?_⟩
  obtain ⟨H5, e5⟩ : ∃ H5, upd H4 st (SnO (XW P w K mg base fL cdv A outer s H0 E).prog (XW P w K mg base fL cdv A outer s H0 E).w st L) = H5 := ⟨_, rfl⟩
  rw [e5]
  have s5 : Same H4 H5 := by rw [← e5]; exact Same.new hst _
  have c5 : H5 st = some (SnO P w st L) := by rw [← e5]; exact upd_same
  have hks5 : ∀ p ∈ L, KeyV K H5 (.ref p.1) p.2 := fun p hp => (hks p (hLs p hp)).imp fun _ _ z => Same.tup s5 z
  refine ⟨st, L, rfl, c5, fun p hp => ?_, fun p hp r hr => ?_, fun L' lS pm nd pw hlS => ?_⟩
  · obtain ⟨e, _, ee⟩ := hkE p (hLs p hp)
    refine ⟨hks5 p hp, ?_⟩
    rw [ee]
    exact ⟨kEd_depth e, kEd_small.1, kEd_small.2⟩
  · obtain ⟨e, _, ee⟩ := hkE p (hLs p hp)
    obtain ⟨f, _, ef⟩ := hkE r (hLs r hr)
    rw [ee, ef, kEd_data, kEd_data]
    exact alike_ch e f
  have s6 := Same.new hlS (.lst (L'.map fun q => V.ref q.1))
  have c6 : upd H5 lS (.lst (L'.map fun q => V.ref q.1)) lS = some (.lst (L'.map fun q => V.ref q.1)) := upd_same
  have hks6 : ∀ p ∈ L', KeyV K (upd H5 lS (.lst (L'.map fun q => V.ref q.1))) (.ref p.1) p.2 ∧ ∃ e, p.2 = kEd e := fun p hp => by
    have hpL := pm.mem_iff.mp hp
    obtain ⟨e, _, ee⟩ := hkE p (hLs p hpL)
    exact ⟨(hks5 p hpL).imp fun _ _ z => Same.tup s6 z, e, ee⟩
  generalize upd H5 lS (.lst (L'.map fun q => V.ref q.1)) = H6 at *
  obtain ⟨Sx, hSx, eSx⟩ := keys_chs hks6
  have ndS : Sx.Nodup := by
    rw [eSx] at nd
    exact List.Pairwise.of_map kEd (fun _ _ hne e => hne (congrArg kEd e)) nd
  have hmX : ∀ e, e ∈ S ↔ e ∈ Sx := fun e => by
    rw [hmC e]
    constructor
    · intro he
      have z : kEd e ∈ ks.map (·.2) := by rw [ekk]; exact List.mem_map.mpr ⟨e, he, rfl⟩
      obtain ⟨p, hp, ep⟩ := List.mem_map.mp z
      have y := hLa p hp
      rw [ep, ← (pm.map (·.2)).mem_iff, eSx] at y
      obtain ⟨f, hf, ef⟩ := List.mem_map.mp y
      rw [← kEd_inj ef]
      exact hf
    · intro he
      have z : kEd e ∈ L'.map (·.2) := by rw [eSx]; exact List.mem_map.mpr ⟨e, he, rfl⟩
      obtain ⟨p, hp, ep⟩ := List.mem_map.mp z
      obtain ⟨f, hf, ef⟩ := hkE p (hLs p (pm.mem_iff.mp hp))
      rw [← kEd_inj (ef.symm.trans ep)]
      exact hf
  have s26 := ((s34.trans s5).trans s6)
  have d6 := d2.same s26
  have hsl := sub_len ndS fun e he => (hmC e).mp ((hmX e).mpr he)
  rw [tot_app, tot_app, List.length_append, List.length_append] at hsl
  have hlw6 := s26 _ _ (s2 _ _ hlw1)
  refine ⟨_, rfl, d, sa, lS, lw, _, Sx, S, WW, rfl, d6, SqL.of c6, chs_rel.mpr hSx, SqL.of hlw6, ndS, hS, hmX, fun y hy => okE y ((hmC y).mp ((hmX y).mpr hy)), by rw [WW_len]; decide, by omega, by omega, fun H7 l7 a7 d7 h7 => ?_⟩
  have L7 := (L2.same s26).aft d6 a7
  exact ⟨u2, l7, _, _, rfl, rfl, SqL.of L7.at_, SqL.of h7, L7.mrk, L7.mrk, _, rfl, iteFF (by rw [decide_eq_true rfl]; rfl) (q H7 ((Aft.of ((s1.trans s2).trans s26)).trans a7) d7)⟩
end
end P5

end
section
set_option Elab.async false
set_option linter.all false
set_option maxRecDepth 100000
set_option maxHeartbeats 4000000
/-! the law's rows: one edit behind one other -/
namespace P5
open PySem PySem.Spec PySem.SeqAt PySem.W PyProof.Rows L2 EN ND
section
variable {P : Program} {w : World} {K : PySem.W.Frag} {mg : Str → Option Value} {base : Heap} {fL CE CP CB CT CC : Addr} {cdv : Value} {A : Around} {outer : List Env} {s : Shared} {H0 : Hp} {E : XK}
theorem lw25 (hr : Room 22 (XW P w K mg base fL cdv A outer s H0 E).A) (C : CW P w K mg base CE CP CT CC CB) : ∃ t, PS (XW P w K mg base fL cdv A outer s H0 E) (stW 25) t ∧ ∀ (D : Ends) (a d t1 t2 p1 p2 x lb l3 lp wh lw ld ag : Addr) (n m i j : Nat) (C1 C2 S : List Ed) (v5 v10 : Option V) (H : Hp), n ≤ 9 → m ≤ 10 → PtH K CP H p1 C1 n → PtH K CP H p2 C2 m → AllGo C1 C2 → tot C1 ≤ 10 → tot C2 ≤ 10 → C1.length ≤ 5 → C2.length ≤ 5 → RwC K H t1 C1 → RwC K H t2 C2 →
    TgH K CP CT H x (asOne S) (asOne (rest0 C2 C1)) (asOne (rest0 C1 C2)) (max n m) i j →
    (∀ H', Same H H' → D.rt (.bl true) H') → (∀ H', Same H H' → D.nx [some (.ref a), some (.ref d), some (.int n), some (.ref t1), some (.ref t2), v5, some (.ref p1), some (.ref p2), some (.ref x), some (.ref lb), v10, none, some (.ref l3), some (.ref lp), some (.ref wh), some (.ref lw), some (.ref ld), some (.ref ag), none, none, none, none, none, none] H') → t D [some (.ref a), some (.ref d), some (.int n), some (.ref t1), some (.ref t2), v5, some (.ref p1), some (.ref p2), some (.ref x), some (.ref lb), v10, none, some (.ref l3), some (.ref lp), some (.ref wh), some (.ref lw), some (.ref ld), some (.ref ag), none, none, none, none, none, none] H := by
  obtain ⟨fI, fdI, J⟩ := C.mkE
  refine ⟨_, ps_if (PW.pt (pw_and (pt_cmpR op_eq (pe_callB call_len_seq rfl C.bn.len PySem.boot_len (pa_cons (pv 3) pa_nil)) pe_int (nomark _)) (pw_and (pt_cmpR op_eq (pe_callB call_len_seq rfl C.bn.len PySem.boot_len (pa_cons (pv 4) pa_nil)) pe_int (nomark _)) (pw_and1 (pt_cmpR (op_neD (hu64 hr)) (pv 3) (pv 4) (nomark _))))))
    (pss_cons (ps_par (i := 18) (j := 11) rfl scLw.nd rfl rfl (by decide) rfl rfl (pa_cons (pe_make (E := E0) J.M J.F (hr.mono (by decide)) rfl J.m J.b .nil pass0 (pa_cons (pe_ix (r := rIxT K) ix_tup (pe_ix (r := rIxT K) ix_tup (pv 3) pe_int (fun _ _ => rfl)) pe_int (fun _ _ => rfl)) (pa_cons (pe_ix (r := rIxT K) ix_tup (pe_ix (r := rIxT K) ix_tup (pv 3) pe_int (fun _ _ => rfl)) pe_int (fun _ _ => rfl)) (pa_cons (pe_ix (r := rIxT K) ix_tup (pe_ix (r := rIxT K) ix_tup (pv 3) pe_int (fun _ _ => rfl)) pe_int (fun _ _ => rfl)) pa_nil)))) (pa_cons (pe_make (E := E0) J.M J.F (hr.mono (by decide)) rfl J.m J.b .nil pass0 (pa_cons (pe_ix (r := rIxT K) ix_tup (pe_ix (r := rIxT K) ix_tup (pv 4) pe_int (fun _ _ => rfl)) pe_int (fun _ _ => rfl)) (pa_cons (pe_ix (r := rIxT K) ix_tup (pe_ix (r := rIxT K) ix_tup (pv 4) pe_int (fun _ _ => rfl)) pe_int (fun _ _ => rfl)) (pa_cons (pe_ix (r := rIxT K) ix_tup (pe_ix (r := rIxT K) ix_tup (pv 4) pe_int (fun _ _ => rfl)) pe_int (fun _ _ => rfl)) pa_nil)))) pa_nil)) rfl)
    (pss_cons (ps_set (i := 19) scLw.nd rfl (Or.inl rfl) (pe_cl C.car (hr.mono (by decide)) (pa_cons (pv 18) (pa_cons (pv 11) pa_nil))))
    (pss_one (ps_ret (pe_or (pe_cmpR op_isN (pv 19) pe_non (nomark _)) (pe_one (pe_cmpR (op_eqD (hu64 hr)) (pe_fld (pe_fld (pv 8) rfl) rfl) (pe_tup (pa_cons (pe_tup (pa_cons (pe_fld (pv 19) rfl) (pa_cons (pe_fld (pv 19) rfl) (pa_cons (pe_callTy call_tuple_of rfl C.bn.tup (by decide +kernel) (pa_cons (pe_fld (pv 19) rfl) pa_nil)) pa_nil)))) pa_nil)) (nomark _)))))))) pss_nil, ?_⟩
  intro D a d t1 t2 p1 p2 x lb l3 lp wh lw ld ag n m i j C1 C2 S v5 v10 H hn hm h1 h2 hgo ht1 ht2 hl1 hl2 w1' w2' htg qr q
  obtain ⟨dx, w1, u1, o1, hx, hw, hu, ho⟩ := htg
  have O1 := h1.pok'
  have O2 := h2.pok'
  obtain ⟨c1, hT1, hV1⟩ := id w1'
  obtain ⟨c2, hT2, hV2⟩ := id w2'
  have hc1 : c1.length = C1.length := hV1.len
  have hc2 : c2.length = C2.length := hV2.len
  refine ⟨_, rfl, t1, c1, rfl, .inr hT1, rfl, _, rfl, ?_⟩
  by_cases z1 : C1.length = 1
  · refine iteTT (by rw [hc1, z1]; rfl) ?_
    refine ⟨_, rfl, t2, c2, rfl, .inr hT2, rfl, _, rfl, ?_⟩
    by_cases z2 : C2.length = 1
    · refine iteTT (by rw [hc2, z2]; rfl) ?_
      obtain ⟨e, rfl⟩ : ∃ e, C1 = [e] := by
        match C1, z1 with
        | [e], _ => exact ⟨e, rfl⟩
      obtain ⟨f, rfl⟩ : ∃ f, C2 = [f] := by
        match C2, z2 with
        | [f], _ => exact ⟨f, rfl⟩
      obtain ⟨v, rfl⟩ : ∃ v, c1 = [v] := by
        match c1, hc1 with
        | [v], _ => exact ⟨v, rfl⟩
      obtain ⟨u, rfl⟩ : ∃ u, c2 = [u] := by
        match c2, hc2 with
        | [u], _ => exact ⟨u, rfl⟩
      refine ⟨_, rfl, _, rfl, .tuple ([e].map chD), .tuple ([f].map chD), .tup hT1 (dp_chs hV1), .tup hT2 (dp_chs hV2), shaped_chsT O1.ok, shaped_chsT O2.ok, _, rfl, ?_⟩
      have eq1 : PyData.eqv (.tuple ([e].map chD)) (.tuple ([f].map chD)) = decide ([e] = [f]) := eqv_chs [e] [f]
      rw [eq1]
      by_cases c : e = f
      · exact iteFF (by rw [c, decide_eq_true rfl]; rfl) (q H (Same.refl _))
      refine iteTT (by rw [decide_eq_false fun z => c (List.cons.inj z).1]; rfl) ?_
      have oe := O1.ok e List.mem_cons_self
      have of_ := O2.ok f List.mem_cons_self
      have ne := (O1.ne (List.mem_cons_self (a := e) (l := []))).1
      have nf := (O2.ne (List.mem_cons_self (a := f) (l := []))).1
      have go := hgo e List.mem_cons_self f List.mem_cons_self
      obtain ⟨r1, r2, r3⟩ := one_rest ne nf go c
      have wth : With [f] e := ⟨ne, fun y hy => by
        rw [List.mem_singleton.mp hy]
        exact (go.bf oe.le of_.le c).symm⟩
      obtain ⟨sa, sb, _⟩ := sh_at O2.apt wth
      rw [r2] at sa sb
      rw [r1] at hu
      have ok2 : (shE [f] e).Ok := hu.pok'.ok _ List.mem_cons_self
      have car : carE e f (shE [f] e) := ⟨sa, sb, rfl⟩
      generalize shE [f] e = e2 at *
      obtain ⟨b1, y1, rfl, hb1, hy1⟩ := hV1.1
      obtain ⟨b2, y2, rfl, hb2, hy2⟩ := hV2.1
      refine ⟨_, rfl, t1, _, 0, .ref b1, rfl, rfl, hT1, rfl, b1, _, 0, .int e.a, rfl, rfl, hb1, rfl, _, rfl, t1, _, 0, .ref b1, rfl, rfl, hT1, rfl, b1, _, 1, .int e.b, rfl, rfl, hb1, rfl, _, rfl, t1, _, 0, .ref b1, rfl, rfl, hT1, rfl, b1, _, 2, .ref y1, rfl, rfl, hb1, rfl, ?_⟩
      refine mk_edV (Q := fun x H2 => _) rfl rfl (.inr hy1) oe fun H1 x1 s1 fx1 hx1 => ?_
      have hT2' := Same.tup s1 hT2
      have hb2' := Same.tup s1 hb2
      refine ⟨_, rfl, t2, _, 0, .ref b2, rfl, rfl, hT2', rfl, b2, _, 0, .int f.a, rfl, rfl, hb2', rfl, _, rfl, t2, _, 0, .ref b2, rfl, rfl, hT2', rfl, b2, _, 1, .int f.b, rfl, rfl, hb2', rfl, _, rfl, t2, _, 0, .ref b2, rfl, rfl, hT2', rfl, b2, _, 2, .ref y2, rfl, rfl, hb2', rfl, ?_⟩
      refine mk_edV (Q := fun x H2 => _) rfl rfl (.inr (Same.tup s1 hy2)) of_ fun H2 x2 s2 fx2 hx2 => ?_
      refine ⟨_, _, rfl, ?_⟩
      refine ⟨_, rfl, _, rfl, x1, x2, e, f, e2, rfl, hx1.same s2, hx2, car, ok2, r3, fun H3 x3 s3 fx3 hx3 => ?_⟩
      have s13 := (s1.trans s2).trans s3
      refine ⟨_, rfl, rfl, _, rfl, iteFF (decide_eq_false fun z => by cases z) ?_⟩
      obtain ⟨du, tu, cu, hpu, hTu, hVu, _⟩ := hu.same s13
      obtain ⟨d3, y3, hp3, hT3, _⟩ := hx3
      refine ⟨_, rfl, x, CT, dx, _, .ref u1, rfl, s13 _ _ hx, C.clT.cl, C.clT.nO, rfl, u1, CP, du, _, .ref tu, rfl, hpu, C.clP.cl, C.clP.nC, rfl, ?_⟩
      refine ⟨_, rfl, x3, CE, d3, _, .int e2.a, rfl, hp3, C.clE.cl, C.clE.nF, rfl, _, rfl, x3, CE, d3, _, .int e2.b, rfl, hp3, C.clE.cl, C.clE.nL, rfl, _, rfl, x3, CE, d3, _, .ref y3, rfl, hp3, C.clE.cl, C.clE.nW, rfl, y3, _, rfl, .inr ⟨hT3, ?_⟩⟩
      refine ⟨by show 3 ≤ sizeLine; decide, fun ta hta => ?_⟩
      have s4 := Same.new hta (.tup [.int e2.a, .int e2.b, .ref y3])
      have c4 : upd H3 ta (.tup [.int e2.a, .int e2.b, .ref y3]) ta = some (.tup [.int e2.a, .int e2.b, .ref y3]) := upd_same
      have hVu4 := hVu.imp fun _ _ z => Same.tup s4 z
      have hTu4 := Same.tup s4 hTu
      have hT34 := Same.tup s4 hT3
      generalize upd H3 ta (.tup [.int e2.a, .int e2.b, .ref y3]) = H4 at *
      have chv : ChV K H4 (.ref ta) e2 := ⟨ta, y3, rfl, SqT.of c4, hT34⟩
      refine ⟨by show 1 ≤ sizeLine; decide, fun tb htb => ?_⟩
      have s5 := Same.new htb (.tup [.ref ta])
      have c5 : upd H4 tb (.tup [.ref ta]) tb = some (.tup [.ref ta]) := upd_same
      have hVu5 := hVu4.imp fun _ _ z => Same.tup s5 z
      have hTu5 := Same.tup s5 hTu4
      have hV5 : ChsV K (upd H4 tb (.tup [.ref ta])) [.ref ta] [e2] := ⟨chv.imp fun _ _ z => Same.tup s5 z, trivial⟩
      generalize upd H4 tb (.tup [.ref ta]) = H5 at *
      refine ⟨.tuple ([e2].map chD), .tuple ([e2].map chD), .tup hTu5 (dp_chs hVu5), .tup (SqT.of c5) (dp_chs hV5), shaped_chsT hu.pok'.ok, shaped_chsT hu.pok'.ok, ?_⟩
      have eq2 : PyData.eqv (.tuple ([e2].map chD)) (.tuple ([e2].map chD)) = decide ([e2] = [e2]) := eqv_chs [e2] [e2]
      rw [eq2, decide_eq_true rfl]
      exact qr H5 ((s13.trans s4).trans s5)
    · refine iteFF (by rw [hc2]; exact decide_eq_false fun z => z2 (by have := V.int.inj z; omega)) (q H (Same.refl _))
  · refine iteFF (by rw [hc1]; exact decide_eq_false fun z => z1 (by have := V.int.inj z; omega)) (q H (Same.refl _))
end
end P5

end
section
set_option Elab.async false
set_option linter.all false
set_option maxRecDepth 100000
set_option maxHeartbeats 4000000
/-! the law whole -/
namespace P5
open PySem PySem.Spec PySem.SeqAt PySem.W PyProof.Rows L2 EN ND
theorem DrL.totle {C : List Ed} {n l : Nat} (h : DrL C n l) : tot C ≤ 2 * l := by
  have z : ∀ {L : List Ed}, (∀ e ∈ L, e.ws.length ≤ 2) → tot L ≤ 2 * L.length := by
    intro L
    induction L with
    | nil => intro _; exact Nat.le_refl _
    | cons e L ih =>
      intro hh
      have t1 : tot (e :: L) = e.ws.length + tot L := by unfold tot; rw [List.map_cons, List.sum_cons]
      have := ih fun x hx => hh x (List.mem_cons_of_mem _ hx)
      have := hh e List.mem_cons_self
      rw [t1, List.length_cons]
      omega
  have := z fun e he => (h.few e he).1
  have := h.len
  omega
theorem ToH.of {K : PySem.W.Frag} {CP CT CC x : Addr} {H H' : Hp} {C D : List Ed} {m k : Nat} (s : Same H H') (h : ToH K CP CT CC H x C D m k) : ToH K CP CT CC H' x C D m k := h.same s
theorem Nps.same {K : PySem.W.Frag} {H H' : Hp} {vs : List V} {ps : List (Nat × Nat)} (s : Same H H') (h : RelL (NpV K H) vs ps) : RelL (NpV K H') vs ps := RelL.imp (fun _ _ z => z.imp fun _ _ y => Same.tup s y) h
/-! ### what stays while the law draws -/
theorem TgH.aft {K : PySem.W.Frag} {CP CT p d sa : Addr} {H H' : Hp} {W U O : List Ed} {i j k : Nat} (hd : DrwS H d sa) (s : Aft H H' d) (h : TgH K CP CT H p W U O i j k) : TgH K CP CT H' p W U O i j k := by
  obtain ⟨dx, w, u, o, h1, h2, h3, h4⟩ := h
  exact ⟨dx, w, u, o, s _ _ (hd.drw.ne h1 fun _ _ z => by cases z) h1, h2.aft hd s, h3.aft hd s, h4.aft hd s⟩
theorem ToH.aft {K : PySem.W.Frag} {CP CT CC x d sa : Addr} {H H' : Hp} {C D : List Ed} {m k : Nat} (hd : DrwS H d sa) (s : Aft H H' d) (h : ToH K CP CT CC H x C D m k) : ToH K CP CT CC H' x C D m k := by
  rcases h with ⟨a, b, h1, dx, h2⟩ | ⟨h1, S, i, j, e1, e2, e3, e4, h2⟩
  · exact .inl ⟨a, b, h1, dx, s _ _ (hd.drw.ne h2 fun _ _ z => by cases z) h2⟩
  · exact .inr ⟨h1, S, i, j, e1, e2, e3, e4, h2.aft hd s⟩
theorem Nps.aft {K : PySem.W.Frag} {d sa : Addr} {H H' : Hp} {vs : List V} {ps : List (Nat × Nat)} (hd : DrwS H d sa) (s : Aft H H' d) (h : RelL (NpV K H) vs ps) : RelL (NpV K H') vs ps := RelL.imp (fun _ _ z => z.imp fun _ _ y => Aft.tup hd.drw s y) h
/-- a list of pairs isn't the drawing list -/
theorem nps_at {K : PySem.W.Frag} {d sa l : Addr} {H H' : Hp} {vs : List V} {ps : List (Nat × Nat)} (hd : DrwS H d sa) (s : Aft H H' d) (hl : H l = some (.lst vs)) (h : RelL (NpV K H) vs ps) : H' l = some (.lst vs) := by
  refine s _ _ (hd.drw.ne hl fun sb n z => ?_) hl
  injection z with z
  subst z
  match ps, h with
  | [], h => exact h
  | [_], h => exact h.2
  | _ :: _ :: _, h =>
    obtain ⟨y, e, _⟩ := h.2.1
    cases e
theorem ThH.aft {K : PySem.W.Frag} {CP l d sa : Addr} {H H' : Hp} {T : List (List Ed × Nat)} (hd : DrwS H d sa) (s : Aft H H' d) (h : ThH K CP H l T) : ThH K CP H' l T := by
  obtain ⟨ps, h1, h2⟩ := h
  refine ⟨ps, s _ _ (hd.drw.ne h1 fun sb n z => ?_) h1, RelL.imp (fun _ _ z => ?_) h2⟩
  · injection z with z
    match ps, z with
    | [], z => cases z
    | [_], z => cases z
    | _ :: _ :: _, z => cases z
  · obtain ⟨p, e, hp⟩ := z
    exact ⟨p, e, hp.aft hd s⟩
theorem WhR.aft {K : PySem.W.Frag} {CP x d sa : Addr} {H H' : Hp} {T : List (List Ed × Nat)} {N : Nat} (hd : DrwS H d sa) (s : Aft H H' d) (h : WhR K CP H x T N) : WhR K CP H' x T N := by
  rcases h with ⟨b, a, h1, h2⟩ | ⟨h1, S, h2, h3, h4⟩
  · exact .inl ⟨b, a, h1, s _ _ (hd.drw.ne h2 fun _ _ z => by cases z) h2⟩
  · exact .inr ⟨h1, S, h2, h3, h4.aft hd s⟩
/-! ### the law -/
def spLawH (K : PySem.W.Frag) : Sp := fun vs H Q _ => ∃ (a : Addr) (ns : List Int), vs = [.ref a] ∧ SqL K H a (ns.map V.int) ∧ ns.length ≤ 63 ∧ ∀ H', Q (.bl true) H'
section
variable {P : Program} {w : World} {K : PySem.W.Frag} {mg : Str → Option Value} {base : Heap} {fL CE CP CB CT CC : Addr}
theorem ok_lawH {fd : FuncData} (F : Fun K "law" "law" sLw fL fd) (C : CW P w K mg base CE CP CT CC CB) (RC : RIn K mg "Clash" CC) (gT : mg "Together" = some (.ref CT)) (kf : PySem.W.kitOne K (.ref CC) (.ref CT) = some false) : FnOk P w K mg base CX0 23 fL fd ["script"] (spLawH K) := by
  refine F.ok scLw (fun vs H Q E h => ?_) (fun cdv A outer s H vs Q E hr h => ?_)
  · obtain ⟨_, _, rfl, _⟩ := h
    rfl
  obtain ⟨a, ns, rfl, hS, hl, q⟩ := h
  have hr : Room 22 (XW P w K mg base fL cdv A outer s H E).A := hr
  obtain ⟨t0, w0, h0⟩ := lw0 (P := P) (w := w) (K := K) (mg := mg) (base := base) (fL := fL) (cdv := cdv) (A := A) (outer := outer) (s := s) (H0 := H) (E := E)
  obtain ⟨t1, w1, h1⟩ := lw1 hr C
  obtain ⟨t2, w2, h2⟩ := lw2 hr C
  obtain ⟨t3, w3, h3⟩ := lw3 hr C
  obtain ⟨t4, w4, h4⟩ := lw4 hr C
  obtain ⟨t5, w5, h5⟩ := lw5 hr C
  obtain ⟨t6, w6, h6⟩ := lw6 hr C
  obtain ⟨t7, w7, h7⟩ := lw7 (P := P) (w := w) (K := K) (mg := mg) (base := base) (fL := fL) (cdv := cdv) (A := A) (outer := outer) (s := s) (H0 := H) (E := E)
  obtain ⟨t8, w8, h8⟩ := lw8 hr C
  obtain ⟨t9, w9, h9⟩ := lw9 hr C
  obtain ⟨t10, w10, h10⟩ := lw10 hr C
  obtain ⟨t11, w11, h11⟩ := lw11 hr C
  obtain ⟨t12, w12, h12⟩ := lw12 hr C
  obtain ⟨t13, w13, h13⟩ := lw13 (CP := CP) hr
  obtain ⟨t14, w14, h14⟩ := lw14 hr C
  obtain ⟨t15, w15, h15⟩ := lw15 hr C
  obtain ⟨t16, w16, h16⟩ := lw16 hr C RC gT kf
  obtain ⟨t17, w17, h17⟩ := lw17 (P := P) (w := w) (K := K) (mg := mg) (base := base) (fL := fL) (cdv := cdv) (A := A) (outer := outer) (s := s) (H0 := H) (E := E)
  obtain ⟨t18, w18, h18⟩ := lw18 hr C
  obtain ⟨t19, w19, h19⟩ := lw19 hr C
  obtain ⟨t20, w20, h20⟩ := lw20 hr C
  obtain ⟨t21, w21, h21⟩ := lw21 hr C
  obtain ⟨t22, w22, h22⟩ := lw22 hr C
  obtain ⟨t23, w23, h23⟩ := lw23 hr C
  obtain ⟨t24, w24, h24⟩ := lw24 hr C
  obtain ⟨t25, w25, h25⟩ := lw25 hr C
  obtain ⟨t26, w26, h26⟩ := lw26 (P := P) (w := w) (K := K) (mg := mg) (base := base) (fL := fL) (cdv := cdv) (A := A) (outer := outer) (s := s) (H0 := H) (E := E)
  have all : PSs (XW P w K mg base fL cdv A outer s H E) (defBody sLw) _ := pss_cons w0 (pss_cons w1 (pss_cons w2 (pss_cons w3 (pss_cons w4 (pss_cons w5 (pss_cons w6 (pss_cons w7 (pss_cons w8 (pss_cons w9 (pss_cons w10 (pss_cons w11 (pss_cons w12 (pss_cons w13 (pss_cons w14 (pss_cons w15
    (pss_cons w16 (pss_cons w17 (pss_cons w18 (pss_cons w19 (pss_cons w20 (pss_cons w21 (pss_cons w22 (pss_cons w23 (pss_cons w24 (pss_cons w25 (pss_one w26))))))))))))))))))))))))))
  refine ⟨_, all, ?_⟩
  refine h0 _ a ns _ _ H hS hl fun d sa H1 d1 => ?_
  refine h1 _ a d sa H1 d1 fun n H2 d2 n4 n9 => ?_
  refine h2 _ a d sa n H2 d2 n9 fun t1 t2 C1 C2 H3 d3 r1 k1 r2 k2 => ?_
  refine h3 _ a d sa t1 t2 C1 C2 n H3 d3 n9 r1 k1 r2 k2 fun t2 C2 H4 d4 r1 r2 k2 => ?_
  refine h4 _ a d sa t1 t2 C1 C2 n H4 d4 n4 n9 r1 k1 r2 k2 fun t1 t2 C1 C2 H5 d5 r1 k1 r2 k2 => ?_
  refine h5 _ a d sa t1 t2 C1 C2 n H5 d5 n9 r1 k1 r2 k2 fun p1 p2 m H6 d6 r1 r2 nm mn q1 q2 => ?_
  have S1 := (k1.ok (m := n) (Nat.le_refl _) (by omega) (by decide)).2
  have S2 := (k2.ok (m := m) nm (by omega) (by decide)).2
  have l1 := k1.len
  have l2 := k2.len
  have T1 := k1.totle
  have T2 := k2.totle
  refine h6 _ a d t1 t2 p1 p2 C1 C2 n m H6 n9 nm mn k1 k2 q1 q2 fun x H7 s7 to7 => ?_
  refine h7 _ a d t1 t2 p1 p2 x n H7 fun lb H8 s8 hlb8 _ => ?_
  have s68 := s7.trans s8
  refine h8 _ a d t1 t2 p1 p2 x lb C1 C2 n H8 n9 (r1.same s68) k1 (r2.same s68) k2 hlb8 fun v5 v10 lb bv H9 s9 hlb hbv => ?_
  have to9 := (to7.same s8).same s9
  refine h9 _ a d t1 t2 p1 p2 x lb C1 C2 n m v5 v10 bv H9 to9 hlb hbv fun H10 s10 => ?_
  have s610 := (s68.trans s9).trans s10
  have d10 := d6.same s610
  have to10 := to9.same s10
  have hlb10 := s10 _ _ hlb
  have hbv10 := Nps.same s10 hbv
  have q1 := q1.same s610
  have q2 := q2.same s610
  have r1 := r1.same s610
  have r2 := r2.same s610
  refine h10 _ a d sa t1 t2 p1 p2 x lb C1 C2 n m v5 v10 H10 d10 n9 q1 q2 fun l3 C3 H11 a11 d11 k3 th => ?_
  have S3 := (k3.ok (m := n) (Nat.le_refl _) (by omega) (by decide)).2
  have l3' := k3.len
  have T3 := k3.totle
  have q1 := q1.aft d10 a11
  have q2 := q2.aft d10 a11
  have r1 := r1.aft d10 a11
  have r2 := r2.aft d10 a11
  have to11 : ToH K CP CT CC H11 x C1 C2 n m := to10.aft d10 a11
  have hlb11 : H11 lb = some (.lst bv) := nps_at d10 a11 hlb10 hbv10
  have hbv11 : RelL (NpV K H11) bv (badL C1 C2) := Nps.aft d10 a11 hbv10
  have sml : ∀ q ∈ [(C1, n), (C2, m), (C3, n)], Sml q.1 q.2 := fun q hq => by
    rcases List.mem_cons.mp hq with z | hq
    · rw [z]; exact S1
    rcases List.mem_cons.mp hq with z | hq
    · rw [z]; exact S2
    rcases List.mem_cons.mp hq with z | hq
    · rw [z]; exact S3
    cases hq
  have mx : MaxOf [(C1, n), (C2, m), (C3, n)] m := ⟨⟨(C2, m), by simp, rfl⟩, fun q hq => by
    rcases List.mem_cons.mp hq with z | hq
    · rw [z]; exact nm
    rcases List.mem_cons.mp hq with z | hq
    · rw [z]; exact Nat.le_refl _
    rcases List.mem_cons.mp hq with z | hq
    · rw [z]; exact nm
    cases hq⟩
  refine h11 _ a d t1 t2 p1 p2 x lb l3 n [(C1, n), (C2, m), (C3, n)] v5 v10 H11 th rfl sml fun lp pv H12 s12 hlp hpv => ?_
  have th := th.same s12
  refine h12 _ a d t1 t2 p1 p2 x lb l3 lp n m [(C1, n), (C2, m), (C3, n)] v5 v10 H12 th rfl sml mx (by omega) fun wh H13 s13 hwh => ?_
  have hlp := s13 _ _ hlp
  have hpv := Nps.same s13 hpv
  have th := th.same s13
  refine h13 _ a d t1 t2 p1 p2 x lb l3 lp wh n m [(C1, n), (C2, m), (C3, n)] pv v5 v10 H13 rfl hlp hpv hwh fun H14 s14 => ?_
  have hlp := s14 _ _ hlp
  have hpv := Nps.same s14 hpv
  have hwh := hwh.same s14
  have th := th.same s14
  have s1114 := (s12.trans s13).trans s14
  refine h14 _ a d t1 t2 p1 p2 x lb l3 lp wh n m C1 (C1, n) (C2, m) (C3, n) pv v5 v10 H14 hlp hpv hwh th sml mx (by omega) (q1.same s1114) S1 fun H15 s15 => ?_
  have hlp := s15 _ _ hlp
  have hpv := Nps.same s15 hpv
  have hwh := hwh.same s15
  have th := th.same s15
  refine h15 _ a d t1 t2 p1 p2 x lb l3 lp wh n m [(C1, n), (C2, m), (C3, n)] pv v5 v10 H15 rfl hlp hpv hwh th mx fun H16 s16 => ?_
  have hlp := s16 _ _ hlp
  have hpv := Nps.same s16 hpv
  have hwh := hwh.same s16
  have th := th.same s16
  have s1116 := (s1114.trans s15).trans s16
  have q1 := q1.same s1116
  have q2 := q2.same s1116
  have r1 := r1.same s1116
  have r2 := r2.same s1116
  have d16 := d11.same s1116
  refine h16 _ a d t1 t2 p1 p2 x lb l3 lp wh n m C1 C2 bv v5 v10 H16 (to11.same s1116) (s1116 _ _ hlb11) (Nps.same s1116 hbv11) (fun H' _ => q H') fun H17 s17 go tg => ?_
  obtain ⟨S, i, j, hSb, hmS, hi, hj, htg⟩ := tg
  have hNS : ∀ e ∈ S, Ne e := fun e he => by
    rcases (hmS e).mp he with z | z
    · exact (q1.pok'.ne z).1
    · exact (q2.pok'.ne z).1
  have htS : tot S ≤ 100 := by
    have z := (sub_len (pw_nodup hSb) (L := C1 ++ C2) fun e he => List.mem_append.mpr ((hmS e).mp he)).2
    rw [tot_app] at z
    omega
  have eM : max n m = m := by omega
  refine h17 _ a d t1 t2 p1 p2 x lb l3 lp wh n v5 v10 H17 fun lw H18 s18 hlw => ?_
  refine h18 _ a d t1 t2 p1 p2 x lb l3 lp wh lw n (max n m) i j C1 C2 S _ _ v5 v10 H18 (htg.same s18) hSb hNS htS (by omega) hlw fun ld H19 s19 hld => ?_
  have s1619 := (s17.trans s18).trans s19
  have htg := htg.same (s18.trans s19)
  have hlw := s19 _ _ hlw
  refine h19 _ a d t1 t2 p1 p2 x lb l3 lp wh lw ld n m i j C1 C2 S v5 v10 H19 n9 (by omega) (q1.same s1619) (q2.same s1619) go (by omega) (by omega) (by omega) (by omega) htg hSb hmS hi hj hlw hld fun H20 s20 => ?_
  have s1620 := s1619.trans s20
  have d20 := d16.same s1620
  have q1 := q1.same s1620
  have q2 := q2.same s1620
  have r1 := r1.same s1620
  have r2 := r2.same s1620
  have htg := htg.same s20
  have hlw := s20 _ _ hlw
  refine h20 _ a d sa t1 t2 p1 p2 x lb l3 lp wh lw ld n m i j C1 C2 S v5 v10 H20 d20 n9 (by omega) q1 q2 go (by omega) (by omega) (by omega) (by omega) r1 r2 htg hSb hmS hi hj hlw (hld.same s20) fun H21 a21 d21 => ?_
  have q1 := q1.aft d20 a21
  have q2 := q2.aft d20 a21
  have r1 := r1.aft d20 a21
  have r2 := r2.aft d20 a21
  have htg : TgH K CP CT H21 x (asOne S) (asOne (rest0 C2 C1)) (asOne (rest0 C1 C2)) (max n m) i j := htg.aft d20 a21
  have hlw : H21 lw = some (.lst (WW.map V.str)) := a21 _ _ (d20.drw.ne hlw strs_nd) hlw
  have hlp : H21 lp = some (.lst pv) := nps_at d20 a21 (s1620 _ _ hlp) (Nps.same s1620 hpv)
  have hpv : RelL (NpV K H21) pv (clR [(C1, n), (C2, m), (C3, n)]) := Nps.aft d20 a21 (Nps.same s1620 hpv)
  have hwh : WhR K CP H21 wh [(C1, n), (C2, m), (C3, n)] m := (hwh.same s1620).aft d20 a21
  have th : ThH K CP H21 l3 [(C1, n), (C2, m), (C3, n)] := (th.same s1620).aft d20 a21
  refine h21 _ a d t1 t2 p1 p2 x lb l3 lp wh lw ld n m i j (max n m) C1 C2 _ _ _ v5 v10 H21 q1 q2 htg hi hj fun H22 s22 => ?_
  refine h22 _ a d t1 t2 p1 p2 x lb l3 lp wh lw ld n m C1 C2 v5 v10 H22 (q1.same s22) (q2.same s22) S1 S2 go fun ag H23 s23 tg2 => ?_
  have s2123 := s22.trans s23
  refine h23 _ a d t1 t2 p1 p2 x lb l3 lp wh lw ld ag n m i j C1 C2 S v5 v10 H23 (htg.same s2123) hSb hmS hi hj tg2 fun H24 s24 => ?_
  have s2124 := s2123.trans s24
  have d24 := d21.same s2124
  have q1 := q1.same s2124
  have q2 := q2.same s2124
  have r1 := r1.same s2124
  have r2 := r2.same s2124
  have htg := htg.same s2124
  refine h24 _ a d sa t1 t2 p1 p2 x lb l3 lp wh lw ld ag n m m C1 C2 C3 pv v5 v10 H24 d24 n9 (by omega) (by omega) r1 r2 (by omega) (by omega) (by omega) (by omega) (by omega) (by omega) (s2124 _ _ hlp) (Nps.same s2124 hpv) (hwh.same s2124) (th.same s2124) (s2124 _ _ hlw) fun H25 a25 d25 => ?_
  have q1 := q1.aft d24 a25
  have q2 := q2.aft d24 a25
  have r1 := r1.aft d24 a25
  have r2 := r2.aft d24 a25
  have htg : TgH K CP CT H25 x (asOne S) (asOne (rest0 C2 C1)) (asOne (rest0 C1 C2)) (max n m) i j := htg.aft d24 a25
  refine h25 _ a d t1 t2 p1 p2 x lb l3 lp wh lw ld ag n m i j C1 C2 S v5 v10 H25 n9 (by omega) q1 q2 go (by omega) (by omega) (by omega) (by omega) r1 r2 htg (fun H' _ => q H') fun H26 s26 => ?_
  exact h26 _ _ H26 (q H26)
end
end P5

end
section
set_option Elab.async false
set_option linter.all false
set_option maxRecDepth 100000
set_option maxHeartbeats 4000000
namespace P5
open PySem PySem.Spec PySem.SeqAt PySem.W PyProof.Rows L2 EN ND
theorem all_mk {l : PySem.W.OpenLaw} {w : World} {K : PySem.W.Frag} {h : Heap} {mg : Str → Option Value} {fa CE CP CT CC CB aN aS : Addr} {f1 f2 f3 f4 f5 f6 f7 f8 f9 f10 f11 f12 f13 f14 f15 f16 f17 f18 f19 f20 f21 f22 f23 f24 f25 f26 f27 f28 f29 f30 f31 f32 f33 f34 f35 f36 f37 f38 f39 f40 f41 f42 f43 f44 : Addr} {od1 an1 od2 an2 od3 an3 od4 an4 od5 an5 od6 an6 od7 an7 od8 an8 od9 an9 od10 an10 od11 an11 od12 an12 od13 an13 od14 an14 od15 an15 od16 an16 od17 an17 od18 an18 od19 an19 od20 an20 od21 an21 od22 an22 od23 an23 od24 an24 od25 an25 od26 an26 od27 an27 od28 an28 od29 an29 od30 an30 od31 an31 od32 an32 od33 an33 od34 an34 od35 an35 od36 an36 od37 an37 od38 an38 od39 an39 od40 an40 od41 an41 od42 an42 od43 an43 od44 an44 dA2 dA3 : Option Addr} {sl1 sl2 sl3 sl4 sl5 sl6 sl7 sl8 sl9 sl10 sl11 sl12 sl13 sl14 sl15 sl16 sl17 sl18 sl19 sl20 sl21 sl22 sl23 sl24 sl25 sl26 sl27 sl28 sl29 sl30 sl31 sl32 sl33 sl34 sl35 sl36 sl37 sl38 sl39 sl40 sl41 sl42 sl43 sl44 sA2 sA3 : Array (Option Value)} {nA2 nA3 : Nat} {tA1 tA2 tA3 tS0 tS1 tS2 tS3 tS4 tS5 tS6 tS7 tS8 tgL tgM : Tok}
    {foI roI : Option Value} {oc1 kV1 dc1 pm1 ct1 cd1 oc2 kV2 dc2 pm2 ct2 cd2 oc3 kV3 dc3 pm3 ct3 cd3 oc4 kV4 dc4 pm4 ct4 cd4 oc5 kV5 dc5 pm5 ct5 cd5 oc6 kV6 dc6 pm6 ct6 cd6 oc7 kV7 dc7 pm7 ct7 cd7 oc8 kV8 dc8 pm8 ct8 cd8 oc9 kV9 dc9 pm9 ct9 cd9 oc10 kV10 dc10 pm10 ct10 cd10 oc11 kV11 dc11 pm11 ct11 cd11 oc12 kV12 dc12 pm12 ct12 cd12 oc13 kV13 dc13 pm13 ct13 cd13 oc14 kV14 dc14 pm14 ct14 cd14 oc15 kV15 dc15 pm15 ct15 cd15 oc16 kV16 dc16 pm16 ct16 cd16 oc17 kV17 dc17 pm17 ct17 cd17 oc18 kV18 dc18 pm18 ct18 cd18 oc19 kV19 dc19 pm19 ct19 cd19 oc20 kV20 dc20 pm20 ct20 cd20 oc21 kV21 dc21 pm21 ct21 cd21 oc22 kV22 dc22 pm22 ct22 cd22 oc23 kV23 dc23 pm23 ct23 cd23 oc24 kV24 dc24 pm24 ct24 cd24 oc25 kV25 dc25 pm25 ct25 cd25 oc26 kV26 dc26 pm26 ct26 cd26 oc27 kV27 dc27 pm27 ct27 cd27 oc28 kV28 dc28 pm28 ct28 cd28 oc29 kV29 dc29 pm29 ct29 cd29 oc30 kV30 dc30 pm30 ct30 cd30 oc31 kV31 dc31 pm31 ct31 cd31 oc32 kV32 dc32 pm32 ct32 cd32 oc33 kV33 dc33 pm33 ct33 cd33 oc34 kV34 dc34 pm34 ct34 cd34 oc35 kV35 dc35 pm35 ct35 cd35 oc36 kV36 dc36 pm36 ct36 cd36 oc37 kV37 dc37 pm37 ct37 cd37 oc38 kV38 dc38 pm38 ct38 cd38 oc39 kV39 dc39 pm39 ct39 cd39 oc40 kV40 dc40 pm40 ct40 cd40 oc41 kV41 dc41 pm41 ct41 cd41 oc42 kV42 dc42 pm42 ct42 cd42 oc43 kV43 dc43 pm43 ct43 cd43 oc44 kV44 dc44 pm44 ct44 cd44 : Value}
    (X : K.In h) (G : h.Ns mainGlobals mg) (hfa : mg "law" = some (.ref fa))
    (a1 : PySem.W.nsIn K mainGlobals "is_small" = some (some (.ref f1)))
    (l1 : K.lookup f1 = some ⟨oc1, od1, .func (PySem.W.fnOf "is_small" "is_small" (defArgs sSmall) (defBody sSmall) (defScope sSmall) .none kV1 dc1 pm1 an1 cd1 ct1), sl1⟩)
    (c1 : PySem.W.codeIn K cd1 "is_small" = true)
    (k1 : PySem.W.keepIn K (.ref f1) = true)
    (a2 : PySem.W.nsIn K mainGlobals "is_word" = some (some (.ref f2)))
    (l2 : K.lookup f2 = some ⟨oc2, od2, .func (PySem.W.fnOf "is_word" "is_word" (defArgs sWord) (defBody sWord) (defScope sWord) .none kV2 dc2 pm2 an2 cd2 ct2), sl2⟩)
    (c2 : PySem.W.codeIn K cd2 "is_word" = true)
    (k2 : PySem.W.keepIn K (.ref f2) = true)
    (a3 : PySem.W.nsIn K mainGlobals "is_whole" = some (some (.ref f3)))
    (l3 : K.lookup f3 = some ⟨oc3, od3, .func (PySem.W.fnOf "is_whole" "is_whole" (defArgs sWhole) (defBody sWhole) (defScope sWhole) .none kV3 dc3 pm3 an3 cd3 ct3), sl3⟩)
    (c3 : PySem.W.codeIn K cd3 "is_whole" = true)
    (k3 : PySem.W.keepIn K (.ref f3) = true)
    (a4 : PySem.W.nsIn K mainGlobals "is_mark" = some (some (.ref f4)))
    (l4 : K.lookup f4 = some ⟨oc4, od4, .func (PySem.W.fnOf "is_mark" "is_mark" (defArgs sMark) (defBody sMark) (defScope sMark) .none kV4 dc4 pm4 an4 cd4 ct4), sl4⟩)
    (c4 : PySem.W.codeIn K cd4 "is_mark" = true)
    (k4 : PySem.W.keepIn K (.ref f4) = true)
    (a5 : PySem.W.nsIn K mainGlobals "checked_words" = some (some (.ref f5)))
    (l5 : K.lookup f5 = some ⟨oc5, od5, .func (PySem.W.fnOf "checked_words" "checked_words" (defArgs sChk) (defBody sChk) (defScope sChk) .none kV5 dc5 pm5 an5 cd5 ct5), sl5⟩)
    (c5 : PySem.W.codeIn K cd5 "checked_words" = true)
    (k5 : PySem.W.keepIn K (.ref f5) = true)
    (a6 : PySem.W.nsIn K mainGlobals "pieces_of" = some (some (.ref f6)))
    (l6 : K.lookup f6 = some ⟨oc6, od6, .func (PySem.W.fnOf "pieces_of" "pieces_of" (defArgs sPof) (defBody sPof) (defScope sPof) .none kV6 dc6 pm6 an6 cd6 ct6), sl6⟩)
    (c6 : PySem.W.codeIn K cd6 "pieces_of" = true)
    (k6 : PySem.W.keepIn K (.ref f6) = true)
    (a7 : PySem.W.nsIn K mainGlobals "edited" = some (some (.ref f7)))
    (l7 : K.lookup f7 = some ⟨oc7, od7, .func (PySem.W.fnOf "edited" "edited" (defArgs sEdited) (defBody sEdited) (defScope sEdited) .none kV7 dc7 pm7 an7 cd7 ct7), sl7⟩)
    (c7 : PySem.W.codeIn K cd7 "edited" = true)
    (k7 : PySem.W.keepIn K (.ref f7) = true)
    (a8 : PySem.W.nsIn K mainGlobals "cut" = some (some (.ref f8)))
    (l8 : K.lookup f8 = some ⟨oc8, od8, .func (PySem.W.fnOf "cut" "cut" (defArgs sCut) (defBody sCut) (defScope sCut) .none kV8 dc8 pm8 an8 cd8 ct8), sl8⟩)
    (c8 : PySem.W.codeIn K cd8 "cut" = true)
    (k8 : PySem.W.keepIn K (.ref f8) = true)
    (a9 : PySem.W.nsIn K mainGlobals "changes_of" = some (some (.ref f9)))
    (l9 : K.lookup f9 = some ⟨oc9, od9, .func (PySem.W.fnOf "changes_of" "changes_of" (defArgs sChg) (defBody sChg) (defScope sChg) .none kV9 dc9 pm9 an9 cd9 ct9), sl9⟩)
    (c9 : PySem.W.codeIn K cd9 "changes_of" = true)
    (k9 : PySem.W.keepIn K (.ref f9) = true)
    (a10 : PySem.W.nsIn K mainGlobals "is_change" = some (some (.ref f10)))
    (l10 : K.lookup f10 = some ⟨oc10, od10, .func (PySem.W.fnOf "is_change" "is_change" (defArgs sIsCh) (defBody sIsCh) (defScope sIsCh) .none kV10 dc10 pm10 an10 cd10 ct10), sl10⟩)
    (c10 : PySem.W.codeIn K cd10 "is_change" = true)
    (k10 : PySem.W.keepIn K (.ref f10) = true)
    (a11 : PySem.W.nsIn K mainGlobals "growth_of" = some (some (.ref f11)))
    (l11 : K.lookup f11 = some ⟨oc11, od11, .func (PySem.W.fnOf "growth_of" "growth_of" (defArgs sGof) (defBody sGof) (defScope sGof) .none kV11 dc11 pm11 an11 cd11 ct11), sl11⟩)
    (c11 : PySem.W.codeIn K cd11 "growth_of" = true)
    (k11 : PySem.W.keepIn K (.ref f11) = true)
    (a12 : PySem.W.nsIn K mainGlobals "check_patches" = some (some (.ref f12)))
    (l12 : K.lookup f12 = some ⟨oc12, od12, .func (PySem.W.fnOf "check_patches" "check_patches" (defArgs sChkP) (defBody sChkP) (defScope sChkP) .none kV12 dc12 pm12 an12 cd12 ct12), sl12⟩)
    (c12 : PySem.W.codeIn K cd12 "check_patches" = true)
    (k12 : PySem.W.keepIn K (.ref f12) = true)
    (a13 : PySem.W.nsIn K mainGlobals "behind" = some (some (.ref f13)))
    (l13 : K.lookup f13 = some ⟨oc13, od13, .func (PySem.W.fnOf "behind" "behind" (defArgs sBehind) (defBody sBehind) (defScope sBehind) .none kV13 dc13 pm13 an13 cd13 ct13), sl13⟩)
    (c13 : PySem.W.codeIn K cd13 "behind" = true)
    (k13 : PySem.W.keepIn K (.ref f13) = true)
    (a14 : PySem.W.nsIn K mainGlobals "copied" = some (some (.ref f14)))
    (l14 : K.lookup f14 = some ⟨oc14, od14, .func (PySem.W.fnOf "copied" "copied" (defArgs sCop) (defBody sCop) (defScope sCop) .none kV14 dc14 pm14 an14 cd14 ct14), sl14⟩)
    (c14 : PySem.W.codeIn K cd14 "copied" = true)
    (k14 : PySem.W.keepIn K (.ref f14) = true)
    (a15 : PySem.W.nsIn K mainGlobals "carried" = some (some (.ref f15)))
    (l15 : K.lookup f15 = some ⟨oc15, od15, .func (PySem.W.fnOf "carried" "carried" (defArgs sCar) (defBody sCar) (defScope sCar) .none kV15 dc15 pm15 an15 cd15 ct15), sl15⟩)
    (c15 : PySem.W.codeIn K cd15 "carried" = true)
    (k15 : PySem.W.keepIn K (.ref f15) = true)
    (a16 : PySem.W.nsIn K mainGlobals "go_together" = some (some (.ref f16)))
    (l16 : K.lookup f16 = some ⟨oc16, od16, .func (PySem.W.fnOf "go_together" "go_together" (defArgs sGoT) (defBody sGoT) (defScope sGoT) .none kV16 dc16 pm16 an16 cd16 ct16), sl16⟩)
    (c16 : PySem.W.codeIn K cd16 "go_together" = true)
    (k16 : PySem.W.keepIn K (.ref f16) = true)
    (a17 : PySem.W.nsIn K mainGlobals "as_one" = some (some (.ref f17)))
    (l17 : K.lookup f17 = some ⟨oc17, od17, .func (PySem.W.fnOf "as_one" "as_one" (defArgs sAsO) (defBody sAsO) (defScope sAsO) .none kV17 dc17 pm17 an17 cd17 ct17), sl17⟩)
    (c17 : PySem.W.codeIn K cd17 "as_one" = true)
    (k17 : PySem.W.keepIn K (.ref f17) = true)
    (a18 : PySem.W.nsIn K mainGlobals "rest_behind" = some (some (.ref f18)))
    (l18 : K.lookup f18 = some ⟨oc18, od18, .func (PySem.W.fnOf "rest_behind" "rest_behind" (defArgs sRb) (defBody sRb) (defScope sRb) .none kV18 dc18 pm18 an18 cd18 ct18), sl18⟩)
    (c18 : PySem.W.codeIn K cd18 "rest_behind" = true)
    (k18 : PySem.W.keepIn K (.ref f18) = true)
    (a19 : PySem.W.nsIn K mainGlobals "all_of" = some (some (.ref f19)))
    (l19 : K.lookup f19 = some ⟨oc19, od19, .func (PySem.W.fnOf "all_of" "all_of" (defArgs sAll) (defBody sAll) (defScope sAll) .none kV19 dc19 pm19 an19 cd19 ct19), sl19⟩)
    (c19 : PySem.W.codeIn K cd19 "all_of" = true)
    (k19 : PySem.W.keepIn K (.ref f19) = true)
    (a20 : PySem.W.nsIn K mainGlobals "together" = some (some (.ref f20)))
    (l20 : K.lookup f20 = some ⟨oc20, od20, .func (PySem.W.fnOf "together" "together" (defArgs sTo) (defBody sTo) (defScope sTo) .none kV20 dc20 pm20 an20 cd20 ct20), sl20⟩)
    (c20 : PySem.W.codeIn K cd20 "together" = true)
    (k20 : PySem.W.keepIn K (.ref f20) = true)
    (a21 : PySem.W.nsIn K mainGlobals "all_together" = some (some (.ref f21)))
    (l21 : K.lookup f21 = some ⟨oc21, od21, .func (PySem.W.fnOf "all_together" "all_together" (defArgs sAt) (defBody sAt) (defScope sAt) .none kV21 dc21 pm21 an21 cd21 ct21), sl21⟩)
    (c21 : PySem.W.codeIn K cd21 "all_together" = true)
    (k21 : PySem.W.keepIn K (.ref f21) = true)
    (a22 : PySem.W.nsIn K mainGlobals "_law_cell_at" = some (some (.ref f22)))
    (l22 : K.lookup f22 = some ⟨oc22, od22, .func (PySem.W.fnOf "_law_cell_at" "_law_cell_at" (defArgs sCell) (defBody sCell) (defScope sCell) .none kV22 dc22 pm22 an22 cd22 ct22), sl22⟩)
    (c22 : PySem.W.codeIn K cd22 "_law_cell_at" = true)
    (k22 : PySem.W.keepIn K (.ref f22) = true)
    (a23 : PySem.W.nsIn K mainGlobals "_law_draw" = some (some (.ref f23)))
    (l23 : K.lookup f23 = some ⟨oc23, od23, .func (PySem.W.fnOf "_law_draw" "_law_draw" (defArgs sDraw) (defBody sDraw) (defScope sDraw) .none kV23 dc23 pm23 an23 cd23 ct23), sl23⟩)
    (c23 : PySem.W.codeIn K cd23 "_law_draw" = true)
    (k23 : PySem.W.keepIn K (.ref f23) = true)
    (a24 : PySem.W.nsIn K mainGlobals "_law_number" = some (some (.ref f24)))
    (l24 : K.lookup f24 = some ⟨oc24, od24, .func (PySem.W.fnOf "_law_number" "_law_number" (defArgs sNum) (defBody sNum) (defScope sNum) .none kV24 dc24 pm24 an24 cd24 ct24), sl24⟩)
    (c24 : PySem.W.codeIn K cd24 "_law_number" = true)
    (k24 : PySem.W.keepIn K (.ref f24) = true)
    (a25 : PySem.W.nsIn K mainGlobals "_law_next" = some (some (.ref f25)))
    (l25 : K.lookup f25 = some ⟨oc25, od25, .func (PySem.W.fnOf "_law_next" "_law_next" (defArgs sNext) (defBody sNext) (defScope sNext) .none kV25 dc25 pm25 an25 cd25 ct25), sl25⟩)
    (c25 : PySem.W.codeIn K cd25 "_law_next" = true)
    (k25 : PySem.W.keepIn K (.ref f25) = true)
    (a26 : PySem.W.nsIn K mainGlobals "_law_pick" = some (some (.ref f26)))
    (l26 : K.lookup f26 = some ⟨oc26, od26, .func (PySem.W.fnOf "_law_pick" "_law_pick" (defArgs sPick) (defBody sPick) (defScope sPick) .none kV26 dc26 pm26 an26 cd26 ct26), sl26⟩)
    (c26 : PySem.W.codeIn K cd26 "_law_pick" = true)
    (k26 : PySem.W.keepIn K (.ref f26) = true)
    (a27 : PySem.W.nsIn K mainGlobals "_law_words" = some (some (.ref f27)))
    (l27 : K.lookup f27 = some ⟨oc27, od27, .func (PySem.W.fnOf "_law_words" "_law_words" (defArgs sWds) (defBody sWds) (defScope sWds) .none kV27 dc27 pm27 an27 cd27 ct27), sl27⟩)
    (c27 : PySem.W.codeIn K cd27 "_law_words" = true)
    (k27 : PySem.W.keepIn K (.ref f27) = true)
    (a28 : PySem.W.nsIn K mainGlobals "_law_changes" = some (some (.ref f28)))
    (l28 : K.lookup f28 = some ⟨oc28, od28, .func (PySem.W.fnOf "_law_changes" "_law_changes" (defArgs sLch) (defBody sLch) (defScope sLch) .none kV28 dc28 pm28 an28 cd28 ct28), sl28⟩)
    (c28 : PySem.W.codeIn K cd28 "_law_changes" = true)
    (k28 : PySem.W.keepIn K (.ref f28) = true)
    (a29 : PySem.W.nsIn K mainGlobals "_law_fit" = some (some (.ref f29)))
    (l29 : K.lookup f29 = some ⟨oc29, od29, .func (PySem.W.fnOf "_law_fit" "_law_fit" (defArgs sFitL) (defBody sFitL) (defScope sFitL) .none kV29 dc29 pm29 an29 cd29 ct29), sl29⟩)
    (c29 : PySem.W.codeIn K cd29 "_law_fit" = true)
    (k29 : PySem.W.keepIn K (.ref f29) = true)
    (a30 : PySem.W.nsIn K mainGlobals "_law_weave" = some (some (.ref f30)))
    (l30 : K.lookup f30 = some ⟨oc30, od30, .func (PySem.W.fnOf "_law_weave" "_law_weave" (defArgs sWv) (defBody sWv) (defScope sWv) .none kV30 dc30 pm30 an30 cd30 ct30), sl30⟩)
    (c30 : PySem.W.codeIn K cd30 "_law_weave" = true)
    (k30 : PySem.W.keepIn K (.ref f30) = true)
    (a31 : PySem.W.nsIn K mainGlobals "law" = some (some (.ref f31)))
    (l31 : K.lookup f31 = some ⟨oc31, od31, .func (PySem.W.fnOf "law" "law" (defArgs sLw) (defBody sLw) (defScope sLw) .none kV31 dc31 pm31 an31 cd31 ct31), sl31⟩)
    (c31 : PySem.W.codeIn K cd31 "law" = true)
    (k31 : PySem.W.keepIn K (.ref f31) = true)
    (a32 : PySem.W.findIn K (.ref CE) "__init__" = some (some (.ref f32)))
    (i32 : PySem.W.isFn K (.ref f32) = true)
    (l32 : K.lookup f32 = some ⟨oc32, od32, .func (PySem.W.fnOf "__init__" "Edit.__init__" (defArgs sInit) (defBody sInit) (defScope sInit) .none kV32 dc32 pm32 an32 cd32 ct32), sl32⟩)
    (c32 : PySem.W.codeIn K cd32 "Edit.__init__" = true)
    (k32 : PySem.W.keepIn K (.ref f32) = true)
    (a33 : PySem.W.findIn K (.ref CE) "growth" = some (some (.ref f33)))
    (i33 : PySem.W.isFn K (.ref f33) = true)
    (l33 : K.lookup f33 = some ⟨oc33, od33, .func (PySem.W.fnOf "growth" "Edit.growth" (defArgs sGrow) (defBody sGrow) (defScope sGrow) .none kV33 dc33 pm33 an33 cd33 ct33), sl33⟩)
    (c33 : PySem.W.codeIn K cd33 "Edit.growth" = true)
    (k33 : PySem.W.keepIn K (.ref f33) = true)
    (a34 : PySem.W.findIn K (.ref CE) "__add__" = some (some (.ref f34)))
    (i34 : PySem.W.isFn K (.ref f34) = true)
    (l34 : K.lookup f34 = some ⟨oc34, od34, .func (PySem.W.fnOf "__add__" "Edit.__add__" (defArgs sAddM) (defBody sAddM) (defScope sAddM) .none kV34 dc34 pm34 an34 cd34 ct34), sl34⟩)
    (c34 : PySem.W.codeIn K cd34 "Edit.__add__" = true)
    (k34 : PySem.W.keepIn K (.ref f34) = true)
    (a35 : PySem.W.findIn K (.ref CP) "__init__" = some (some (.ref f35)))
    (i35 : PySem.W.isFn K (.ref f35) = true)
    (l35 : K.lookup f35 = some ⟨oc35, od35, .func (PySem.W.fnOf "__init__" "Patch.__init__" (defArgs sPInit) (defBody sPInit) (defScope sPInit) .none kV35 dc35 pm35 an35 cd35 ct35), sl35⟩)
    (c35 : PySem.W.codeIn K cd35 "Patch.__init__" = true)
    (k35 : PySem.W.keepIn K (.ref f35) = true)
    (a36 : PySem.W.findIn K (.ref CP) "__eq__" = some (some (.ref f36)))
    (i36 : PySem.W.isFn K (.ref f36) = true)
    (l36 : K.lookup f36 = some ⟨oc36, od36, .func (PySem.W.fnOf "__eq__" "Patch.__eq__" (defArgs sPEq) (defBody sPEq) (defScope sPEq) .none kV36 dc36 pm36 an36 cd36 ct36), sl36⟩)
    (c36 : PySem.W.codeIn K cd36 "Patch.__eq__" = true)
    (k36 : PySem.W.keepIn K (.ref f36) = true)
    (a37 : PySem.W.findIn K (.ref CP) "__call__" = some (some (.ref f37)))
    (i37 : PySem.W.isFn K (.ref f37) = true)
    (l37 : K.lookup f37 = some ⟨oc37, od37, .func (PySem.W.fnOf "__call__" "Patch.__call__" (defArgs sPCall) (defBody sPCall) (defScope sPCall) .none kV37 dc37 pm37 an37 cd37 ct37), sl37⟩)
    (c37 : PySem.W.codeIn K cd37 "Patch.__call__" = true)
    (k37 : PySem.W.keepIn K (.ref f37) = true)
    (a38 : PySem.W.findIn K (.ref CP) "growth" = some (some (.ref f38)))
    (i38 : PySem.W.isFn K (.ref f38) = true)
    (l38 : K.lookup f38 = some ⟨oc38, od38, .func (PySem.W.fnOf "growth" "Patch.growth" (defArgs sPGrow) (defBody sPGrow) (defScope sPGrow) .none kV38 dc38 pm38 an38 cd38 ct38), sl38⟩)
    (c38 : PySem.W.codeIn K cd38 "Patch.growth" = true)
    (k38 : PySem.W.keepIn K (.ref f38) = true)
    (a39 : PySem.W.findIn K (.ref CT) "__init__" = some (some (.ref f39)))
    (i39 : PySem.W.isFn K (.ref f39) = true)
    (l39 : K.lookup f39 = some ⟨oc39, od39, .func (PySem.W.fnOf "__init__" "Together.__init__" (defArgs sTIni) (defBody sTIni) (defScope sTIni) .none kV39 dc39 pm39 an39 cd39 ct39), sl39⟩)
    (c39 : PySem.W.codeIn K cd39 "Together.__init__" = true)
    (k39 : PySem.W.keepIn K (.ref f39) = true)
    (a40 : PySem.W.findIn K (.ref CT) "__eq__" = some (some (.ref f40)))
    (i40 : PySem.W.isFn K (.ref f40) = true)
    (l40 : K.lookup f40 = some ⟨oc40, od40, .func (PySem.W.fnOf "__eq__" "Together.__eq__" (defArgs sTEq) (defBody sTEq) (defScope sTEq) .none kV40 dc40 pm40 an40 cd40 ct40), sl40⟩)
    (c40 : PySem.W.codeIn K cd40 "Together.__eq__" = true)
    (k40 : PySem.W.keepIn K (.ref f40) = true)
    (a41 : PySem.W.findIn K (.ref CT) "__bool__" = some (some (.ref f41)))
    (i41 : PySem.W.isFn K (.ref f41) = true)
    (l41 : K.lookup f41 = some ⟨oc41, od41, .func (PySem.W.fnOf "__bool__" "Together.__bool__" (defArgs sTBool) (defBody sTBool) (defScope sTBool) .none kV41 dc41 pm41 an41 cd41 ct41), sl41⟩)
    (c41 : PySem.W.codeIn K cd41 "Together.__bool__" = true)
    (k41 : PySem.W.keepIn K (.ref f41) = true)
    (a42 : PySem.W.findIn K (.ref CC) "__init__" = some (some (.ref f42)))
    (i42 : PySem.W.isFn K (.ref f42) = true)
    (l42 : K.lookup f42 = some ⟨oc42, od42, .func (PySem.W.fnOf "__init__" "Clash.__init__" (defArgs sCIni) (defBody sCIni) (defScope sCIni) .none kV42 dc42 pm42 an42 cd42 ct42), sl42⟩)
    (c42 : PySem.W.codeIn K cd42 "Clash.__init__" = true)
    (k42 : PySem.W.keepIn K (.ref f42) = true)
    (a43 : PySem.W.findIn K (.ref CC) "__eq__" = some (some (.ref f43)))
    (i43 : PySem.W.isFn K (.ref f43) = true)
    (l43 : K.lookup f43 = some ⟨oc43, od43, .func (PySem.W.fnOf "__eq__" "Clash.__eq__" (defArgs sCEq) (defBody sCEq) (defScope sCEq) .none kV43 dc43 pm43 an43 cd43 ct43), sl43⟩)
    (c43 : PySem.W.codeIn K cd43 "Clash.__eq__" = true)
    (k43 : PySem.W.keepIn K (.ref f43) = true)
    (a44 : PySem.W.findIn K (.ref CC) "__bool__" = some (some (.ref f44)))
    (i44 : PySem.W.isFn K (.ref f44) = true)
    (l44 : K.lookup f44 = some ⟨oc44, od44, .func (PySem.W.fnOf "__bool__" "Clash.__bool__" (defArgs sCBool) (defBody sCBool) (defScope sCBool) .none kV44 dc44 pm44 an44 cd44 ct44), sl44⟩)
    (c44 : PySem.W.codeIn K cd44 "Clash.__bool__" = true)
    (k44 : PySem.W.keepIn K (.ref f44) = true)
    (aCE : PySem.W.nsIn K mainGlobals "Edit" = some (some (.ref CE)))
    (pgE : PySem.W.plainGet K CE Str.empty = true)
    (hdE : PySem.W.hasDictIn K CE = true)
    (poE : PySem.W.plainOver K CE = true)
    (saE : PySem.W.findIn K (.ref CE) "__setattr__" = some (some (.builtin "object.__setattr__")))
    (mkE : PySem.W.makesIn K CE = true)
    (kcE : PySem.W.keepIn K (.ref CE) = true)
    (nF : PySem.W.findIn K (.ref CE) "first" = some none)
    (nL : PySem.W.findIn K (.ref CE) "last" = some none)
    (nW : PySem.W.findIn K (.ref CE) "words" = some none)
    (aCP : PySem.W.nsIn K mainGlobals "Patch" = some (some (.ref CP)))
    (pgP : PySem.W.plainGet K CP Str.empty = true)
    (hdP : PySem.W.hasDictIn K CP = true)
    (poP : PySem.W.plainOver K CP = true)
    (saP : PySem.W.findIn K (.ref CP) "__setattr__" = some (some (.builtin "object.__setattr__")))
    (mkP : PySem.W.makesIn K CP = true)
    (kcP : PySem.W.keepIn K (.ref CP) = true)
    (nPC : PySem.W.findIn K (.ref CP) "changes" = some none)
    (nPL : PySem.W.findIn K (.ref CP) "least" = some none)
    (rhaP : PySem.W.findIn K (.ref CP) "__class__" = some (some (.builtin "object.__class__")))
    (rhmP : PySem.W.mroIn K CP (.type "object") = some true)
    (rkitP : PySem.W.kitOne K (.ref CP) (.ref CP) = some true)
    (neP : PySem.W.findIn K (.ref CP) "__ne__" = some (some (.builtin "object.__ne__")))
    (obP : PySem.W.subIn K (.ref CP) (.type "object") = some true)
    (aCT : PySem.W.nsIn K mainGlobals "Together" = some (some (.ref CT)))
    (pgT : PySem.W.plainGet K CT Str.empty = true)
    (hdT : PySem.W.hasDictIn K CT = true)
    (poT : PySem.W.plainOver K CT = true)
    (saT : PySem.W.findIn K (.ref CT) "__setattr__" = some (some (.builtin "object.__setattr__")))
    (mkT : PySem.W.makesIn K CT = true)
    (kcT : PySem.W.keepIn K (.ref CT) = true)
    (nTW : PySem.W.findIn K (.ref CT) "whole" = some none)
    (nTO : PySem.W.findIn K (.ref CT) "one" = some none)
    (nTR : PySem.W.findIn K (.ref CT) "other" = some none)
    (rhaT : PySem.W.findIn K (.ref CT) "__class__" = some (some (.builtin "object.__class__")))
    (rhmT : PySem.W.mroIn K CT (.type "object") = some true)
    (rkitT : PySem.W.kitOne K (.ref CT) (.ref CT) = some true)
    (neT : PySem.W.findIn K (.ref CT) "__ne__" = some (some (.builtin "object.__ne__")))
    (obT : PySem.W.subIn K (.ref CT) (.type "object") = some true)
    (aCC : PySem.W.nsIn K mainGlobals "Clash" = some (some (.ref CC)))
    (pgC : PySem.W.plainGet K CC Str.empty = true)
    (hdC : PySem.W.hasDictIn K CC = true)
    (poC : PySem.W.plainOver K CC = true)
    (saC : PySem.W.findIn K (.ref CC) "__setattr__" = some (some (.builtin "object.__setattr__")))
    (mkC : PySem.W.makesIn K CC = true)
    (kcC : PySem.W.keepIn K (.ref CC) = true)
    (nCO : PySem.W.findIn K (.ref CC) "one" = some none)
    (nCR : PySem.W.findIn K (.ref CC) "other" = some none)
    (rhaC : PySem.W.findIn K (.ref CC) "__class__" = some (some (.builtin "object.__class__")))
    (rhmC : PySem.W.mroIn K CC (.type "object") = some true)
    (rkitC : PySem.W.kitOne K (.ref CC) (.ref CC) = some true)
    (neC : PySem.W.findIn K (.ref CC) "__ne__" = some (some (.builtin "object.__ne__")))
    (obC : PySem.W.subIn K (.ref CC) (.type "object") = some true)
    (kf : PySem.W.kitOne K (.ref CC) (.ref CT) = some false)
    (rhn : PySem.W.specialIn K (.builtin "object.__class__") "__get__" = some (some (.builtin "getset_descriptor.__get__")))
    (rht : PySem.W.takesIn K (.builtin "object.__class__") = some true)
    (fnI : PySem.W.fnIn K f37 = true)
    (aCB : PySem.W.nsIn K mainGlobals "BadEdit" = some (some (.ref CB)))
    (xCB : PySem.W.excIn K CB [.type "ValueError", .type "Exception", .type "BaseException", .type "object"] "ValueError.__new__" = true)
    (kCB : PySem.W.keepIn K (.ref CB) = true)
    (bCB : PySem.W.subIn K (.ref CB) (.type "BaseException") = some true)
    (tCB : PySem.W.typeIn K (.ref CB) = some (.type "type"))
    (asf : PySem.W.selfFirst K CE = true)
    (aR : PySem.W.findIn K (.ref CE) "__radd__" = some none)
    (ia : PySem.W.findIn K (.type "int") "__add__" = some foI)
    (ir : PySem.W.findIn K (.type "int") "__radd__" = some roI)
    (isb : PySem.W.subIn K (.type "int") (.ref CE) = some false)
    (gN : PySem.W.nsIn K mainGlobals "NO_WORDS" = some (some (.ref aN)))
    (oN : K.lookup aN = some ⟨.type "tuple", dA2, .seq #[.str "any" tA1, .str "give" tA2, .str "let" tA3] nA2, sA2⟩)
    (gS : PySem.W.nsIn K mainGlobals "SIGNS" = some (some (.ref aS)))
    (oS : K.lookup aS = some ⟨.type "tuple", dA3, .seq #[.str "=" tS0, .str ";" tS1, .str "(" tS2, .str ")" tS3, .str "{" tS4, .str "}" tS5, .str "," tS6, .str ":" tS7, .str "." tS8] nA3, sA3⟩)
    (gL : PySem.W.nsIn K mainGlobals "LONGEST" = some (some (.int 10 tgL)))
    (gM : PySem.W.nsIn K mainGlobals "MOST_WORDS" = some (some (.int 200 tgM)))
    (z_len : PySem.W.nsIn K mainGlobals "len" = some none)
    (z_all : PySem.W.nsIn K mainGlobals "all" = some none)
    (z_isinstance : PySem.W.nsIn K mainGlobals "isinstance" = some none)
    (z_str : PySem.W.nsIn K mainGlobals "str" = some none)
    (z_tuple : PySem.W.nsIn K mainGlobals "tuple" = some none)
    (z_list : PySem.W.nsIn K mainGlobals "list" = some none)
    (z_int : PySem.W.nsIn K mainGlobals "int" = some none)
    (z_bool : PySem.W.nsIn K mainGlobals "bool" = some none)
    (z_min : PySem.W.nsIn K mainGlobals "min" = some none)
    (z_range : PySem.W.nsIn K mainGlobals "range" = some none)
    (z_enumerate : PySem.W.nsIn K mainGlobals "enumerate" = some none)
    (z_max : PySem.W.nsIn K mainGlobals "max" = some none)
    (z_sum : PySem.W.nsIn K mainGlobals "sum" = some none)
    (z_zip : PySem.W.nsIn K mainGlobals "zip" = some none)
    (z_sorted : PySem.W.nsIn K mainGlobals "sorted" = some none)
    (z_set : PySem.W.nsIn K mainGlobals "set" = some none)
    : ∃ fd : FuncData, (∀ (s : Shared) (v : Value), BindsTo s fd ⟨[v], []⟩ [("script", v)]) ∧ ∀ base : Heap, K.In base → base.Ns mainGlobals mg → FnOk l.prog w K mg base CX0 23 fa fd ["script"] (spLawH K) := by
  have e := hfa.symm.trans (PySem.W.mg_of X G a31)
  cases e
  have F1 := fun_mk (st := sSmall) l1 c1 k1
  have F2 := fun_mk (st := sWord) l2 c2 k2
  have F3 := fun_mk (st := sWhole) l3 c3 k3
  have F4 := fun_mk (st := sMark) l4 c4 k4
  have F5 := fun_mk (st := sChk) l5 c5 k5
  have F6 := fun_mk (st := sPof) l6 c6 k6
  have F7 := fun_mk (st := sEdited) l7 c7 k7
  have F8 := fun_mk (st := sCut) l8 c8 k8
  have F9 := fun_mk (st := sChg) l9 c9 k9
  have F10 := fun_mk (st := sIsCh) l10 c10 k10
  have F11 := fun_mk (st := sGof) l11 c11 k11
  have F12 := fun_mk (st := sChkP) l12 c12 k12
  have F13 := fun_mk (st := sBehind) l13 c13 k13
  have F14 := fun_mk (st := sCop) l14 c14 k14
  have F15 := fun_mk (st := sCar) l15 c15 k15
  have F16 := fun_mk (st := sGoT) l16 c16 k16
  have F17 := fun_mk (st := sAsO) l17 c17 k17
  have F18 := fun_mk (st := sRb) l18 c18 k18
  have F19 := fun_mk (st := sAll) l19 c19 k19
  have F20 := fun_mk (st := sTo) l20 c20 k20
  have F21 := fun_mk (st := sAt) l21 c21 k21
  have F22 := fun_mk (st := sCell) l22 c22 k22
  have F23 := fun_mk (st := sDraw) l23 c23 k23
  have F24 := fun_mk (st := sNum) l24 c24 k24
  have F25 := fun_mk (st := sNext) l25 c25 k25
  have F26 := fun_mk (st := sPick) l26 c26 k26
  have F27 := fun_mk (st := sWds) l27 c27 k27
  have F28 := fun_mk (st := sLch) l28 c28 k28
  have F29 := fun_mk (st := sFitL) l29 c29 k29
  have F30 := fun_mk (st := sWv) l30 c30 k30
  have F31 := fun_mk (st := sLw) l31 c31 k31
  have F32 := fun_mk (st := sInit) l32 c32 k32
  have F33 := fun_mk (st := sGrow) l33 c33 k33
  have F34 := fun_mk (st := sAddM) l34 c34 k34
  have F35 := fun_mk (st := sPInit) l35 c35 k35
  have F36 := fun_mk (st := sPEq) l36 c36 k36
  have F37 := fun_mk (st := sPCall) l37 c37 k37
  have F38 := fun_mk (st := sPGrow) l38 c38 k38
  have F39 := fun_mk (st := sTIni) l39 c39 k39
  have F40 := fun_mk (st := sTEq) l40 c40 k40
  have F41 := fun_mk (st := sTBool) l41 c41 k41
  have F42 := fun_mk (st := sCIni) l42 c42 k42
  have F43 := fun_mk (st := sCEq) l43 c43 k43
  have F44 := fun_mk (st := sCBool) l44 c44 k44
  have b1 := F1.binds (ps := ["letter"]) fun _ _ _ _ _ _ us hl => match us, hl with | [_], _ => rfl
  have b2 := F2.binds (ps := ["thing"]) fun _ _ _ _ _ _ us hl => match us, hl with | [_], _ => rfl
  have b3 := F3.binds (ps := ["thing"]) fun _ _ _ _ _ _ us hl => match us, hl with | [_], _ => rfl
  have b4 := F4.binds (ps := ["thing"]) fun _ _ _ _ _ _ us hl => match us, hl with | [_], _ => rfl
  have b5 := F5.binds (ps := ["words"]) fun _ _ _ _ _ _ us hl => match us, hl with | [_], _ => rfl
  have b6 := F6.binds (ps := ["changes"]) fun _ _ _ _ _ _ us hl => match us, hl with | [_], _ => rfl
  have b7 := F7.binds (ps := ["pieces", "first", "last", "words"]) fun _ _ _ _ _ _ us hl => match us, hl with | [_, _, _, _], _ => rfl
  have b8 := F8.binds (ps := ["pieces", "place"]) fun _ _ _ _ _ _ us hl => match us, hl with | [_, _], _ => rfl
  have b9 := F9.binds (ps := ["pieces"]) fun _ _ _ _ _ _ us hl => match us, hl with | [_], _ => rfl
  have b10 := F10.binds (ps := ["thing"]) fun _ _ _ _ _ _ us hl => match us, hl with | [_], _ => rfl
  have b11 := F11.binds (ps := ["change"]) fun _ _ _ _ _ _ us hl => match us, hl with | [_], _ => rfl
  have b12 := F12.binds (ps := ["patches"]) fun _ _ _ _ _ _ us hl => match us, hl with | [_], _ => rfl
  have b13 := F13.binds (ps := ["one", "other"]) fun _ _ _ _ _ _ us hl => match us, hl with | [_, _], _ => rfl
  have b14 := F14.binds (ps := ["told"]) fun _ _ _ _ _ _ us hl => match us, hl with | [_], _ => rfl
  have b15 := F15.binds (ps := ["one", "other"]) fun _ _ _ _ _ _ us hl => match us, hl with | [_, _], _ => rfl
  have b16 := F16.binds (ps := ["one", "other"]) fun _ _ _ _ _ _ us hl => match us, hl with | [_, _], _ => rfl
  have b17 := F17.binds (ps := ["changes"]) fun _ _ _ _ _ _ us hl => match us, hl with | [_], _ => rfl
  have b18 := F18.binds (ps := ["one", "other"]) fun _ _ _ _ _ _ us hl => match us, hl with | [_, _], _ => rfl
  have b19 := F19.binds (ps := ["patches"]) fun _ _ _ _ _ _ us hl => match us, hl with | [_], _ => rfl
  have b20 := F20.binds (ps := ["one", "other"]) fun _ _ _ _ _ _ us hl => match us, hl with | [_, _], _ => rfl
  have b21 := F21.binds (ps := ["patches"]) fun _ _ _ _ _ _ us hl => match us, hl with | [_], _ => rfl
  have b22 := F22.binds (ps := ["script", "k"]) fun _ _ _ _ _ _ us hl => match us, hl with | [_, _], _ => rfl
  have b23 := F23.binds (ps := ["cell", "k", "bound"]) fun _ _ _ _ _ _ us hl => match us, hl with | [_, _, _], _ => rfl
  have b24 := F24.binds (ps := ["cell", "k", "bound"]) fun _ _ _ _ _ _ us hl => match us, hl with | [_, _, _], _ => rfl
  have b25 := F25.binds (ps := ["draw", "bound"]) fun _ _ _ _ _ _ us hl => match us, hl with | [_, _], _ => rfl
  have b26 := F26.binds (ps := ["draw", "things"]) fun _ _ _ _ _ _ us hl => match us, hl with | [_, _], _ => rfl
  have b27 := F27.binds (ps := ["draw", "many"]) fun _ _ _ _ _ _ us hl => match us, hl with | [_, _], _ => rfl
  have b28 := F28.binds (ps := ["draw", "many"]) fun _ _ _ _ _ _ us hl => match us, hl with | [_, _], _ => rfl
  have b29 := F29.binds (ps := ["one", "other"]) fun _ _ _ _ _ _ us hl => match us, hl with | [_, _], _ => rfl
  have b30 := F30.binds (ps := ["draw", "changes", "words"]) fun _ _ _ _ _ _ us hl => match us, hl with | [_, _, _], _ => rfl
  have b32 := F32.binds (ps := ["self", "first", "last", "words"]) fun _ _ _ _ _ _ us hl => match us, hl with | [_, _, _, _], _ => rfl
  have b33 := F33.binds (ps := ["self"]) fun _ _ _ _ _ _ us hl => match us, hl with | [_], _ => rfl
  have b34 := F34.binds (ps := ["self", "other"]) fun _ _ _ _ _ _ us hl => match us, hl with | [_, _], _ => rfl
  have b35 := F35.binds (ps := ["self", "changes", "least"]) fun _ _ _ _ _ _ us hl => match us, hl with | [_, _, _], _ => rfl
  have b36 := F36.binds (ps := ["self", "other"]) fun _ _ _ _ _ _ us hl => match us, hl with | [_, _], _ => rfl
  have b37 := F37.binds (ps := ["self", "words"]) fun _ _ _ _ _ _ us hl => match us, hl with | [_, _], _ => rfl
  have b38 := F38.binds (ps := ["self"]) fun _ _ _ _ _ _ us hl => match us, hl with | [_], _ => rfl
  have b39 := F39.binds (ps := ["self", "whole", "one", "other"]) fun _ _ _ _ _ _ us hl => match us, hl with | [_, _, _, _], _ => rfl
  have b40 := F40.binds (ps := ["self", "other"]) fun _ _ _ _ _ _ us hl => match us, hl with | [_, _], _ => rfl
  have b41 := F41.binds (ps := ["self"]) fun _ _ _ _ _ _ us hl => match us, hl with | [_], _ => rfl
  have b42 := F42.binds (ps := ["self", "one", "other"]) fun _ _ _ _ _ _ us hl => match us, hl with | [_, _, _], _ => rfl
  have b43 := F43.binds (ps := ["self", "other"]) fun _ _ _ _ _ _ us hl => match us, hl with | [_, _], _ => rfl
  have b44 := F44.binds (ps := ["self"]) fun _ _ _ _ _ _ us hl => match us, hl with | [_], _ => rfl
  have m1 := PySem.W.mg_of X G a1
  have m2 := PySem.W.mg_of X G a2
  have m3 := PySem.W.mg_of X G a3
  have m4 := PySem.W.mg_of X G a4
  have m5 := PySem.W.mg_of X G a5
  have m6 := PySem.W.mg_of X G a6
  have m7 := PySem.W.mg_of X G a7
  have m8 := PySem.W.mg_of X G a8
  have m9 := PySem.W.mg_of X G a9
  have m10 := PySem.W.mg_of X G a10
  have m11 := PySem.W.mg_of X G a11
  have m12 := PySem.W.mg_of X G a12
  have m13 := PySem.W.mg_of X G a13
  have m14 := PySem.W.mg_of X G a14
  have m15 := PySem.W.mg_of X G a15
  have m16 := PySem.W.mg_of X G a16
  have m17 := PySem.W.mg_of X G a17
  have m18 := PySem.W.mg_of X G a18
  have m19 := PySem.W.mg_of X G a19
  have m20 := PySem.W.mg_of X G a20
  have m21 := PySem.W.mg_of X G a21
  have m22 := PySem.W.mg_of X G a22
  have m23 := PySem.W.mg_of X G a23
  have m24 := PySem.W.mg_of X G a24
  have m25 := PySem.W.mg_of X G a25
  have m26 := PySem.W.mg_of X G a26
  have m27 := PySem.W.mg_of X G a27
  have m28 := PySem.W.mg_of X G a28
  have m29 := PySem.W.mg_of X G a29
  have m30 := PySem.W.mg_of X G a30
  have m31 := PySem.W.mg_of X G a31
  have y_len := PySem.W.mg_none_of X G z_len
  have y_all := PySem.W.mg_none_of X G z_all
  have y_isinstance := PySem.W.mg_none_of X G z_isinstance
  have y_str := PySem.W.mg_none_of X G z_str
  have y_tuple := PySem.W.mg_none_of X G z_tuple
  have y_list := PySem.W.mg_none_of X G z_list
  have y_int := PySem.W.mg_none_of X G z_int
  have y_bool := PySem.W.mg_none_of X G z_bool
  have y_min := PySem.W.mg_none_of X G z_min
  have y_range := PySem.W.mg_none_of X G z_range
  have y_enumerate := PySem.W.mg_none_of X G z_enumerate
  have y_max := PySem.W.mg_none_of X G z_max
  have y_sum := PySem.W.mg_none_of X G z_sum
  have y_zip := PySem.W.mg_none_of X G z_zip
  have y_sorted := PySem.W.mg_none_of X G z_sorted
  have y_set := PySem.W.mg_none_of X G z_set
  have mCE := PySem.W.mg_of X G aCE
  have mCP := PySem.W.mg_of X G aCP
  have mCT := PySem.W.mg_of X G aCT
  have mCC := PySem.W.mg_of X G aCC
  have mCB := PySem.W.mg_of X G aCB
  have EE : EC K CE := ⟨⟨pgE, hdE, poE, saE⟩, nF, nL, nW⟩
  have EP : PC K CP := ⟨⟨pgP, hdP, poP, saP⟩, nPC, nPL⟩
  have ET : TC K CT := ⟨⟨pgT, hdT, poT, saT⟩, nTW, nTO, nTR⟩
  have EC2 : CC2 K CC := ⟨⟨pgC, hdC, poC, saC⟩, nCO, nCR⟩
  have KCC : KC K mg aN aS := ⟨PySem.W.mg_of X G gN, fun H => .inr ⟨_, _, _, oN, rfl, rfl, (by show 3 ≤ sizeLine; decide), .cons ⟨_, rfl⟩ (.cons ⟨_, rfl⟩ (.cons ⟨_, rfl⟩ .nil))⟩, PySem.W.mg_of X G gS, fun H => .inr ⟨_, _, _, oS, rfl, rfl, (by show 9 ≤ sizeLine; decide), (.cons ⟨_, rfl⟩ (.cons ⟨_, rfl⟩ (.cons ⟨_, rfl⟩ (.cons ⟨_, rfl⟩ (.cons ⟨_, rfl⟩ (.cons ⟨_, rfl⟩ (.cons ⟨_, rfl⟩ (.cons ⟨_, rfl⟩ (.cons ⟨_, rfl⟩ .nil)))))))))⟩, ⟨_, PySem.W.mg_of X G gL⟩, ⟨_, PySem.W.mg_of X G gM⟩, y_len, y_all, y_isinstance, y_str, y_list, y_tuple, y_int, y_bool⟩
  have BB : BN mg := ⟨y_len, y_enumerate, y_tuple, y_max, y_list, y_isinstance, y_all, y_sum⟩
  have RP : RIn K mg "Patch" CP := ⟨mCP, rhaP, rhn, rht, rhmP, rkitP⟩
  have RT : RIn K mg "Together" CT := ⟨mCT, rhaT, rhn, rht, rhmT, rkitT⟩
  have RC : RIn K mg "Clash" CC := ⟨mCC, rhaC, rhn, rht, rhmC, rkitC⟩
  have XB : XF K mg "BadEdit" CB := ⟨mCB, xCB, kCB, bCB, tCB⟩
  refine ⟨PySem.W.fnOf "law" "law" (defArgs sLw) (defBody sLw) (defScope sLw) .none kV31 dc31 pm31 an31 cd31 ct31, fun s v => .of_eq rfl, fun base _ _ => ?_⟩
  have o1 := ok_small (P := l.prog) (w := w) (mg := mg) (base := base) F1
  have o2 := ok_word (P := l.prog) (w := w) (mg := mg) (base := base) F2 KCC o1 b1 k1 m1
  have o3 := ok_whole (P := l.prog) (w := w) (mg := mg) (base := base) F3 KCC
  have o4 := ok_mark (P := l.prog) (w := w) (mg := mg) (base := base) F4 KCC o2 b2 k2 m2
  have o5 := ok_chkE (P := l.prog) (w := w) (mg := mg) (base := base) F5 KCC o4 b4 k4 m4
  have oi := ok_init (P := l.prog) (w := w) (mg := mg) (base := base) F32 KCC EE o3 b3 k3 m3 o4 b4 k4 m4
  have J : MkE l.prog w K mg base CE f32 _ := ⟨⟨mkE, a32, i32, kcE⟩, oi, b32, mCE⟩
  have og := ok_grow (P := l.prog) (w := w) (mg := mg) (base := base) F33 KCC EE
  have oadd := ok_addm (P := l.prog) (w := w) (mg := mg) (base := base) F34 EE J o3 b3 k3 m3
  have GE : MtK l.prog w K mg base CE 1 "growth" ["self"] (spGrow K CE) := ⟨_, _, ⟨a33, i33, k33⟩, og, b33⟩
  have AD : AddK K CE f34 := ⟨asf, a34, i34, aR, ⟨_, ia⟩, ⟨_, ir⟩, isb⟩
  have opof := ok_pof (P := l.prog) (w := w) (mg := mg) (base := base) F6 BB
  have ocut := ok_cut (P := l.prog) (w := w) (mg := mg) (base := base) F8 BB
  have oed := ok_edited (P := l.prog) (w := w) (mg := mg) (base := base) F7 BB ocut b8 k8 m8
  have ochg := ok_chg (P := l.prog) (w := w) (mg := mg) (base := base) F9 BB
  have ogof := ok_gof (P := l.prog) (w := w) (mg := mg) (base := base) F11 BB
  have oich := ok_isch (P := l.prog) (w := w) (mg := mg) (base := base) F10 BB o3 b3 k3 m3 o4 b4 k4 m4
  have opi := ok_pinit (P := l.prog) (w := w) (mg := mg) (base := base) F35 BB y_zip EP o3 b3 k3 m3 oich b10 k10 m10
  have opq := ok_peq (P := l.prog) (w := w) (mg := mg) (base := base) F36 BB EP RP
  have opg := ok_pgrow (P := l.prog) (w := w) (mg := mg) (base := base) F38 BB EP ogof b11 k11 m11
  have opc := ok_pcall (P := l.prog) (w := w) (mg := mg) (base := base) F37 BB EP XB ⟨_, _, o5, b5, k5, m5⟩
  have ockp := ok_chkp (P := l.prog) (w := w) (mg := mg) (base := base) F12 BB EP RP
  have ocks := ok_chkS (P := l.prog) (w := w) (mg := mg) (base := base) F12 BB EP RP
  have MP : MkC l.prog w K mg base "Patch" CP 5 ["self", "changes", "least"] (spPInit K CP) := ⟨⟨_, _, ⟨mkP, a35, i35, kcP⟩, opi, b35⟩, mCP⟩
  have GP : MtK l.prog w K mg base CP 2 "growth" ["self"] (spPGrow K CP) := ⟨_, _, ⟨a38, i38, k38⟩, opg, b38⟩
  have obeh := ok_behind (P := l.prog) (w := w) (mg := mg) (base := base) F13 BB EP ⟨⟨_, _, ockp, b12, k12, m12⟩⟩ ⟨⟨_, _, opof, b6, k6, m6⟩⟩ ⟨⟨_, _, oed, b7, k7, m7⟩⟩ ⟨⟨_, _, ochg, b9, k9, m9⟩⟩ GP MP
  have ocop := ok_cop (P := l.prog) (w := w) (mg := mg) (base := base) F14 EP MP
  have oti := ok_tini (P := l.prog) (w := w) (mg := mg) (base := base) F39 ET ⟨⟨_, _, ocop, b14, k14, m14⟩⟩
  have MT : MkC l.prog w K mg base "Together" CT 8 NTIni (spTIni K CP CT) := ⟨⟨_, _, ⟨mkT, a39, i39, kcT⟩, oti, b39⟩, mCT⟩
  have QP : MtK l.prog w K mg base CP 1 "__eq__" ["self", "other"] (spPEq K CP) := ⟨_, _, ⟨a36, i36, k36⟩, opq, b36⟩
  have otq := ok_teq (P := l.prog) (w := w) (mg := mg) (base := base) F40 BB ET RT QP
  have otb := ok_tbool (P := l.prog) (w := w) (mg := mg) (base := base) F41
  have oci := ok_cini (P := l.prog) (w := w) (mg := mg) (base := base) F42 EC2
  have ocq := ok_ceq (P := l.prog) (w := w) (mg := mg) (base := base) F43 BB EC2 RC
  have ocb := ok_cbool (P := l.prog) (w := w) (mg := mg) (base := base) F44
  have MC : MkC l.prog w K mg base "Clash" CC 1 ["self", "one", "other"] (spCIni CC) := ⟨⟨_, _, ⟨mkC, a42, i42, kcC⟩, oci, b42⟩, mCC⟩
  have BT : MtK l.prog w K mg base CT 1 "__bool__" ["self"] (spYes true) := ⟨_, _, ⟨a41, i41, k41⟩, otb, b41⟩
  have BC : MtK l.prog w K mg base CC 1 "__bool__" ["self"] (spYes false) := ⟨_, _, ⟨a44, i44, k44⟩, ocb, b44⟩
  have ogt := ok_goT (P := l.prog) (w := w) (mg := mg) (base := base) F16
  have oas := ok_asO (P := l.prog) (w := w) (mg := mg) (base := base) F17 BB
  have orb := ok_rb (P := l.prog) (w := w) (mg := mg) (base := base) F18 BB EP ⟨⟨_, _, ogof, b11, k11, m11⟩⟩ ⟨⟨_, _, oas, b17, k17, m17⟩⟩ GP MP
  have oal := ok_all (P := l.prog) (w := w) (mg := mg) (base := base) F19 BB y_sorted EP ⟨⟨_, _, oas, b17, k17, m17⟩⟩ MP
  have oto := ok_to (P := l.prog) (w := w) (mg := mg) (base := base) F20 BB EP ⟨⟨_, _, ockp, b12, k12, m12⟩⟩ ⟨⟨_, _, ogt, b16, k16, m16⟩⟩ ⟨⟨_, _, oal, b19, k19, m19⟩⟩ ⟨⟨_, _, orb, b18, k18, m18⟩⟩ MC MT
  have oat := ok_at (P := l.prog) (w := w) (mg := mg) (base := base) F21 BB y_range EP ⟨⟨_, _, ocks, b12, k12, m12⟩⟩ ⟨⟨_, _, oto, b20, k20, m20⟩⟩ ⟨⟨_, _, oal, b19, k19, m19⟩⟩ BT BC
  have ocar := ok_car (P := l.prog) (w := w) (mg := mg) (base := base) F15 EE AD oadd b34 (by decide) GE
  have ocell := ok_cell (P := l.prog) (w := w) (mg := mg) (base := base) F22 y_len
  have odraw := ok_draw (P := l.prog) (w := w) (mg := mg) (base := base) F23 y_int
  have onum := ok_num (P := l.prog) (w := w) (mg := mg) (base := base) F24 y_int y_range odraw b23 k23 m23
  have onext := ok_next (P := l.prog) (w := w) (mg := mg) (base := base) F25 y_int ocell b22 k22 m22 onum b24 k24 m24
  have opick := ok_pick (P := l.prog) (w := w) (mg := mg) (base := base) F26 y_len onext b25 k25 m25
  have owds := ok_wds (P := l.prog) (w := w) (mg := mg) (base := base) F27 y_range opick b26 k26 m26
  have olch := ok_lch (P := l.prog) (w := w) (mg := mg) (base := base) F28 BB y_min ⟨⟨_, _, onext, b25, k25, m25⟩⟩ ⟨⟨_, _, owds, b27, k27, m27⟩⟩
  have ofit := ok_fitL (P := l.prog) (w := w) (mg := mg) (base := base) F29
  have owv := ok_wv (P := l.prog) (w := w) (mg := mg) (base := base) F30 BB ⟨⟨_, _, onext, b25, k25, m25⟩⟩
  have CWW : CW l.prog w K mg base CE CP CT CC CB := ⟨⟨⟨_, _, (onext).mono (by decide), b25, k25, m25⟩⟩, ⟨⟨_, _, (opick).mono (by decide), b26, k26, m26⟩⟩, ⟨⟨_, _, (olch).mono (by decide), b28, k28, m28⟩⟩, ⟨⟨_, _, (ofit).mono (by decide), b29, k29, m29⟩⟩, ⟨⟨_, _, (owv).mono (by decide), b30, k30, m30⟩⟩, ⟨⟨_, _, (oto).mono (by decide), b20, k20, m20⟩⟩, ⟨⟨_, _, (oat).mono (by decide), b21, k21, m21⟩⟩, ⟨⟨_, _, (obeh).mono (by decide), b13, k13, m13⟩⟩, ⟨⟨_, _, (ocar).mono (by decide), b15, k15, m15⟩⟩, BB, y_sorted, y_set, y_bool, y_min, MP, MC, MT, ⟨_, _, J⟩, ⟨⟨_, _, a36, i36, (opq).mono (by decide), b36⟩⟩, neP, obP, ⟨⟨_, _, a43, i43, (ocq).mono (by decide), b43⟩⟩, neC, obC, ⟨⟨_, _, a40, i40, (otq).mono (by decide), b40⟩⟩, neT, obT, BT, BC, ⟨_, ⟨a37, i37, fnI⟩, (opc.raw b37 .nil).mono (by decide)⟩, ⟨_, _, ⟨a38, i38, k38⟩, opg.mono (by decide), b38⟩, EE, EP, ET, EC2⟩
  exact ok_lawH F31 CWW RC mCT kf
theorem walk {l : PySem.W.OpenLaw} {q : Program} {loose : List Str} {XP : (Str → Option Value) → Heap → Prop} {YP : World → Heap → Prop} {d : DefRec} {K : Params → PySem.W.Frag} (hn : l.most = some 63) (hdf : d.params.defaults = [])
    (hY : ∀ (w : World) (h : Heap), YP w h → (K w.params).In h)
    (F : ∀ (w : World) (mg : Str → Option Value) (fa : Addr) (h : Heap), (K w.params).In h → h.Ns mainGlobals mg → mg d.name = some (.ref fa) →
      ∃ fd : FuncData, (∀ (s : Shared) (u : Value), BindsTo s fd ⟨[u], []⟩ [("script", u)]) ∧ ∀ base : Heap, (K w.params).In base → base.Ns mainGlobals mg → FnOk l.prog w (K w.params) mg base CX0 23 fa fd ["script"] (spLawH (K w.params))) :
    PySem.W.WalkO q loose XP YP l.row.toRowW d [] (fun f vs => PySem.call f vs) :=
  L2.walk_of (n := 63) (k := 23) (x := "script") (CX := fun _ => CX0) (sp := fun w => spLawH (K w.params)) hn (by decide) hdf ⟨rfl, by decide, by decide⟩ hY F (fun _ _ a ns hl _ hS => ⟨a, ns, rfl, hS, hl, fun _ => rfl⟩) fun _ _ _ _ _ z => z
end P5

end
section
set_option Elab.async false
open PySem PySem.W PyProof.Rows
set_option maxRecDepth 100000 in
set_option maxHeartbeats 0 in
theorem PySem.Challenge.cw_typingroom_k51_whole_hands_holds : PySem.Challenge.rw_typingroom_k51_whole_hands.Holds := by
  w_on; o_law; k_head; (case hw => w_witness2)
  k_fill
  refine P5.walk (l := PySem.Challenge.rw_typingroom_k51_whole_hands) rfl rfl (fun w h Y => PySem.W.kIn_of Y) ?F
  case F =>
    intro w mg fa h KX G hmg
    refine' P5.all_mk KX G hmg ?a1 ?l1 ?c1 ?k1 ?a2 ?l2 ?c2 ?k2 ?a3 ?l3 ?c3 ?k3 ?a4 ?l4 ?c4 ?k4 ?a5 ?l5 ?c5 ?k5 ?a6 ?l6 ?c6 ?k6 ?a7 ?l7 ?c7 ?k7 ?a8 ?l8 ?c8 ?k8 ?a9 ?l9 ?c9 ?k9 ?a10 ?l10 ?c10 ?k10 ?a11 ?l11 ?c11 ?k11 ?a12 ?l12 ?c12 ?k12 ?a13 ?l13 ?c13 ?k13 ?a14 ?l14 ?c14 ?k14 ?a15 ?l15 ?c15 ?k15 ?a16 ?l16 ?c16 ?k16 ?a17 ?l17 ?c17 ?k17 ?a18 ?l18 ?c18 ?k18 ?a19 ?l19 ?c19 ?k19 ?a20 ?l20 ?c20 ?k20 ?a21 ?l21 ?c21 ?k21 ?a22 ?l22 ?c22 ?k22 ?a23 ?l23 ?c23 ?k23 ?a24 ?l24 ?c24 ?k24 ?a25 ?l25 ?c25 ?k25 ?a26 ?l26 ?c26 ?k26 ?a27 ?l27 ?c27 ?k27 ?a28 ?l28 ?c28 ?k28 ?a29 ?l29 ?c29 ?k29 ?a30 ?l30 ?c30 ?k30 ?a31 ?l31 ?c31 ?k31 ?a32 ?i32 ?l32 ?c32 ?k32 ?a33 ?i33 ?l33 ?c33 ?k33 ?a34 ?i34 ?l34 ?c34 ?k34 ?a35 ?i35 ?l35 ?c35 ?k35 ?a36 ?i36 ?l36 ?c36 ?k36 ?a37 ?i37 ?l37 ?c37 ?k37 ?a38 ?i38 ?l38 ?c38 ?k38 ?a39 ?i39 ?l39 ?c39 ?k39 ?a40 ?i40 ?l40 ?c40 ?k40 ?a41 ?i41 ?l41 ?c41 ?k41 ?a42 ?i42 ?l42 ?c42 ?k42 ?a43 ?i43 ?l43 ?c43 ?k43 ?a44 ?i44 ?l44 ?c44 ?k44 ?aCE ?pgE ?hdE ?poE ?saE ?mkE ?kcE ?nF ?nL ?nW ?aCP ?pgP ?hdP ?poP ?saP ?mkP ?kcP ?nPC ?nPL ?rhaP ?rhmP ?rkitP ?neP ?obP ?aCT ?pgT ?hdT ?poT ?saT ?mkT ?kcT ?nTW ?nTO ?nTR ?rhaT ?rhmT ?rkitT ?neT ?obT ?aCC ?pgC ?hdC ?poC ?saC ?mkC ?kcC ?nCO ?nCR ?rhaC ?rhmC ?rkitC ?neC ?obC ?kf ?rhn ?rht ?fnI ?aCB ?xCB ?kCB ?bCB ?tCB ?asf ?aR ?ia ?ir ?isb ?gN ?oN ?gS ?oS ?gL ?gM ?z_len ?z_all ?z_isinstance ?z_str ?z_tuple ?z_list ?z_int ?z_bool ?z_min ?z_range ?z_enumerate ?z_max ?z_sum ?z_zip ?z_sorted ?z_set
    (case aCE => k_is)
    (case aCP => k_is)
    (case aCT => k_is)
    (case aCC => k_is)
    (case aCB => k_is)
    (case a1 => k_is)
    (case l1 => k_is)
    (case c1 => k_is)
    (case k1 => k_is)
    (case a2 => k_is)
    (case l2 => k_is)
    (case c2 => k_is)
    (case k2 => k_is)
    (case a3 => k_is)
    (case l3 => k_is)
    (case c3 => k_is)
    (case k3 => k_is)
    (case a4 => k_is)
    (case l4 => k_is)
    (case c4 => k_is)
    (case k4 => k_is)
    (case a5 => k_is)
    (case l5 => k_is)
    (case c5 => k_is)
    (case k5 => k_is)
    (case a6 => k_is)
    (case l6 => k_is)
    (case c6 => k_is)
    (case k6 => k_is)
    (case a7 => k_is)
    (case l7 => k_is)
    (case c7 => k_is)
    (case k7 => k_is)
    (case a8 => k_is)
    (case l8 => k_is)
    (case c8 => k_is)
    (case k8 => k_is)
    (case a9 => k_is)
    (case l9 => k_is)
    (case c9 => k_is)
    (case k9 => k_is)
    (case a10 => k_is)
    (case l10 => k_is)
    (case c10 => k_is)
    (case k10 => k_is)
    (case a11 => k_is)
    (case l11 => k_is)
    (case c11 => k_is)
    (case k11 => k_is)
    (case a12 => k_is)
    (case l12 => k_is)
    (case c12 => k_is)
    (case k12 => k_is)
    (case a13 => k_is)
    (case l13 => k_is)
    (case c13 => k_is)
    (case k13 => k_is)
    (case a14 => k_is)
    (case l14 => k_is)
    (case c14 => k_is)
    (case k14 => k_is)
    (case a15 => k_is)
    (case l15 => k_is)
    (case c15 => k_is)
    (case k15 => k_is)
    (case a16 => k_is)
    (case l16 => k_is)
    (case c16 => k_is)
    (case k16 => k_is)
    (case a17 => k_is)
    (case l17 => k_is)
    (case c17 => k_is)
    (case k17 => k_is)
    (case a18 => k_is)
    (case l18 => k_is)
    (case c18 => k_is)
    (case k18 => k_is)
    (case a19 => k_is)
    (case l19 => k_is)
    (case c19 => k_is)
    (case k19 => k_is)
    (case a20 => k_is)
    (case l20 => k_is)
    (case c20 => k_is)
    (case k20 => k_is)
    (case a21 => k_is)
    (case l21 => k_is)
    (case c21 => k_is)
    (case k21 => k_is)
    (case a22 => k_is)
    (case l22 => k_is)
    (case c22 => k_is)
    (case k22 => k_is)
    (case a23 => k_is)
    (case l23 => k_is)
    (case c23 => k_is)
    (case k23 => k_is)
    (case a24 => k_is)
    (case l24 => k_is)
    (case c24 => k_is)
    (case k24 => k_is)
    (case a25 => k_is)
    (case l25 => k_is)
    (case c25 => k_is)
    (case k25 => k_is)
    (case a26 => k_is)
    (case l26 => k_is)
    (case c26 => k_is)
    (case k26 => k_is)
    (case a27 => k_is)
    (case l27 => k_is)
    (case c27 => k_is)
    (case k27 => k_is)
    (case a28 => k_is)
    (case l28 => k_is)
    (case c28 => k_is)
    (case k28 => k_is)
    (case a29 => k_is)
    (case l29 => k_is)
    (case c29 => k_is)
    (case k29 => k_is)
    (case a30 => k_is)
    (case l30 => k_is)
    (case c30 => k_is)
    (case k30 => k_is)
    (case a31 => k_is)
    (case l31 => k_is)
    (case c31 => k_is)
    (case k31 => k_is)
    (case a32 => k_is)
    (case i32 => k_is)
    (case l32 => k_is)
    (case c32 => k_is)
    (case k32 => k_is)
    (case a33 => k_is)
    (case i33 => k_is)
    (case l33 => k_is)
    (case c33 => k_is)
    (case k33 => k_is)
    (case a34 => k_is)
    (case i34 => k_is)
    (case l34 => k_is)
    (case c34 => k_is)
    (case k34 => k_is)
    (case a35 => k_is)
    (case i35 => k_is)
    (case l35 => k_is)
    (case c35 => k_is)
    (case k35 => k_is)
    (case a36 => k_is)
    (case i36 => k_is)
    (case l36 => k_is)
    (case c36 => k_is)
    (case k36 => k_is)
    (case a37 => k_is)
    (case i37 => k_is)
    (case l37 => k_is)
    (case c37 => k_is)
    (case k37 => k_is)
    (case a38 => k_is)
    (case i38 => k_is)
    (case l38 => k_is)
    (case c38 => k_is)
    (case k38 => k_is)
    (case a39 => k_is)
    (case i39 => k_is)
    (case l39 => k_is)
    (case c39 => k_is)
    (case k39 => k_is)
    (case a40 => k_is)
    (case i40 => k_is)
    (case l40 => k_is)
    (case c40 => k_is)
    (case k40 => k_is)
    (case a41 => k_is)
    (case i41 => k_is)
    (case l41 => k_is)
    (case c41 => k_is)
    (case k41 => k_is)
    (case a42 => k_is)
    (case i42 => k_is)
    (case l42 => k_is)
    (case c42 => k_is)
    (case k42 => k_is)
    (case a43 => k_is)
    (case i43 => k_is)
    (case l43 => k_is)
    (case c43 => k_is)
    (case k43 => k_is)
    (case a44 => k_is)
    (case i44 => k_is)
    (case l44 => k_is)
    (case c44 => k_is)
    (case k44 => k_is)
    (case pgE => k_is)
    (case hdE => k_is)
    (case poE => k_is)
    (case saE => k_is)
    (case mkE => k_is)
    (case kcE => k_is)
    (case nF => k_is)
    (case nL => k_is)
    (case nW => k_is)
    (case pgP => k_is)
    (case hdP => k_is)
    (case poP => k_is)
    (case saP => k_is)
    (case mkP => k_is)
    (case kcP => k_is)
    (case nPC => k_is)
    (case nPL => k_is)
    (case rhaP => k_is)
    (case rhmP => k_is)
    (case rkitP => first | kernel_rfl | rfl | decide +kernel)
    (case neP => k_is)
    (case obP => k_is)
    (case pgT => k_is)
    (case hdT => k_is)
    (case poT => k_is)
    (case saT => k_is)
    (case mkT => k_is)
    (case kcT => k_is)
    (case nTW => k_is)
    (case nTO => k_is)
    (case nTR => k_is)
    (case rhaT => k_is)
    (case rhmT => k_is)
    (case rkitT => first | kernel_rfl | rfl | decide +kernel)
    (case neT => k_is)
    (case obT => k_is)
    (case pgC => k_is)
    (case hdC => k_is)
    (case poC => k_is)
    (case saC => k_is)
    (case mkC => k_is)
    (case kcC => k_is)
    (case nCO => k_is)
    (case nCR => k_is)
    (case rhaC => k_is)
    (case rhmC => k_is)
    (case rkitC => first | kernel_rfl | rfl | decide +kernel)
    (case neC => k_is)
    (case obC => k_is)
    (case kf => first | kernel_rfl | rfl | decide +kernel)
    (case rhn => k_is)
    (case rht => k_is)
    (case fnI => k_is)
    (case xCB => first | kernel_rfl | rfl | decide +kernel)
    (case kCB => k_is)
    (case bCB => k_is)
    (case tCB => k_is)
    (case asf => k_is)
    (case aR => k_is)
    (case ia => k_is)
    (case ir => k_is)
    (case isb => k_is)
    (case gN => k_is)
    (case oN => k_is)
    (case gS => k_is)
    (case oS => k_is)
    (case gL => k_is)
    (case gM => k_is)
    (case z_len => k_is)
    (case z_all => k_is)
    (case z_isinstance => k_is)
    (case z_str => k_is)
    (case z_tuple => k_is)
    (case z_list => k_is)
    (case z_int => k_is)
    (case z_bool => k_is)
    (case z_min => k_is)
    (case z_range => k_is)
    (case z_enumerate => k_is)
    (case z_max => k_is)
    (case z_sum => k_is)
    (case z_zip => k_is)
    (case z_sorted => k_is)
    (case z_set => k_is)

end
