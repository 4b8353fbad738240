import PyProof.Rows.All
import Wide.All
import OpenK.AllK
import Wide.FinOn
import HandS.ForMost
import HandS.NoneIn
import HandS.Style
import HandS.IsInst
import HandS.Conv
import HandS.RevRange
import HandS.TupAny
import HandS.Flow
import HandS.SortRule
import KE.KEqSeq
import KE.GoesMore
import PyProof.ReprRoads
import PyProof.StrLawsOcc
import HandS.ForExc
import HandS.ExcField
import KE.KExcInit
import KE.KExcIs
import HandS.ExcIs
import KE.KExcLine
import PySem.Challenge.RW_duelsets_k02_wins_losses_and_scores
set_option Elab.async false
set_option linter.all false
set_option maxRecDepth 100000
namespace DS
open PySem PySem.Spec PyProof.Rows L2
/-! the text by places -/
def topS (i : Nat) : Stmt := PySem.Challenge.pw_duelsets_k02_wins_losses_and_scores.main.body.getD i (.Pass ⟨0, 0, 0, 0⟩)
abbrev sDeck : Stmt := topS 15
abbrev sNext : Stmt := topS 16
theorem scNext : FnScope ["_law_deck_here", "_law_many", "_law_cells", "_law_rests", "_law_count", "_law_index", "_law_digit", "_law_mixed_here"] ["_law_deck_here", "_law_many"] (defScope sNext) := ⟨rfl, rfl, rfl, by decide +kernel, rfl, by decide +kernel, by decide +kernel⟩
/-! ### the deck -/
/-- the deck at d: cells at c, rests at r, at most n draws so far -/
structure Deck (H : Hp) (d c r : Addr) (n : Nat) : Prop where
  ex : ∃ (cs rs : List Int) (k : Nat), H d = some (.lst [.ref c, .ref r, .int k]) ∧ H c = some (.lst (cs.map V.int)) ∧ H r = some (.lst (rs.map V.int)) ∧
    cs.length = rs.length ∧ 0 < cs.length ∧ cs.length ≤ 61 ∧ k ≤ n
  dc : d ≠ c
  dr : d ≠ r
  cr : c ≠ r
/-- all but the deck's own two objects that change stays -/
def Frm (d r : Addr) (H H' : Hp) : Prop := ∀ b x, H b = some x → b ≠ d → b ≠ r → H' b = some x
theorem Frm.refl {d r : Addr} {H : Hp} : Frm d r H H := fun _ _ e _ _ => e
theorem Frm.trans {d r : Addr} {H H1 H2 : Hp} (h : Frm d r H H1) (k : Frm d r H1 H2) : Frm d r H H2 := fun b x e h1 h2 => k b x (h b x e h1 h2) h1 h2
theorem Frm.of_same {d r : Addr} {H H1 : Hp} (h : Same H H1) : Frm d r H H1 := fun b x e _ _ => h b x e
theorem pos1 : (0 : Int) < 2305843009213693951 := by decide
theorem pos2 : (0 : Int) < 2305843009213693921 := by decide
theorem ixN_of {n j : Nat} (hj : j < n) : ixN n (j : Int) = some j := by
  unfold ixN
  rw [if_pos (by omega), if_pos (by omega)]
  simp
section
variable {P : Program} {w : World} {K : PySem.W.Frag} {mg : Str → Option Value} {base : Heap}
def spNext : Sp := fun vs H Q _ => ∃ (d c r : Addr) (n : Nat) (m : Int), vs = [.ref d, .int m] ∧ Deck H d c r n ∧ n < 2 ^ 40 ∧ 0 < m ∧ m < 1000000 ∧
  ∀ (H' : Hp) (k : Int), 0 ≤ k → k < m → Deck H' d c r (n + 1) → Frm d r H H' → Q (.int k) H'
theorem ok_next {f : Addr} {fd : FuncData} {k : Nat} (F : Fun K "_law_next" "_law_next" sNext f fd) (ml : mg "len" = none) : FnOk P w K mg base CX0 (k + 1) f fd ["_law_deck_here", "_law_many"] spNext := by
  refine F.ok scNext (fun vs H Q E h => ?_) (fun cdv A outer s H vs Q E hr h => ?_)
  · obtain ⟨d, c, r, n, m, rfl, _⟩ := h
    rfl
  · obtain ⟨d, c, r, n, m, rfl, ⟨⟨cs, rs, k, hd, hc, hR, hl, hp, hz, hk⟩, dc, dr, cr⟩, hn, m0, m1, q⟩ := h
    have nd := scNext.nd
    refine ⟨_, pss_cons (ps_asg (pv 0) (pg_unl rfl (pgs_cons (pg_name (i := 2) nd rfl (.inl rfl)) (pgs_cons (pg_name (i := 3) nd rfl (.inl rfl)) (pgs_cons (pg_name (i := 4) nd rfl (.inl rfl)) pgs_nil)))))
      (pss_cons (ps_asg (pe_op op_add (pv 4) pe_int) (pg_sub (pv 0) pe_int set_list))
      (pss_cons (ps_set (i := 5) nd rfl (.inl rfl) (pe_op op_mod (pv 4) (pe_callB call_len_seq (by rfl) ml PySem.boot_len (pa_cons (pv 2) pa_nil))))
      (pss_cons (ps_if (pt_cmpR op_gt (pe_ix ix_list (pv 3) (pv 5) (fun _ _ => rfl)) pe_int (nomark _))
        (pss_cons (ps_set (i := 6) nd rfl (.inl rfl) (pe_op op_mod (pe_ix ix_list (pv 3) (pv 5) (fun _ _ => rfl)) (pv 1)))
        (pss_cons (ps_asg (pe_op op_fdiv (pe_ix ix_list (pv 3) (pv 5) (fun _ _ => rfl)) (pv 1)) (pg_sub (pv 3) (pv 5) set_list))
        (pss_one (ps_ret (pv 6))))) pss_nil)
      (pss_cons (ps_set (i := 7) nd rfl (.inl rfl) (pe_op op_mul (pe_op op_add (pe_op op_add (pe_ix ix_list (pv 2) (pv 5) (fun _ _ => rfl)) (pe_op op_mul pe_int (pv 4))) pe_int) (pe_op op_add pe_int (pe_op op_mul pe_int (pv 4)))))
      (pss_cons (ps_set (i := 7) nd rfl (.inl rfl) (pe_op op_mod (pe_op op_add (pv 7) (pe_op op_mul pe_int (pv 4))) pe_int))
      (pss_cons (ps_set (i := 7) nd rfl (.inl rfl) (pe_op op_mod (pe_op op_add (pe_op op_mul (pv 7) (pv 7)) pe_int) pe_int))
      (pss_cons (ps_set (i := 7) nd rfl (.inl rfl) (pe_op op_mod (pe_op op_mul (pv 7) (pv 7)) pe_int))
      (pss_one (ps_ret (pe_op op_mod (pe_op op_fdiv (pv 7) pe_int) (pv 1))))))))))), ?_⟩
    refine ⟨.ref d, rfl, d, _, rfl, .inl (.inl hd), rfl, .ref c, _, rfl, .ref r, _, rfl, .int k, _, rfl, rfl, ?_⟩
    have hc1 : (upd H d (.lst [.ref c, .ref r, .int ((k : Int) + 1)])) c = some (.lst (cs.map V.int)) := by
      rw [upd_ne dc.symm]
      exact hc
    have hr1 : (upd H d (.lst [.ref c, .ref r, .int ((k : Int) + 1)])) r = some (.lst (rs.map V.int)) := by
      rw [upd_ne dr.symm]
      exact hR
    have hd1 : (upd H d (.lst [.ref c, .ref r, .int ((k : Int) + 1)])) d = some (.lst [.ref c, .ref r, .int ((k + 1 : Nat) : Int)]) := upd_same
    have fr1 : Frm d r H (upd H d (.lst [.ref c, .ref r, .int ((k : Int) + 1)])) := fun b x e h1 _ => by
      rw [upd_ne h1]
      exact e
    refine ⟨.int k, rfl, k, 1, rfl, rfl, .ref d, rfl, d, _, 2, 2, rfl, rfl, hd, rfl, ?_⟩
    show tSeq _ _ _ _ (upd H d (.lst [.ref c, .ref r, .int ((k : Int) + 1)]))
    generalize upd H d (.lst [.ref c, .ref r, .int ((k : Int) + 1)]) = H1 at hc1 hr1 hd1 fr1 ⊢
    have dk1 : Deck H1 d c r (n + 1) := ⟨⟨cs, rs, k + 1, hd1, hc1, hr1, hl, hp, hz, by omega⟩, dc, dr, cr⟩
    refine ⟨.int k, rfl, .ref c, rfl, c, _, rfl, .inl (.inl (.inl hc1)), k, _, rfl, rfl, by rw [List.length_map]; omega, ?_⟩
    obtain ⟨j, hj, ej⟩ : ∃ j : Nat, j < cs.length ∧ (k : Int) % ((cs.map V.int).length : Int) = (j : Int) := ⟨k % cs.length, Nat.mod_lt _ hp, by rw [List.length_map]; omega⟩
    have hj' : j < rs.length := by omega
    have gR : (rs.map V.int)[j]? = some (.int rs[j]) := by
      rw [List.getElem?_map, List.getElem?_eq_getElem hj']
      rfl
    have gC : (cs.map V.int)[j]? = some (.int cs[j]) := by
      rw [List.getElem?_map, List.getElem?_eq_getElem hj]
      rfl
    show tSeq _ _ _ (List.set _ 5 (some (.int ((k : Int) % ((cs.map V.int).length : Int))))) _
    rw [ej]
    refine ⟨.ref r, rfl, .int j, rfl, r, _, _, _, rfl, rfl, .inl (.inl hr1), atI_nat gR, _, _, rfl, rfl, _, rfl, ite2 (fun h => ?_) (fun h => ?_)⟩
    · -- a digit
      refine ⟨.ref r, rfl, .int j, rfl, r, _, _, _, rfl, rfl, .inl (.inl hr1), atI_nat gR, .int m, rfl, _, _, rfl, rfl, m0, ?_⟩
      refine ⟨.ref r, rfl, .int j, rfl, r, _, _, _, rfl, rfl, .inl (.inl hr1), atI_nat gR, .int m, rfl, _, _, rfl, rfl, ⟨m0, by omega⟩, ?_⟩
      refine ⟨.ref r, rfl, .int j, rfl, r, _, _, j, rfl, rfl, hr1, ixN_of (by rw [List.length_map]; exact hj'), ?_⟩
      refine ⟨_, rfl, q _ _ (Int.emod_nonneg _ (by omega)) (Int.emod_lt_of_pos _ m0) ?_ ?_⟩
      · refine ⟨⟨cs, rs.set j (rs[j] / m), k + 1, ?_, ?_, ?_, ?_, hp, hz, by omega⟩, dc, dr, cr⟩
        · rw [upd_ne dr]
          exact hd1
        · rw [upd_ne cr]
          exact hc1
        · rw [upd_same, List.map_set]
        · rw [List.length_set]
          exact hl
      · exact fr1.trans fun b x e _ h2 => by
          rw [upd_ne h2]
          exact e
    · -- a mixed number
      refine ⟨.ref c, rfl, .int j, rfl, c, _, _, _, rfl, rfl, .inl (.inl hc1), atI_nat gC, .int k, rfl, _, _, rfl, rfl, .inl ⟨by decide, by decide⟩, _, _, rfl, rfl, _, _, rfl, rfl, .int k, rfl, _, _, rfl, rfl, .inl ⟨by decide, by decide⟩, _, _, rfl, rfl, _, _, rfl, rfl, .inr ⟨by omega, by omega⟩, ?_⟩
      refine ⟨_, rfl, .int k, rfl, _, _, rfl, rfl, .inl ⟨by decide, by decide⟩, _, _, rfl, rfl, _, _, rfl, rfl, pos1, ?_⟩
      have b1 : ∀ x : Int, 0 ≤ x % 2305843009213693951 ∧ x % 2305843009213693951 < 2305843009213693951 := fun x => ⟨Int.emod_nonneg _ (by decide), Int.emod_lt_of_pos _ (by decide)⟩
      have b2 : ∀ x : Int, 0 ≤ x % 2305843009213693921 ∧ x % 2305843009213693921 < 2305843009213693921 := fun x => ⟨Int.emod_nonneg _ (by decide), Int.emod_lt_of_pos _ (by decide)⟩
      refine ⟨_, rfl, _, rfl, _, _, rfl, rfl, .inl ⟨?_, ?_⟩, _, _, rfl, rfl, _, _, rfl, rfl, pos2, ?_⟩
      · exact Int.lt_of_lt_of_le (by decide) (b1 _).1
      · exact Int.lt_trans (b1 _).2 (by decide)
      refine ⟨_, rfl, _, rfl, _, _, rfl, rfl, .inl ⟨?_, ?_⟩, _, _, rfl, rfl, pos1, ?_⟩
      · exact Int.lt_of_lt_of_le (by decide) (b2 _).1
      · exact Int.lt_trans (b2 _).2 (by decide)
      refine ⟨_, rfl, _, _, rfl, rfl, ⟨by decide, by decide⟩, .int m, rfl, _, _, rfl, rfl, m0, ?_⟩
      exact q _ _ (Int.emod_nonneg _ (by omega)) (Int.emod_lt_of_pos _ m0) dk1 fr1
end
end DS
namespace DS
open PySem PySem.Spec PyProof.Rows L2
abbrev nDeck : List Str := ["_law_script", "_law_cells", "_law_cell"]
theorem scDeck : FnScope nDeck ["_law_script"] (defScope sDeck) := ⟨rfl, rfl, rfl, by decide +kernel, rfl, by decide +kernel, by decide +kernel⟩
theorem same_new {H : Hp} {p : Addr} {o : HO} (h : H p = none) : Same H (upd H p o) := fun b x e => by
  rw [upd_ne (ne_of_none e h)]
  exact e
theorem same_over {H H1 : Hp} {p : Addr} {o : HO} (s : Same H H1) (h : H p = none) : Same H (upd H1 p o) := fun b x e => by
  rw [upd_ne (ne_of_none e h)]
  exact s b x e
def absI (i : Int) : Int := if i < 0 then -i else i
def bigI (i : Int) : Int := i * (if decide ((10 : Int) ^ (18 : Int).toNat ≤ i) = true then 1 else 0)
theorem take_snoc {α β : Type} {l : List α} {i : Nat} {x : α} (f : α → β) (h : l[i]? = some x) : (l.take (i + 1)).map f = (l.take i).map f ++ [f x] := by
  rw [List.take_add_one, h, List.map_append]
  rfl
theorem take_all_map {α β : Type} {l : List α} (f : α → β) : (l.take (l.map f).length).map f = l.map f := by
  rw [List.length_map, List.take_length]
theorem get_map {α β : Type} {l : List α} {f : α → β} {i : Nat} {y : β} (h : (l.map f)[i]? = some y) : ∃ x, l[i]? = some x ∧ y = f x := by
  rw [List.getElem?_map] at h
  cases e : l[i]? with
  | none => rw [e] at h; cases h
  | some x => rw [e] at h; cases h; exact ⟨x, rfl, rfl⟩
theorem line_lt {n : Nat} (h : n ≤ 100000) : n < sizeLine := Nat.lt_of_le_of_lt h (by decide)
section
variable {P : Program} {w : World} {K : PySem.W.Frag} {mg : Str → Option Value} {base : Heap}
def spDeck (K : PySem.W.Frag) : Sp := fun vs H Q _ => ∃ (a : Addr) (ns : List Int), vs = [.ref a] ∧ SqL K H a (ns.map V.int) ∧ ns.length ≤ 63 ∧
  ∀ (H' : Hp) (d c r : Addr), Same H H' → H d = none → H c = none → H r = none → Deck H' d c r 0 → Q (.ref d) H'
theorem ok_deck {f : Addr} {fd : FuncData} {k : Nat} (F : Fun K "_law_deck" "_law_deck" sDeck f fd) (ml : mg "len" = none) (ma : mg "abs" = none) (mi : mg "int" = none) : FnOk P w K mg base CX0 (k + 1) f fd ["_law_script"] (spDeck K) := by
  refine F.ok scDeck (fun vs H Q E h => ?_) (fun cdv A outer s H vs Q E hr h => ?_)
  · obtain ⟨a, ns, rfl, _⟩ := h
    rfl
  · obtain ⟨a, ns, rfl, ha, hn, q⟩ := h
    have nd := scDeck.nd
    refine ⟨_, pss_cons (ps_set (i := 1) nd rfl (.inl rfl) (pe_op op_cat
        (pe_lc (own := [("_law_cell", 2)]) (g := gName 2) (tt := tYes) rfl nd (pi_list (pe_slice sl_list (pv 0) po_none (po_some pe_int))) (blkOk_by (N := nDeck) (sc := defScope sDeck) (own := [("_law_cell", 2)]) (by decide +kernel))
          (fun _ _ _ _ _ => pg_name (i := 2) nd rfl (.inl rfl)) (fun _ _ _ _ _ => pts_nil) (fun _ _ _ _ _ => pe_callB call_abs (by rfl) ma (by decide +kernel) (pa_cons (pv 2) pa_nil)))
        (pe_op op_rep (pe_lst (pa_cons pe_int pa_nil)) (pe_callTy call_int1 (by rfl) mi (by decide +kernel) (pa_cons (pe_cmpR op_eq (pe_callB call_len_seq (by rfl) ml PySem.boot_len (pa_cons (pv 0) pa_nil)) pe_int (nomark _)) pa_nil)))))
      (pss_one (ps_ret (pe_lst (pa_cons (pv 1) (pa_cons
        (pe_lc (own := [("_law_cell", 2)]) (g := gName 2) (tt := tYes) rfl nd (pi_list (pv 1)) (blkOk_by (N := nDeck) (sc := defScope sDeck) (own := [("_law_cell", 2)]) (by decide +kernel))
          (fun _ _ _ _ _ => pg_name (i := 2) nd rfl (.inl rfl)) (fun _ _ _ _ _ => pts_nil) (fun _ _ _ _ _ => pe_op op_mul (pv 2) (pe_callTy call_int1 (by rfl) mi (by decide +kernel) (pa_cons (pe_cmpR op_ge (pv 2) (pe_op op_pow pe_int pe_int) (nomark _)) pa_nil))))
        (pa_cons pe_int pa_nil)))))), ?_⟩
    refine ⟨.ref a, rfl, 61, rfl, a, _, rfl, ha, fun p np => ?_⟩
    have ecut : cutV (ns.map V.int) none (some 61) = (ns.take 61).map V.int := by
      unfold cutV
      rw [HT.sIx_none, show HT.sIx (ns.map V.int).length (ns.map V.int).length (some 61) = min 61 (ns.map V.int).length from HT.sIx_nat _ _ 61]
      rw [List.drop_zero, Nat.sub_zero, ← List.take_eq_take_min, List.map_take]
    rw [ecut]
    have lcut : (ns.take 61).length ≤ 61 := by
      rw [List.length_take]
      omega
    generalize ens : ns.take 61 = xs at lcut ⊢
    have s1 : Same H (upd H p (.lst (xs.map V.int))) := same_new np
    refine ⟨p, rfl, ⟨_, SqL.of upd_same⟩, fun D nD => ?_⟩
    have nDp : D ≠ p := fun e => by
      rw [e, upd_same] at nD
      cases nD
    have nD0 : H D = none := s1.free nD
    refine lc_list (xs := xs.map V.int) (fun i H3 => H3 = upd (upd H p (.lst (xs.map V.int))) D (.lst ((xs.take i).map fun x => V.int (absI x)))) rfl
      (fun i H3 _ e => by rw [e]; exact SqL.of (by rw [upd_ne nDp.symm, upd_same])) (fun i x H3 hx e => ?_) (fun H3 e => ?_)
    · subst e
      obtain ⟨y, hy, rfl⟩ := get_map hx
      refine ⟨rfl, _, rfl, y, rfl, _, upd_same, line_lt (by rw [List.length_map, List.length_take]; omega), ?_⟩
      rw [upd_upd, take_snoc (fun x => V.int (absI x)) hy]
      rfl
    · subst e
      rw [List.length_map, List.take_length]
      have HD : (upd (upd H p (.lst (xs.map V.int))) D (.lst (xs.map fun x => V.int (absI x)))) D = some (.lst (xs.map fun x => V.int (absI x))) := upd_same
      have s2 : Same H (upd (upd H p (.lst (xs.map V.int))) D (.lst (xs.map fun x => V.int (absI x)))) := same_over s1 nD0
      generalize upd (upd H p (.lst (xs.map V.int))) D (.lst (xs.map fun x => V.int (absI x))) = H2 at HD s2 ⊢
      refine ⟨by decide, fun z nz => ?_⟩
      have s3 : Same H2 (upd H2 z (.lst [.int 0])) := same_new nz
      refine ⟨.ref a, rfl, a, _, rfl, .inl ((s2.trans s3).seq ha), rfl, .inr ⟨_, rfl, z, _, _, rfl, rfl, upd_same, ?_, ?_, ?_, fun y ny => ?_⟩⟩
      · split <;> decide
      · split <;> decide
      · refine Nat.le_trans ?_ (show 1 ≤ sizeLine by decide)
        show 1 * _ ≤ 1
        split <;> decide
      have erep : ∃ rp : List Int, (List.replicate (if decide (V.int ((ns.map V.int).length : Int) = V.int 0) = true then (1 : Int) else 0).toNat [V.int 0]).flatten = rp.map V.int ∧ rp.length ≤ 1 ∧ (ns = [] → rp.length = 1) ∧ (ns ≠ [] → rp.length = 0) := by
        by_cases e0 : ns = []
        · subst e0
          exact ⟨[0], rfl, Nat.le_refl _, fun _ => rfl, fun e => absurd rfl e⟩
        · have : ¬ (V.int ((ns.map V.int).length : Int) = V.int 0) := fun e => by
            have e1 := V.int.inj e
            rw [List.length_map] at e1
            exact e0 (List.length_eq_zero_iff.mp (by omega))
          rw [decide_eq_false this]
          exact ⟨[], rfl, Nat.zero_le _, fun e => absurd e e0, fun _ => rfl⟩
      obtain ⟨rp, erp, lrp, nrp, zrp⟩ := erep
      rw [erp]
      have nzH : H2 z = none := nz
      have nyz : y ≠ z := fun e => by
        rw [e, upd_same] at ny
        cases ny
      have HD3 : (upd (upd H2 z (.lst [.int 0])) y (.lst (rp.map V.int))) D = some (.lst (xs.map fun x => V.int (absI x))) := by
        rw [upd_ne (ne_of_none (s3 _ _ HD) ny)]
        exact s3 _ _ HD
      have s4 : Same H2 (upd (upd H2 z (.lst [.int 0])) y (.lst (rp.map V.int))) := s3.trans (same_new ny)
      refine ⟨D, y, _, _, rfl, rfl, HD3, upd_same, Nat.le_of_lt (line_lt (by rw [List.length_map, List.length_map]; omega)), fun c nc => ?_⟩
      generalize upd (upd H2 z (.lst [.int 0])) y (.lst (rp.map V.int)) = H3 at nc s4 HD3 ⊢
      have ecs : (xs.map fun x => V.int (absI x)) ++ rp.map V.int = (xs.map absI ++ rp).map V.int := by
        rw [List.map_append, List.map_map]
        rfl
      rw [ecs]
      have lcs : (xs.map absI ++ rp).length ≤ 61 ∧ 0 < (xs.map absI ++ rp).length := by
        rw [List.length_append, List.length_map, ← ens]
        rw [← ens] at lcut
        rw [List.length_take] at lcut ⊢
        by_cases e0 : ns = []
        · have := nrp e0
          subst e0
          simp only [List.length_nil]
          omega
        · have h0 : 0 < ns.length := List.length_pos_iff.mpr e0
          have := zrp e0
          omega
      generalize xs.map absI ++ rp = cs at lcs ⊢
      have nc0 : H c = none := s2.free (s4.free nc)
      have s5 : Same H (upd H3 c (.lst (cs.map V.int))) := same_over (s2.trans s4) nc0
      have hc5 : (upd H3 c (.lst (cs.map V.int))) c = some (.lst (cs.map V.int)) := upd_same
      generalize upd H3 c (.lst (cs.map V.int)) = H5 at s5 hc5 ⊢
      refine ⟨.ref c, rfl, .ref c, rfl, c, rfl, ⟨_, SqL.of hc5⟩, fun r nr => ?_⟩
      have ncr : c ≠ r := ne_of_none hc5 nr
      refine lc_list (xs := cs.map V.int) (fun i H6 => H6 = upd H5 r (.lst ((cs.take i).map fun x => V.int (bigI x)))) rfl
        (fun i H6 _ e => by rw [e]; exact SqL.of (by rw [upd_ne ncr, hc5])) (fun i x H6 hx e => ?_) (fun H6 e => ?_)
      · subst e
        obtain ⟨y, hy, rfl⟩ := get_map hx
        refine ⟨rfl, _, rfl, _, rfl, 10, 18, rfl, rfl, ⟨by decide, by decide, by decide⟩, _, _, rfl, rfl, .inr ⟨_, rfl, _, _, rfl, rfl, .inr ?_, _, upd_same, line_lt (by rw [List.length_map, List.length_take]; omega), ?_⟩⟩
        · split <;> exact ⟨by decide, by decide⟩
        rw [upd_upd, take_snoc (fun x => V.int (bigI x)) hy]
        rfl
      · subst e
        rw [List.length_map, List.take_length]
        have nr0 : H r = none := s5.free nr
        refine ⟨(show 3 ≤ sizeLine by decide), fun d nd0 => ?_⟩
        have ndr : r ≠ d := ne_of_none upd_same nd0
        have ndc : c ≠ d := ne_of_none (by rw [upd_ne ncr]; exact hc5) nd0
        have ndH : H d = none := (same_over s5 nr0).free nd0
        refine q _ d c r (same_over (same_over s5 nr0) ndH) ndH nc0 nr0 ⟨⟨cs, cs.map bigI, 0, upd_same, ?_, ?_, (List.length_map _).symm, lcs.2, lcs.1, Nat.le_refl _⟩, ndc.symm, ndr.symm, ncr⟩
        · rw [upd_ne ndc, upd_ne ncr]
          exact hc5
        · rw [upd_ne ndr, upd_same, List.map_map]
          rfl
end
end DS
namespace DS
open PySem PySem.Spec PyProof.Rows L2
abbrev sMixed : Stmt := topS 19
abbrev sWon : Stmt := topS 20
theorem scMixed : FnScope ["_law_deck_here", "_law_items", "_law_left", "_law_found"] ["_law_deck_here", "_law_items"] (defScope sMixed) := ⟨rfl, rfl, rfl, by decide +kernel, rfl, by decide +kernel, by decide +kernel⟩
theorem scWon : FnScope ["_law_deck_here", "_law_way", "_law_one_here", "_law_other"] ["_law_deck_here", "_law_way", "_law_one_here", "_law_other"] (defScope sWon) := ⟨rfl, rfl, rfl, by decide +kernel, rfl, by decide +kernel, by decide +kernel⟩
theorem Deck.same {H H1 : Hp} {d c r : Addr} {n : Nat} (D : Deck H d c r n) (s : Same H H1) : Deck H1 d c r n := by
  obtain ⟨⟨cs, rs, k, h1, h2, h3, h4⟩, a, b, e⟩ := D
  exact ⟨⟨cs, rs, k, s _ _ h1, s _ _ h2, s _ _ h3, h4⟩, a, b, e⟩
theorem Deck.upd {H : Hp} {d c r p : Addr} {n : Nat} {o : HO} (D : Deck H d c r n) (hd : p ≠ d) (hc : p ≠ c) (hr : p ≠ r) : Deck (upd H p o) d c r n := by
  obtain ⟨⟨cs, rs, k, h1, h2, h3, h4⟩, a, b, e⟩ := D
  exact ⟨⟨cs, rs, k, by rw [upd_ne hd.symm]; exact h1, by rw [upd_ne hc.symm]; exact h2, by rw [upd_ne hr.symm]; exact h3, h4⟩, a, b, e⟩
theorem Deck.mono {H : Hp} {d c r : Addr} {n m : Nat} (D : Deck H d c r n) (h : n ≤ m) : Deck H d c r m := by
  obtain ⟨⟨cs, rs, k, h1, h2, h3, h4, h5, h6, h7⟩, a, b, e⟩ := D
  exact ⟨⟨cs, rs, k, h1, h2, h3, h4, h5, h6, Nat.le_trans h7 h⟩, a, b, e⟩
theorem Deck.ned {H : Hp} {d c r p : Addr} {n : Nat} (D : Deck H d c r n) (h : H p = none) : p ≠ d := by
  obtain ⟨⟨cs, rs, k, h1, h2, h3, h4⟩, a, b, e⟩ := D
  exact (ne_of_none h1 h).symm
theorem Deck.nec {H : Hp} {d c r p : Addr} {n : Nat} (D : Deck H d c r n) (h : H p = none) : p ≠ c := by
  obtain ⟨⟨cs, rs, k, h1, h2, h3, h4⟩, a, b, e⟩ := D
  exact (ne_of_none h2 h).symm
theorem Deck.ner {H : Hp} {d c r p : Addr} {n : Nat} (D : Deck H d c r n) (h : H p = none) : p ≠ r := by
  obtain ⟨⟨cs, rs, k, h1, h2, h3, h4⟩, a, b, e⟩ := D
  exact (ne_of_none h3 h).symm
theorem Frm.over {d r p : Addr} {H H1 : Hp} {o : HO} (f : Frm d r H H1) (h : H p = none) : Frm d r H (upd H1 p o) := fun b x e h1 h2 => by
  rw [upd_ne (ne_of_none e h)]
  exact f b x e h1 h2
/-- an address that is new ahead is no part of what the deck's frame keeps, and stands where it is told -/
theorem Frm.get {d r p : Addr} {H H1 : Hp} {o : HO} (f : Frm d r H H1) (h : H p = some o) (h1 : p ≠ d) (h2 : p ≠ r) : H1 p = some o := f p o h h1 h2
section
variable {P : Program} {w : World} {K : PySem.W.Frag} {mg : Str → Option Value} {base : Heap}
def spWon : Sp := fun vs H Q _ => ∃ (d c r : Addr) (n : Nat) (y i j : Int), vs = [.ref d, .int y, .int i, .int j] ∧ Deck H d c r n ∧ n < 2 ^ 40 ∧
  ∀ (H' : Hp) (b : Bool), Deck H' d c r (n + 1) → Frm d r H H' → Q (.bl b) H'
theorem ok_won {f fN : Addr} {fd fdN : FuncData} {k : Nat} (F : Fun K "_law_won" "_law_won" sWon f fd) (FN : Fun K "_law_next" "_law_next" sNext fN fdN) (bN : Binds K fdN ["_law_deck_here", "_law_many"] []) (gN : mg "_law_next" = some (.ref fN)) (ml : mg "len" = none) :
    FnOk P w K mg base CX0 (k + 2) f fd ["_law_deck_here", "_law_way", "_law_one_here", "_law_other"] spWon := by
  have GN : FnOk P w K mg base CX0 (k + 1) fN fdN ["_law_deck_here", "_law_many"] spNext := ok_next FN ml
  refine F.ok scWon (fun vs H Q E h => ?_) (fun cdv A outer s H vs Q E hr h => ?_)
  · obtain ⟨d, c, r, n, y, i, j, rfl, _⟩ := h
    rfl
  · obtain ⟨d, c, r, n, y, i, j, rfl, D, hn, q⟩ := h
    have nd := scWon.nd
    refine ⟨_, pss_cons (ps_if (pt_cmpR op_eq (pv 1) pe_int (nomark _)) (pss_one (ps_ret (pe_cmpR op_eq (pe_call GN hr (by rfl) gN FN.kp bN .nil pass0 (pa_cons (pv 0) (pa_cons pe_int pa_nil))) pe_int (nomark _)))) pss_nil)
      (pss_cons (ps_if (pt_cmpR op_eq (pv 1) pe_int (nomark _)) (pss_one (ps_ret (pe_cmpR op_gt (pe_call GN hr (by rfl) gN FN.kp bN .nil pass0 (pa_cons (pv 0) (pa_cons pe_int pa_nil))) pe_int (nomark _)))) pss_nil)
      (pss_cons (ps_if (pt_cmpR op_eq (pv 1) pe_int (nomark _)) (pss_one (ps_ret (pe_cmpR op_eq (pe_op op_mod (pe_op op_sub (pv 3) (pv 2)) pe_int) pe_int (nomark _)))) pss_nil)
      (pss_cons (ps_if (pt_cmpR op_eq (pe_op op_fdiv (pv 2) pe_int) (pe_op op_fdiv (pv 3) pe_int) (nomark _)) (pss_one (ps_ret (pe_cmpR op_eq (pe_call GN hr (by rfl) gN FN.kp bN .nil pass0 (pa_cons (pv 0) (pa_cons pe_int pa_nil))) pe_int (nomark _)))) pss_nil)
      (pss_one (ps_ret (pe_cmpR op_eq (pe_op op_mod (pe_op op_sub (pe_op op_fdiv (pv 3) pe_int) (pe_op op_fdiv (pv 2) pe_int)) pe_int) pe_int (nomark _))))))), ?_⟩
    have two : (0 : Int) < 2 := by decide
    refine ⟨.int y, rfl, rfl, _, rfl, ite2 (fun _ => ?_) (fun _ => ?_)⟩
    · exact ⟨.ref d, rfl, d, c, r, n, 2, rfl, D, hn, by decide, by decide, fun H' k _ _ D' f => ⟨rfl, q _ _ D' f⟩⟩
    refine ⟨.int y, rfl, rfl, _, rfl, ite2 (fun _ => ?_) (fun _ => ?_)⟩
    · exact ⟨.ref d, rfl, d, c, r, n, 6, rfl, D, hn, by decide, by decide, fun H' k _ _ D' f => ⟨_, _, rfl, rfl, q _ _ D' f⟩⟩
    refine ⟨.int y, rfl, rfl, _, rfl, ite2 (fun _ => ?_) (fun _ => ?_)⟩
    · exact ⟨.int j, rfl, .int i, rfl, _, _, rfl, rfl, _, _, rfl, rfl, two, rfl, q _ _ (D.mono (Nat.le_succ _)) Frm.refl⟩
    refine ⟨.int i, rfl, _, _, rfl, rfl, ⟨by decide, by decide⟩, .int j, rfl, _, _, rfl, rfl, ⟨by decide, by decide⟩, rfl, _, rfl, ite2 (fun _ => ?_) (fun _ => ?_)⟩
    · exact ⟨.ref d, rfl, d, c, r, n, 2, rfl, D, hn, by decide, by decide, fun H' k _ _ D' f => ⟨rfl, q _ _ D' f⟩⟩
    exact ⟨.int j, rfl, _, _, rfl, rfl, ⟨by decide, by decide⟩, .int i, rfl, _, _, rfl, rfl, ⟨by decide, by decide⟩, _, _, rfl, rfl, _, _, rfl, rfl, two, rfl, q _ _ (D.mono (Nat.le_succ _)) Frm.refl⟩
end
end DS
namespace DS
open PySem PySem.Spec PyProof.Rows L2
theorem dp_ints {K : PySem.W.Frag} {H : Hp} : ∀ ns : List Int, DpAll K H (ns.map V.int) (ns.map PyData.int)
  | [] => .nil
  | n :: ns => .cons (.int n) (dp_ints ns)
theorem eqv_nil (ns : List Int) : PyData.eqv (.list (ns.map PyData.int)) (.list []) = decide (ns = []) := by
  cases ns with
  | nil => simp [PyData.eqv, PyData.eqvAll]
  | cons x r => simp [PyData.eqv, PyData.eqvAll]
theorem seqIx {n j : Nat} (h : j < n) : seqIndex? (j : Int) n = some j := by
  unfold seqIndex?
  simp
  omega
theorem erase_map {α β : Type} (f : α → β) : ∀ (l : List α) (j : Nat), (l.map f).eraseIdx j = (l.eraseIdx j).map f
  | [], _ => rfl
  | _ :: _, 0 => rfl
  | x :: l, j + 1 => by
    show f x :: (l.map f).eraseIdx j = f x :: (l.eraseIdx j).map f
    rw [erase_map f l j]
theorem erase_perm {α : Type} : ∀ (l : List α) (j : Nat) (h : j < l.length), (l[j] :: l.eraseIdx j).Perm l
  | [], j, h => absurd h (Nat.not_lt_zero _)
  | x :: l, 0, _ => List.Perm.refl _
  | x :: l, j + 1, h => by
    have ih := erase_perm l j (Nat.lt_of_succ_lt_succ h)
    exact (List.Perm.swap x (l[j]'(Nat.lt_of_succ_lt_succ h)) (l.eraseIdx j)).trans (List.Perm.cons x ih)
section
variable {P : Program} {w : World} {K : PySem.W.Frag} {mg : Str → Option Value} {base : Heap}
def spMixed (K : PySem.W.Frag) : Sp := fun vs H Q _ => ∃ (d c r l : Addr) (n : Nat) (xs : List Int), vs = [.ref d, .ref l] ∧ SqL K H l (xs.map V.int) ∧ xs.length ≤ 1000 ∧ Deck H d c r n ∧ n + 1000 < 2 ^ 40 ∧
  ∀ (H' : Hp) (p : Addr) (ys : List Int), ys.Perm xs → Deck H' d c r (n + xs.length) → Frm d r H H' → H p = none → H' p = some (.lst (ys.map V.int)) → Q (.ref p) H'
theorem ok_mixed {f fN : Addr} {fd fdN : FuncData} {k : Nat} (F : Fun K "_law_mixed" "_law_mixed" sMixed f fd) (FN : Fun K "_law_next" "_law_next" sNext fN fdN) (bN : Binds K fdN ["_law_deck_here", "_law_many"] []) (gN : mg "_law_next" = some (.ref fN)) (ml : mg "len" = none) (mls : mg "list" = none) :
    FnOk P w K mg base CX0 (k + 2) f fd ["_law_deck_here", "_law_items"] (spMixed K) := by
  have GN : FnOk P w K mg base CX0 (k + 1) fN fdN ["_law_deck_here", "_law_many"] spNext := ok_next FN ml
  refine F.ok scMixed (fun vs H Q E h => ?_) (fun cdv A outer s H vs Q E hr h => ?_)
  · obtain ⟨d, c, r, l, n, xs, rfl, _⟩ := h
    rfl
  · obtain ⟨d, c, r, l, n, xs, rfl, hl, hx, D, hn, q⟩ := h
    have nd := scMixed.nd
    refine ⟨_, pss_cons (ps_par (by rfl) nd (i := 2) (j := 3) rfl rfl (by decide) rfl rfl (pa_cons (pe_callTy call_list_of (by rfl) mls (by decide +kernel) (pa_cons (pv 1) pa_nil)) (pa_cons (pe_lst pa_nil) pa_nil)) (by rfl))
      (pss_cons (ps_while PassesOwn.never (pt_cmpR (op_neD hr.units) (pv 2) (pe_lst pa_nil) (nomark _))
        (pss_one (ps_expr (pe_bm PySem.F.plainAttrs_list PySem.F.slot_list_append PySem.F.type_list_append mt_append (pv 3) (pa_cons
          (pe_bm PySem.F.plainAttrs_list PySem.F.slot_list_pop PySem.F.type_list_pop mt_popAt (pv 2) (pa_cons
            (pe_call GN hr (by rfl) gN FN.kp bN .nil pass0 (pa_cons (pv 0) (pa_cons (pe_callB call_len_seq (by rfl) ml PySem.boot_len (pa_cons (pv 2) pa_nil)) pa_nil))) pa_nil)) pa_nil)))))
      (pss_one (ps_ret (pv 3)))), ?_⟩
    refine ⟨.ref l, rfl, l, _, rfl, .inl hl, fun L nL => ⟨Nat.zero_le _, fun G nG => ⟨_, _, rfl, ?_⟩⟩⟩
    have hL0 : (upd (upd H L (.lst (xs.map V.int))) G (.lst [])) L = some (.lst (xs.map V.int)) := by
      rw [upd_ne (ne_of_none upd_same nG), upd_same]
    have nLG : L ≠ G := ne_of_none upd_same nG
    have nG0 : H G = none := (same_new nL).free nG
    have D0 : Deck (upd (upd H L (.lst (xs.map V.int))) G (.lst [])) d c r n := D.same ((same_new nL).trans (same_new nG))
    have f0 : Frm d r H (upd (upd H L (.lst (xs.map V.int))) G (.lst [])) := (Frm.refl.over nL).over nG0
    have hG0 : (upd (upd H L (.lst (xs.map V.int))) G (.lst [])) G = some (.lst (([] : List Int).map V.int)) := upd_same
    generalize upd (upd H L (.lst (xs.map V.int))) G (.lst []) = H0 at hL0 D0 f0 hG0 ⊢
    refine ⟨fun m σ H' => ∃ ls fs : List Int, σ = [some (.ref d), some (.ref l), some (.ref L), some (.ref G)] ∧ m = ls.length ∧ H' L = some (.lst (ls.map V.int)) ∧ H' G = some (.lst (fs.map V.int)) ∧ (fs ++ ls).Perm xs ∧ Deck H' d c r (n + fs.length) ∧ Frm d r H H',
      ⟨xs.length, xs, [], rfl, rfl, hL0, hG0, List.Perm.refl _, D0, f0⟩, fun m σ H' hW => ?_⟩
    obtain ⟨ls, fs, rfl, rfl, hL, hG, hP, DD, ff⟩ := hW
    have hlen : fs.length + ls.length = xs.length := by
      rw [← hP.length_eq, List.length_append]
    refine ⟨.ref L, rfl, Nat.zero_le _, fun z nz => ?_⟩
    have sz : Same H' (upd H' z (.lst [])) := same_new nz
    refine ⟨.list (ls.map PyData.int), .list [], .lst (SqL.of (sz _ _ hL)) (dp_ints ls), .lst (SqL.of upd_same) .nil, PySem.W.ke_shaped_ints ls, PySem.W.ke_shaped_ints [], _, rfl, ?_⟩
    rw [eqv_nil]
    have DD1 := DD.same sz
    have hL1 := sz _ _ hL
    have hG1 := sz _ _ hG
    have ff1 : Frm d r H (upd H' z (.lst [])) := ff.trans (Frm.of_same sz)
    generalize upd H' z (.lst []) = H1 at DD1 hL1 hG1 ff1 ⊢
    have hLd := D.ned nL
    have hLr := D.ner nL
    have hLc := D.nec nL
    have hGd := D.ned nG0
    have hGr := D.ner nG0
    have hGc := D.nec nG0
    by_cases hls : ls = []
    · rw [decide_eq_true hls]
      refine iteF ?_
      subst hls
      rw [List.append_nil] at hP
      refine ⟨.ref G, rfl, q H1 G fs hP ?_ ff1 nG0 hG1⟩
      rw [← hP.length_eq]
      exact DD1
    · rw [decide_eq_false hls]
      refine iteT ?_
      have lp : 0 < ls.length := List.length_pos_iff.mpr hls
      refine ⟨fun σ' H2 => ∃ ls' fs' : List Int, σ' = [some (.ref d), some (.ref l), some (.ref L), some (.ref G)] ∧ ls'.length < ls.length ∧ H2 L = some (.lst (ls'.map V.int)) ∧ H2 G = some (.lst (fs'.map V.int)) ∧ (fs' ++ ls').Perm xs ∧ Deck H2 d c r (n + fs'.length) ∧ Frm d r H H2,
        fun σ' H2 ⟨ls', fs', e1, e2, e3⟩ => ⟨ls'.length, e2, ls', fs', e1, rfl, e3⟩, ?_⟩
      refine ⟨.ref G, rfl, .inl ⟨rfl, _, SqL.of hG1⟩, .ref L, rfl, .inl ⟨rfl, _, SqL.of hL1⟩, .ref d, rfl, .ref L, rfl, L, _, rfl, .inl (SqL.of hL1), d, c, r, n + fs.length, _, rfl, DD1, by omega, by rw [List.length_map]; omega, by rw [List.length_map]; omega, fun H2 kk k0 k1 D2 f2 => ?_⟩
      rw [List.length_map] at k1
      obtain ⟨j, rfl⟩ : ∃ j : Nat, kk = (j : Int) := ⟨kk.toNat, by omega⟩
      have hj : j < ls.length := by omega
      have hL2 : H2 L = some (.lst (ls.map V.int)) := f2.get hL1 hLd hLr
      have hG2 : H2 G = some (.lst (fs.map V.int)) := f2.get hG1 hGd hGr
      have gj : (ls.map V.int)[j]? = some (.int ls[j]) := by
        rw [List.getElem?_map, List.getElem?_eq_getElem hj]
        rfl
      refine ⟨L, _, _, j, _, rfl, rfl, hL2, by omega, by omega, seqIx (by rw [List.length_map]; exact hj), gj, G, _, _, rfl, rfl, by rw [upd_ne nLG.symm]; exact hG2, line_lt (by rw [List.length_map]; omega), ?_⟩
      refine ⟨ls.eraseIdx j, fs ++ [ls[j]], rfl, ?_, ?_, ?_, ?_, ?_, ?_⟩
      · rw [List.length_eraseIdx_of_lt hj]
        omega
      · rw [upd_ne nLG, upd_same, erase_map]
      · rw [upd_same, List.map_append]
        rfl
      · refine List.Perm.trans ?_ hP
        rw [List.append_assoc]
        exact List.Perm.append_left _ (erase_perm ls j hj)
      · rw [List.length_append]
        exact ((D2.upd hLd hLc hLr).upd hGd hGc hGr).mono (Nat.le_refl _)
      · exact ((ff1.trans f2).over nL).over nG0
end
end DS
namespace DS
open PySem PySem.Spec PyProof.Rows L2
def sgn (b : Nat → Nat → Bool) (i j : Nat) : Nat := if i = j then 46 else if b i j then 43 else 45
def Trn (n : Nat) (b : Nat → Nat → Bool) : Prop := ∀ i j, i < n → j < n → i ≠ j → b i j = !b j i
def rowS (n : Nat) (b : Nat → Nat → Bool) (i : Nat) : Str := ⟨((List.range n).map (sgn b i)).toArray⟩
def tabS (n : Nat) (b : Nat → Nat → Bool) : List Str := (List.range n).map (rowS n b)
theorem str_ext {x y : Str} (h : x.cps.toList = y.cps.toList) : x = y := by
  cases x with
  | mk a =>
    cases y with
    | mk b =>
      have e : a.toList = b.toList := h
      rw [Array.toList_inj.mp e]
/-- texts of one sign each, put together -/
theorem join_signs : ∀ cs : List Nat, Txt.join (Str.ofString "") (cs.map fun c => (⟨#[c]⟩ : Str)) = ⟨cs.toArray⟩ := by
  intro cs
  have e := join_plain_closes (Str.ofString "") (cs.map fun c => (⟨#[c]⟩ : Str))
  rw [eq_of_beq e]
  refine str_ext ?_
  show _ = cs
  induction cs with
  | nil => rfl
  | cons c r ih =>
    cases r with
    | nil => rfl
    | cons c2 r =>
      show ((⟨#[c]⟩ : Str) ++ Str.ofString "" ++ Str.join (Str.ofString "") ((c2 :: r).map fun c => (⟨#[c]⟩ : Str))).cps.toList = _
      have e2 := ih (join_plain_closes (Str.ofString "") ((c2 :: r).map fun c => (⟨#[c]⟩ : Str)))
      rw [Str.cps_append, Str.cps_append, Array.toList_append, Array.toList_append, e2]
      rfl
/-- a pair of places, drawn: one wins -/
def Dr (g : Nat → Nat → Nat) (i j : Nat) : Prop := (g i j = 43 ∧ g j i = 45) ∨ (g i j = 45 ∧ g j i = 43)
/-- the signs at their places, with the pairs ahead of (i0, j0) drawn -/
structure Sg (H : Hp) (S : Addr) (Rs : List Addr) (z : Nat) (g : Nat → Nat → Nat) : Prop where
  top : H S = some (.lst (Rs.map V.ref))
  len : Rs.length = z
  nod : Rs.Nodup
  row : ∀ i R, Rs[i]? = some R → H R = some (.lst ((List.range z).map fun j => V.str ⟨#[g i j]⟩))
theorem nodup_ix {Rs : List Addr} (h : Rs.Nodup) {i j : Nat} {R : Addr} (hi : Rs[i]? = some R) (hj : Rs[j]? = some R) : i = j := by
  obtain ⟨h1, e1⟩ := List.getElem?_eq_some_iff.mp hi
  obtain ⟨h2, e2⟩ := List.getElem?_eq_some_iff.mp hj
  rcases Nat.lt_trichotomy i j with x | x | x
  · exact absurd (e1.trans e2.symm) (List.pairwise_iff_getElem.mp h i j h1 h2 x)
  · exact x
  · exact absurd (e2.trans e1.symm) (List.pairwise_iff_getElem.mp h j i h2 h1 x)
def put (g : Nat → Nat → Nat) (i j v : Nat) : Nat → Nat → Nat := fun a b => if a = i ∧ b = j then v else g a b
theorem Sg.put {H : Hp} {S R : Addr} {Rs : List Addr} {z : Nat} {g : Nat → Nat → Nat} (h : Sg H S Rs z g) {i j v : Nat} (hi : Rs[i]? = some R) (hj : j < z) (hS : S ≠ R) :
    Sg (upd H R (.lst (((List.range z).map fun j => V.str ⟨#[g i j]⟩).set j (V.str ⟨#[v]⟩)))) S Rs z (put g i j v) := by
  refine ⟨by rw [upd_ne hS]; exact h.top, h.len, h.nod, fun a R' ha => ?_⟩
  by_cases e : a = i
  · subst e
    obtain rfl : R' = R := Option.some.inj (ha.symm.trans hi)
    rw [upd_same]
    congr 2
    apply List.ext_getElem?
    intro k
    rw [List.getElem?_set, List.getElem?_map, List.getElem?_map]
    by_cases ek : k < z
    · rw [List.getElem?_range ek]
      by_cases e2 : j = k
      · subst e2
        rw [if_pos rfl, List.length_map, List.length_range, if_pos hj]
        simp [DS.put]
      · rw [if_neg e2]
        have e3 : ¬ k = j := fun x => e2 x.symm
        simp [DS.put, e3]
    · have e4 : (List.range z)[k]? = none := List.getElem?_eq_none (by rw [List.length_range]; omega)
      rw [e4]
      by_cases e2 : j = k
      · omega
      · rw [if_neg e2]
        rfl
  · have hR : R' ≠ R := fun x => e (nodup_ix h.nod (x ▸ ha) hi)
    rw [upd_ne hR, h.row a R' ha]
    congr 2
    apply List.map_congr_left
    intro k _
    have e5 : ¬ (a = i ∧ k = j) := fun x => e x.1
    simp [DS.put, e5]
theorem rep_range {x : V} : ∀ n : Nat, (List.replicate n [x]).flatten = (List.range n).map fun _ => x
  | 0 => rfl
  | n + 1 => by
    rw [List.replicate_succ, List.flatten_cons, rep_range n, List.range_succ_eq_map, List.map_cons, List.map_map]
    rfl
end DS
namespace DS
open PySem PySem.Spec PyProof.Rows L2
abbrev sTable : Stmt := topS 21
abbrev nTable : List Str := ["_law_deck_here", "_law_most", "_law_size", "_law_way", "_law_one_here", "_law_signs", "_law_other", "_law_won_here", "_law_order"]
theorem scTable : FnScope nTable ["_law_deck_here", "_law_most"] (defScope sTable) := ⟨rfl, rfl, rfl, by decide +kernel, rfl, by decide +kernel, by decide +kernel⟩
theorem Frm.free {H H1 : Hp} {d c r p : Addr} {n m : Nat} (f : Frm d r H H1) (D : Deck H d c r n) (D1 : Deck H1 d c r m) (h : H1 p = none) : H p = none := by
  cases e : H p with
  | none => rfl
  | some x =>
    have := f p x e (D1.ned h) (D1.ner h)
    rw [h] at this
    cases this
/-- the reading of a row of the table that is put together -/
def teRow (K : PySem.W.Frag) : TE := tM1 (fun x xs H Q => ∃ a p, ∃ ys : List Str, x = .str a ∧ xs = [.ref p] ∧ (SqL K H p (ys.map V.str) ∨ SqT K H p (ys.map V.str)) ∧ (ys.map (·.length)).sum + ys.length * a.length ≤ 16777216 ∧ Q (.str (Txt.join a ys)) H)
  (tC (.str "")) (tLc (iList K (tVar 8)) (gName 6) tYes (tOp (rIxL K) (tOp (rIxL K) (tVar 5) (tVar 4)) (tVar 6)) [6])
section
variable {P : Program} {w : World} {K : PySem.W.Frag} {mg : Str → Option Value} {base : Heap}
def spTable : Sp := fun vs H Q _ => ∃ (d c r : Addr) (n m : Nat), vs = [.ref d, .int m] ∧ Deck H d c r n ∧ n + 2000 < 2 ^ 40 ∧ 1 ≤ m ∧ m ≤ 9 ∧
  ∀ (H' : Hp) (t : Addr) (z : Nat) (b : Nat → Nat → Bool), 1 ≤ z → z ≤ m → Trn z b → Deck H' d c r (n + 100) → Frm d r H H' → H t = none → H' t = some (.tup ((tabS z b).map V.str)) → Q (.ref t) H'
theorem ok_table {f fN fW fM : Addr} {fd fdN fdW fdM : FuncData} {k : Nat} (F : Fun K "_law_table" "_law_table" sTable f fd) (FN : Fun K "_law_next" "_law_next" sNext fN fdN) (bN : Binds K fdN ["_law_deck_here", "_law_many"] []) (gN : mg "_law_next" = some (.ref fN))
    (FW : Fun K "_law_won" "_law_won" sWon fW fdW) (bW : Binds K fdW ["_law_deck_here", "_law_way", "_law_one_here", "_law_other"] []) (gW : mg "_law_won" = some (.ref fW))
    (FM : Fun K "_law_mixed" "_law_mixed" sMixed fM fdM) (bM : Binds K fdM ["_law_deck_here", "_law_items"] []) (gM : mg "_law_mixed" = some (.ref fM))
    (ml : mg "len" = none) (mls : mg "list" = none) (mr : mg "range" = none) (mi : mg "int" = none) (mt : mg "tuple" = none) :
    FnOk P w K mg base CX0 (k + 3) f fd ["_law_deck_here", "_law_most"] spTable := by
  have GN : FnOk P w K mg base CX0 (k + 1) fN fdN ["_law_deck_here", "_law_many"] spNext := ok_next FN ml
  have GW : FnOk P w K mg base CX0 (k + 2) fW fdW ["_law_deck_here", "_law_way", "_law_one_here", "_law_other"] spWon := ok_won FW FN bN gN ml
  have GM : FnOk P w K mg base CX0 (k + 2) fM fdM ["_law_deck_here", "_law_items"] (spMixed K) := ok_mixed FM FN bN gN ml mls
  refine F.ok scTable (fun vs H Q E h => ?_) (fun cdv A outer s H vs Q E hr h => ?_)
  · obtain ⟨d, c, r, n, m, rfl, _⟩ := h
    rfl
  · obtain ⟨d, c, r, n, m, rfl, D, hn, m0, m1, q⟩ := h
    have nd := scTable.nd
    have hr1 := hr.mono (show k + 1 ≤ k + 2 by omega)
    refine ⟨_, pss_cons (ps_asg (pe_tup (pa_cons (pe_op op_add pe_int (pe_call GN hr1 (by rfl) gN FN.kp bN .nil pass0 (pa_cons (pv 0) (pa_cons (pv 1) pa_nil)))) (pa_cons (pe_call GN hr1 (by rfl) gN FN.kp bN .nil pass0 (pa_cons (pv 0) (pa_cons pe_int pa_nil))) pa_nil)))
        (pg_tup rfl (pgs_cons (pg_name (i := 2) nd rfl (.inr rfl)) (pgs_cons (pg_name (i := 3) nd rfl (.inl rfl)) pgs_nil))))
      (pss_cons (ps_set (i := 5) nd rfl (.inr rfl) (pe_lc (own := [("_law_one_here", 4)]) (g := gName 4) (tt := tYes) rfl nd (pi_range1 (by rfl) mr (pa_cons (pv 2) pa_nil)) (blkOk_by (by rfl))
          (fun _ _ _ _ _ => pg_name (i := 4) nd rfl (.inl rfl)) (fun _ _ _ _ _ => pts_nil) (fun _ _ _ _ _ => pe_op op_rep (pe_lst (pa_cons pe_str pa_nil)) (pv 2))))
      (pss_cons (ps_for PassesOwn.never rfl (pi_range1 (by rfl) mr (pa_cons (pv 2) pa_nil)) (pg_name (i := 4) nd rfl (.inl rfl))
        (pss_one (ps_for PassesOwn.never rfl (pi_range2 (by rfl) mr (pa_cons (pe_op op_add (pv 4) pe_int) (pa_cons (pv 2) pa_nil))) (pg_name (i := 6) nd rfl (.inl rfl))
          (pss_cons (ps_set (i := 7) nd rfl (.inl rfl) (pe_callTy call_int1 (by rfl) mi (by decide +kernel) (pa_cons (pe_call GW hr (by rfl) gW FW.kp bW .nil pass0 (pa_cons (pv 0) (pa_cons (pv 3) (pa_cons (pv 4) (pa_cons (pv 6) pa_nil))))) pa_nil)))
          (pss_cons (ps_asg (pe_ix ix_str pe_str (pv 7) (fun _ _ => rfl)) (pg_sub (pe_ix ix_list (pv 5) (pv 4) (fun _ _ => rfl)) (pv 6) set_list))
          (pss_one (ps_asg (pe_ix ix_str pe_str (pv 7) (fun _ _ => rfl)) (pg_sub (pe_ix ix_list (pv 5) (pv 6) (fun _ _ => rfl)) (pv 4) set_list))))))))
      (pss_cons (ps_set (i := 8) nd rfl (.inr rfl) (pe_call GM hr (by rfl) gM FM.kp bM .nil pass0 (pa_cons (pv 0) (pa_cons (pe_listRg rfl (by rfl) mls (prg_1 (by rfl) mr (pv 2))) pa_nil))))
      (pss_one (ps_ret (pe_callTy call_tuple_of (by rfl) mt (by decide +kernel) (pa_cons
        (pe_lc (own := [("_law_one_here", 4)]) (g := gName 4) (tt := tYes) (te := teRow K) rfl nd (pi_list (pv 8)) (blkOk_by (by rfl))
          (fun _ _ _ _ _ => pg_name (i := 4) nd rfl (.inr rfl)) (fun _ _ _ _ _ => pts_nil)
          (fun _ _ _ _ _ => pe_join pe_str (pe_lc (own := [("_law_other", 6)]) (g := gName 6) (tt := tYes) rfl nd (pi_list (pv 8)) (blkOk_by (by rfl))
            (fun _ _ _ _ _ => pg_name (i := 6) nd rfl (.inl rfl)) (fun _ _ _ _ _ => pts_nil) (fun _ _ _ _ _ => pe_ix ix_list (pe_ix ix_list (pv 5) (pv 4) (fun _ _ => rfl)) (pv 6) (fun _ _ => rfl))))) pa_nil))))))), ?_⟩
    refine ⟨.ref d, rfl, .int m, rfl, d, c, r, n, m, rfl, D, by omega, by omega, by omega, fun H1 k k0 k1 D1 f1 => ⟨_, _, rfl, rfl, ?_⟩⟩
    refine ⟨.ref d, rfl, d, c, r, n + 1, 4, rfl, D1, by omega, by decide, by decide, fun H2 y y0 y1 D2 f2 => ⟨(show 2 ≤ sizeLine by decide), fun T nT => ?_⟩⟩
    refine ⟨T, _, rfl, SqT.of upd_same, rfl, _, _, rfl, _, _, rfl, rfl, ?_⟩
    have f3 : Frm d r H (upd H2 T (.tup [.int (1 + k), .int y])) := (f1.trans f2).trans (Frm.of_same (same_new nT))
    have D3 : Deck (upd H2 T (.tup [.int (1 + k), .int y])) d c r (n + 2) := D2.same (same_new nT)
    generalize upd H2 T (.tup [.int (1 + k), .int y]) = H3 at f3 D3 ⊢
    obtain ⟨z, hz⟩ : ∃ z : Nat, 1 + k = (z : Int) := ⟨(1 + k).toNat, by omega⟩
    dsimp only
    rw [hz]
    have z0 : 1 ≤ z := by omega
    have z1 : z ≤ m := by omega
    have z9 : z ≤ 9 := by omega
    -- the signs, none drawn yet
    refine ⟨.int z, rfl, z, rfl, by omega, by omega, fun S nS => ?_⟩
    have Sd := D3.ned nS
    have Sr := D3.ner nS
    have Sc := D3.nec nS
    refine lc_range (lo := 0) (n := (z : Int).toNat) (fun i H' => ∃ Rs : List Addr, Rs.length = i ∧ Rs.Nodup ∧ (∀ R ∈ Rs, H3 R = none ∧ S ≠ R) ∧ H' S = some (.lst (Rs.map V.ref)) ∧
        (∀ R ∈ Rs, H' R = some (.lst ((List.range z).map fun _ => V.str ⟨#[46]⟩))) ∧ Same H3 H')
      ⟨[], rfl, List.Pairwise.nil, fun R h => absurd h List.not_mem_nil, upd_same, fun R h => absurd h List.not_mem_nil, same_new nS⟩ (fun i H' hi hP => ?_) (fun H' hP => ?_)
    · obtain ⟨Rs, e1, e2, e3, e4, e5, e6⟩ := hP
      refine ⟨rfl, (show 1 ≤ sizeLine by decide), fun p np => ⟨.int z, rfl, p, _, _, rfl, rfl, upd_same, by omega, by omega, ?_, fun R nR => ⟨Rs.map V.ref, ?_, line_lt (by rw [List.length_map]; omega), ?_⟩⟩⟩
      · show 1 * (z : Int).toNat ≤ sizeLine
        exact Nat.le_of_lt (line_lt (by omega))
      · rw [upd_ne (ne_of_none (same_new np _ _ e4) nR), upd_ne (ne_of_none e4 np)]
        exact e4
      · have nR' : H' R = none := (same_new np).free nR
        have SR : S ≠ R := ne_of_none e4 nR'
        refine ⟨Rs ++ [R], by rw [List.length_append, e1]; rfl, ?_, fun R' h => ?_, ?_, fun R' h => ?_, ?_⟩
        · refine List.nodup_append.mpr ⟨e2, List.nodup_cons.mpr ⟨List.not_mem_nil, List.Pairwise.nil⟩, fun a ha b hb => ?_⟩
          rw [List.mem_singleton.mp hb]
          exact ne_of_none (e5 a ha) nR'
        · rcases List.mem_append.mp h with h | h
          · exact e3 R' h
          · rw [List.mem_singleton.mp h]
            exact ⟨e6.free nR', SR⟩
        · rw [upd_same, List.map_append]
          rfl
        · rcases List.mem_append.mp h with h | h
          · rw [upd_ne (e3 R' h).2.symm, upd_ne (ne_of_none (e5 R' h) nR'), upd_ne (ne_of_none (e5 R' h) np)]
            exact e5 R' h
          · rw [List.mem_singleton.mp h, upd_ne SR.symm, upd_same, rep_range]
            rfl
        · exact same_over (same_over (same_over e6 (e6.free np)) (e6.free nR')) nS
    obtain ⟨Rs, e1, e2, e3, e4, e5, e6⟩ := hP
    have eR : Rs.length = z := by omega
    have sg0 : Sg H' S Rs z (fun _ _ => 46) := ⟨e4, eR, e2, fun i R h => e5 R (List.mem_of_getElem? h)⟩
    have nRd : ∀ R ∈ Rs, R ≠ d ∧ R ≠ c ∧ R ≠ r := fun R h => ⟨D3.ned (e3 R h).1, D3.nec (e3 R h).1, D3.ner (e3 R h).1⟩
    have D4 := D3.same e6
    have f4 : Frm d r H3 H' := Frm.of_same e6
    clear e4 e5 e6
    -- the duels
    have St : ∀ (y4 y6 y7 : Option V), [some (V.ref d), some (V.int m), some (V.int z), some (V.int y), y4, some (V.ref S), y6, y7, none] = [some (V.ref d), some (V.int m), some (V.int z), some (V.int y), y4, some (V.ref S), y6, y7, none] := fun _ _ _ => rfl
    refine ⟨.int z, rfl, z, rfl, by omega, by omega, ?_⟩
    refine for_range (lo := 0) (n := (z : Int).toNat) (fun i σ H4 => ∃ (y4 y6 y7 : Option V) (g : Nat → Nat → Nat), σ = [some (V.ref d), some (V.int m), some (V.int z), some (V.int y), y4, some (V.ref S), y6, y7, none] ∧
        Sg H4 S Rs z g ∧ (∀ a, a < z → g a a = 46) ∧ (∀ a b, a < i → a < b → b < z → Dr g a b) ∧ Deck H4 d c r (n + 2 + i * 9) ∧ Frm d r H3 H4)
      ⟨none, none, none, _, rfl, sg0, fun _ _ => rfl, fun a b h => absurd h (Nat.not_lt_zero _), D4.mono (by omega), f4⟩ (fun i σ H4 hi hP => ?_) (fun σ H4 hP => ?_)
    · obtain ⟨y4, y6, y7, g, rfl, sg, dg, dr, D5, f5⟩ := hP
      have iz : i < z := by omega
      refine ⟨_, rfl, _, _, rfl, rfl, .int z, rfl, _, _, rfl, ⟨by omega, by omega, by omega, by omega⟩, ?_⟩
      refine for_range (lo := 0 + (i : Int) + 1) (n := ((z : Int) - (0 + (i : Int) + 1)).toNat) (fun j σ H4 => ∃ (y6 y7 : Option V) (g : Nat → Nat → Nat), σ = [some (V.ref d), some (V.int m), some (V.int z), some (V.int y), some (V.int (0 + (i : Int))), some (V.ref S), y6, y7, none] ∧
          Sg H4 S Rs z g ∧ (∀ a, a < z → g a a = 46) ∧ (∀ a b, (a < i ∨ (a = i ∧ b < i + 1 + j)) → a < b → b < z → Dr g a b) ∧ Deck H4 d c r (n + 2 + i * 9 + j) ∧ Frm d r H3 H4)
        ⟨y6, y7, g, rfl, sg, dg, fun a b h h1 h2 => dr a b (by omega) h1 h2, D5, f5⟩ (fun j σ H5 hj hP => ?_) (fun σ H5 hP => ?_)
      · obtain ⟨y6, y7, g, rfl, sg, dg, dr, D5, f5⟩ := hP
        have jz : i + 1 + j < z := by omega
        have j9 : i < 9 ∧ j < 9 := by omega
        refine ⟨.ref d, rfl, .int y, rfl, _, rfl, _, rfl, d, c, r, n + 2 + i * 9 + j, y, _, _, rfl, D5, by omega, fun H6 b D6 f6 => .inr ⟨b, rfl, ?_⟩⟩
        obtain ⟨Ri, hRi⟩ : ∃ R, Rs[i]? = some R := ⟨Rs[i]'(by omega), List.getElem?_eq_getElem _⟩
        obtain ⟨Ro, hRo⟩ : ∃ R, Rs[i + 1 + j]? = some R := ⟨Rs[i + 1 + j]'(by omega), List.getElem?_eq_getElem _⟩
        have mi' := List.mem_of_getElem? hRi
        have mo' := List.mem_of_getElem? hRo
        have sg6 : Sg H6 S Rs z g := ⟨f6.get sg.top Sd Sr, sg.len, sg.nod, fun a R ha => f6.get (sg.row a R ha) (nRd R (List.mem_of_getElem? ha)).1 (nRd R (List.mem_of_getElem? ha)).2.2⟩
        have eo : (0 + (i : Int) + 1 + (j : Int)) = ((i + 1 + j : Nat) : Int) := by omega
        have ei : (0 + (i : Int)) = ((i : Nat) : Int) := by omega
        obtain ⟨v1, v2, c1, c2, hv⟩ : ∃ v1 v2 : Nat, atI (Str.ofString "-+").cps.toList (if b = true then (1 : Int) else 0) = some v1 ∧ atI (Str.ofString "+-").cps.toList (if b = true then (1 : Int) else 0) = some v2 ∧ ((v1 = 43 ∧ v2 = 45) ∨ (v1 = 45 ∧ v2 = 43)) := by
          cases b
          · exact ⟨45, 43, by decide +kernel, by decide +kernel, .inr ⟨rfl, rfl⟩⟩
          · exact ⟨43, 45, by decide +kernel, by decide +kernel, .inl ⟨rfl, rfl⟩⟩
        have gi : (Rs.map V.ref)[i]? = some (.ref Ri) := by
          rw [List.getElem?_map, hRi]
          rfl
        have go : (Rs.map V.ref)[i + 1 + j]? = some (.ref Ro) := by
          rw [List.getElem?_map, hRo]
          rfl
        have sg7 := sg6.put (v := v1) hRi jz (e3 Ri mi').2
        refine ⟨_, rfl, _, _, v1, rfl, rfl, by decide +kernel, c1, .ref S, rfl, _, rfl, S, _, _, .ref Ri, rfl, rfl, SqL.of sg6.top, by rw [ei]; exact atI_nat gi, _, rfl, Ri, _, _, i + 1 + j, rfl, rfl, sg6.row i Ri hRi, by rw [eo]; exact ixN_of (by rw [List.length_map, List.length_range]; exact jz), ?_⟩
        have D7 := D6.upd (o := .lst (((List.range z).map fun j => V.str ⟨#[g i j]⟩).set (i + 1 + j) (V.str ⟨#[v1]⟩))) (nRd Ri mi').1 (nRd Ri mi').2.1 (nRd Ri mi').2.2
        have f7 : Frm d r H3 (upd H6 Ri (.lst (((List.range z).map fun j => V.str ⟨#[g i j]⟩).set (i + 1 + j) (V.str ⟨#[v1]⟩)))) := (f5.trans f6).over (e3 Ri mi').1
        generalize upd H6 Ri (.lst (((List.range z).map fun j => V.str ⟨#[g i j]⟩).set (i + 1 + j) (V.str ⟨#[v1]⟩))) = H7 at sg7 D7 f7 ⊢
        have sg8 := sg7.put (v := v2) hRo iz (e3 Ro mo').2
        refine ⟨_, rfl, _, _, v2, rfl, rfl, by decide +kernel, c2, .ref S, rfl, _, rfl, S, _, _, .ref Ro, rfl, rfl, SqL.of sg7.top, by rw [eo]; exact atI_nat go, _, rfl, Ro, _, _, i, rfl, rfl, sg7.row _ Ro hRo, by rw [ei]; exact ixN_of (by rw [List.length_map, List.length_range]; exact iz), ?_⟩
        refine ⟨_, _, _, rfl, sg8, fun a ha => ?_, fun a b h h1 h2 => ?_, (D7.upd (nRd Ro mo').1 (nRd Ro mo').2.1 (nRd Ro mo').2.2).mono (Nat.le_refl _), f7.over (e3 Ro mo').1⟩
        · have n1 : ¬ (a = i + 1 + j ∧ a = i) := by omega
          have n2 : ¬ (a = i ∧ a = i + 1 + j) := by omega
          simp only [DS.put, n1, n2, if_false]
          exact dg a ha
        · by_cases hab : a = i ∧ b = i + 1 + j
          · obtain ⟨rfl, rfl⟩ := hab
            have n1 : ¬ (a = a + 1 + j ∧ a + 1 + j = a) := by omega
            have n2 : ¬ (a + 1 + j = a ∧ a = a + 1 + j) := by omega
            simp only [Dr, DS.put, n1, n2, if_false, and_self, if_true]
            exact hv
          · have n1 : ¬ (a = i + 1 + j ∧ b = i) := by omega
            have n2 : ¬ (b = i ∧ a = i + 1 + j) := by omega
            have n3 : ¬ (b = i + 1 + j ∧ a = i) := by omega
            simp only [Dr, DS.put, n1, n2, n3, hab, if_false]
            exact dr a b (by omega) h1 h2
      · obtain ⟨y6, y7, g, rfl, sg, dg, dr, D5, f5⟩ := hP
        exact ⟨_, y6, y7, g, rfl, sg, dg, fun a b h h1 h2 => dr a b (by omega) h1 h2, D5.mono (by omega), f5⟩
    obtain ⟨y4, y6, y7, g, rfl, sg, dg, dr, D5, f5⟩ := hP
    clear sg0 D4 f4 St
    -- the order
    have erg : rgV 0 (z : Int) = ((List.range z).map fun i : Nat => (i : Int)).map V.int := by
      unfold rgV
      rw [List.map_map, show ((z : Int) - 0).toNat = z by omega]
      apply List.map_congr_left
      intro i _
      show V.int (0 + (i : Int)) = V.int (i : Int)
      rw [Int.zero_add]
    refine ⟨.ref d, rfl, .int z, rfl, z, rfl, RgOk.of_le (by omega) (by omega) (by omega) (by omega), fun l nl => ?_⟩
    rw [erg]
    have s6 : Same H4 (upd H4 l (.lst (((List.range z).map fun i : Nat => (i : Int)).map V.int))) := same_new nl
    refine ⟨d, c, r, l, n + 2 + (z : Int).toNat * 9, (List.range z).map fun i : Nat => (i : Int), rfl, SqL.of upd_same, by rw [List.length_map, List.length_range]; omega, D5.same s6, by omega, fun H7 p ys hP D7 f7 np hp => ?_⟩
    have np4 : H4 p = none := s6.free np
    rw [List.length_map, List.length_range] at D7
    have f8 : Frm d r H4 H7 := (Frm.of_same s6).trans f7
    have sg8 : Sg H7 S Rs z g := ⟨f8.get sg.top Sd Sr, sg.len, sg.nod, fun a R ha => f8.get (sg.row a R ha) (nRd R (List.mem_of_getElem? ha)).1 (nRd R (List.mem_of_getElem? ha)).2.2⟩
    obtain ⟨us, hu, rfl⟩ : ∃ us : List Nat, us.Perm (List.range z) ∧ ys = us.map fun i : Nat => (i : Int) := by
      refine ⟨ys.map Int.toNat, ?_, ?_⟩
      · have e := hP.map Int.toNat
        rw [List.map_map] at e
        have e2 : (List.range z).map (Int.toNat ∘ fun i : Nat => (i : Int)) = List.range z := by
          conv => rhs; rw [← List.map_id (List.range z)]
          apply List.map_congr_left
          intro i _
          rfl
        rw [e2] at e
        exact e
      · rw [List.map_map]
        conv => lhs; rw [← List.map_id ys]
        apply List.map_congr_left
        intro y hy
        obtain ⟨i, _, rfl⟩ := List.mem_map.mp (hP.mem_iff.mp hy)
        rfl
    have ul : us.length = z := by rw [hu.length_eq, List.length_range]
    have und : us.Nodup := hu.nodup_iff.mpr List.nodup_range
    have uz : ∀ i u, us[i]? = some u → u < z := fun i u h => List.mem_range.mp (hu.mem_iff.mp (List.mem_of_getElem? h))
    rw [List.map_map] at hp
    -- the rows in this order
    refine ⟨.ref p, rfl, p, rfl, ⟨_, SqL.of hp⟩, fun B nB => ?_⟩
    refine lc_list (K := K) (a := p) (xs := us.map (V.int ∘ fun i : Nat => (i : Int))) (fun i H8 => Same H7 H8 ∧ H8 B = some (.lst ((us.take i).map fun a => V.str ⟨(us.map fun b => g a b).toArray⟩)))
      ⟨same_new nB, upd_same⟩ (fun i H8 _ h => h.1.seq (SqL.of hp)) (fun i x H8 hx h => ?_) (fun H8 h => ?_)
    · obtain ⟨s8, h8⟩ := h
      obtain ⟨a, ha, rfl⟩ := get_map hx
      have az := uz i a ha
      obtain ⟨Ra, hRa⟩ : ∃ R, Rs[a]? = some R := ⟨Rs[a]'(by have := sg8.len; omega), List.getElem?_eq_getElem _⟩
      have ga : (Rs.map V.ref)[a]? = some (.ref Ra) := by
        rw [List.getElem?_map, hRa]
        rfl
      refine ⟨rfl, ⟨_, rfl⟩, .ref p, rfl, p, rfl, ⟨_, s8.seq (SqL.of hp)⟩, fun C nC => ?_⟩
      refine lc_list (K := K) (a := p) (xs := us.map (V.int ∘ fun i : Nat => (i : Int))) (fun j H9 => Same H8 H9 ∧ H9 C = some (.lst ((us.take j).map fun b => V.str ⟨#[g a b]⟩)))
        ⟨same_new nC, upd_same⟩ (fun j H9 _ h => h.1.seq (s8.seq (SqL.of hp))) (fun j x H9 hx h => ?_) (fun H9 h => ?_)
      · obtain ⟨s9, h9⟩ := h
        obtain ⟨b, hb, rfl⟩ := get_map hx
        have bz := uz j b hb
        have gb : ((List.range z).map fun j => V.str ⟨#[g a j]⟩)[b]? = some (V.str ⟨#[g a b]⟩) := by
          rw [List.getElem?_map, List.getElem?_range bz]
          rfl
        refine ⟨rfl, .ref S, rfl, .int a, rfl, S, _, _, .ref Ra, rfl, rfl, (s8.trans s9).seq (SqL.of sg8.top), atI_nat ga, .int b, rfl, Ra, _, _, _, rfl, rfl, (s8.trans s9).seq (SqL.of (sg8.row a Ra hRa)), atI_nat gb, _, h9, line_lt (by rw [List.length_map, List.length_take]; omega), ?_⟩
        refine ⟨fun b' x e => ?_, ?_⟩
        · rw [upd_ne (ne_of_none e nC)]
          exact s9 b' x e
        · rw [upd_same, take_snoc (fun b => V.str ⟨#[g a b]⟩) hb]
      · obtain ⟨s9, h9⟩ := h
        rw [List.length_map, List.take_length] at h9
        have BC : B ≠ C := ne_of_none h8 nC
        have e9 : (us.map fun b => V.str ⟨#[g a b]⟩) = ((us.map fun b => g a b).map fun c => (⟨#[c]⟩ : Str)).map V.str := by
          rw [List.map_map, List.map_map]
          rfl
        rw [e9] at h9
        refine ⟨_, C, (us.map fun b => g a b).map fun c => (⟨#[c]⟩ : Str), rfl, rfl, .inl (SqL.of h9), ?_, _, s9 _ _ h8, line_lt (by rw [List.length_map, List.length_take]; omega), ?_⟩
        · have e10 : ∀ l : List Nat, ((l.map fun c => (⟨#[c]⟩ : Str)).map (·.length)).sum = l.length := by
            intro l
            induction l with
            | nil => rfl
            | cons c r ih =>
              rw [List.map_cons, List.map_cons, List.sum_cons, ih, List.length_cons]
              show 1 + r.length = r.length + 1
              omega
          rw [e10, List.length_map, List.length_map]
          show us.length + us.length * 0 ≤ 16777216
          omega
        · rw [join_signs]
          refine ⟨fun b' x e => ?_, ?_⟩
          · rw [upd_ne (ne_of_none e nB)]
            exact s9 _ _ (s8 b' x e)
          · rw [upd_same, take_snoc (fun a => V.str ⟨(us.map fun b => g a b).toArray⟩) ha]
    · obtain ⟨s8, h8⟩ := h
      rw [List.length_map, List.take_length] at h8
      refine ⟨B, _, rfl, .inl ⟨SqL.of h8, fun t nt => ?_⟩⟩
      have hg : ∀ i j a b, us[i]? = some a → us[j]? = some b → g a b = sgn (fun i j => g (us.getD i 0) (us.getD j 0) == 43) i j := fun i j a b hi hj => by
        have ei : us.getD i 0 = a := by rw [List.getD_eq_getElem?_getD, hi]; rfl
        have ej : us.getD j 0 = b := by rw [List.getD_eq_getElem?_getD, hj]; rfl
        show g a b = if i = j then 46 else if (g (us.getD i 0) (us.getD j 0) == 43) = true then 43 else 45
        rw [ei, ej]
        by_cases e : i = j
        · subst e
          obtain rfl : a = b := Option.some.inj (hi.symm.trans hj)
          rw [if_pos rfl]
          exact dg a (uz i a hi)
        · rw [if_neg e]
          have nab : a ≠ b := fun x => e (nodup_ix und hi (x ▸ hj))
          have az := uz i a hi
          have bz := uz j b hj
          rcases Nat.lt_or_gt_of_ne nab with x | x
          · rcases dr a b (by omega) x bz with ⟨h1, h2⟩ | ⟨h1, h2⟩ <;> rw [h1] <;> rfl
          · rcases dr b a (by omega) x az with ⟨h1, h2⟩ | ⟨h1, h2⟩ <;> rw [h2] <;> rfl
      refine q _ t z (fun i j => g (us.getD i 0) (us.getD j 0) == 43) z0 z1 (fun i j hi hj hij => ?_) ?_ ?_ ?_ ?_
      · have hi' : us[i]? = some us[i] := List.getElem?_eq_getElem (by omega)
        have hj' : us[j]? = some us[j] := List.getElem?_eq_getElem (by omega)
        have ei : us.getD i 0 = us[i] := by rw [List.getD_eq_getElem?_getD, hi']; rfl
        have ej : us.getD j 0 = us[j] := by rw [List.getD_eq_getElem?_getD, hj']; rfl
        show (g (us.getD i 0) (us.getD j 0) == 43) = !(g (us.getD j 0) (us.getD i 0) == 43)
        rw [ei, ej]
        have nab : us[i] ≠ us[j] := fun x => hij (nodup_ix und hi' (by rw [x]; exact hj'))
        have az := uz i _ hi'
        have bz := uz j _ hj'
        rcases Nat.lt_or_gt_of_ne nab with x | x
        · rcases dr _ _ (by omega) x bz with ⟨h1, h2⟩ | ⟨h1, h2⟩ <;> rw [h1, h2] <;> rfl
        · rcases dr _ _ (by omega) x az with ⟨h1, h2⟩ | ⟨h1, h2⟩ <;> rw [h1, h2] <;> rfl
      · exact ((D7.mono (by omega)).same s8).same (same_new nt)
      · exact ((f3.trans f5).trans f8).trans (Frm.of_same (s8.trans (same_new nt)))
      · exact ((f3.trans f5).trans f8).free D (D7.same (Same.refl _)) (s8.free nt)
      · rw [upd_same]
        congr 2
        refine List.ext_getElem? fun i => ?_
        unfold tabS
        rw [List.getElem?_map, List.getElem?_map, List.getElem?_map]
        by_cases hi : i < z
        · have hi' : us[i]? = some us[i] := List.getElem?_eq_getElem (by omega)
          rw [hi', List.getElem?_range hi]
          show some (V.str ⟨(us.map fun b => g us[i] b).toArray⟩) = some (V.str (rowS z _ i))
          congr 2
          unfold rowS
          congr 2
          refine List.ext_getElem? fun j => ?_
          rw [List.getElem?_map, List.getElem?_map]
          by_cases hj : j < z
          · have hj' : us[j]? = some us[j] := List.getElem?_eq_getElem (by omega)
            rw [hj', List.getElem?_range hj]
            show some (g us[i] us[j]) = some (sgn _ i j)
            rw [hg i j _ _ hi' hj']
          · rw [List.getElem?_eq_none (by omega), List.getElem?_eq_none (by rw [List.length_range]; omega)]
            rfl
        · rw [List.getElem?_eq_none (by omega), List.getElem?_eq_none (by rw [List.length_range]; omega)]
          rfl
end
end DS
namespace DS
open PySem PySem.Spec PyProof.Rows L2
abbrev sSame : Stmt := topS 18
abbrev nSame : List Str := ["_law_found", "_law_due_here", "_law_k"]
theorem scSame : FnScope nSame ["_law_found", "_law_due_here"] (defScope sSame) := ⟨rfl, rfl, rfl, by decide +kernel, rfl, by decide +kernel, by decide +kernel⟩
def tyD : PyData → String
  | .none => "NoneType"
  | .bool _ => "bool"
  | .int _ => "int"
  | .str _ => "str"
  | .list _ => "list"
  | .tuple _ => "tuple"
  | .dict _ => "dict"
theorem tyX_lst {K : PySem.W.Frag} {H : Hp} {a : Addr} {xs : List V} (h : SqL K H a xs) : TyX K H (.ref a) (.type "list") := by
  rcases h with (h | ⟨o, h⟩) | ⟨o, its, n, h, hc, _⟩
  · exact .base (.lst h)
  · exact .base (.frz h)
  · exact .kList h hc
theorem tyX_tup {K : PySem.W.Frag} {H : Hp} {a : Addr} {xs : List V} (h : SqT K H a xs) : TyX K H (.ref a) (.type "tuple") := by
  rcases h with (h | ⟨o, h⟩) | ⟨o, its, n, h, hc, _⟩
  · exact .base (.tup h)
  · exact .fTuple h
  · exact .kTuple h hc
theorem Dp.ty {K : PySem.W.Frag} {H : Hp} {x : V} {d : PyData} (h : Dp K H x d) : TyX K H x (.type (tyD d)) := by
  cases h with
  | non => exact .base .non
  | bl b => exact .base (.bl b)
  | int i => exact .base (.int i)
  | str y => exact .base (.str y)
  | lst h _ => exact tyX_lst h
  | tup h _ => exact tyX_tup h
theorem Same.seqT {K : PySem.W.Frag} {H H' : Hp} {a : Addr} {xs : List V} (e : Same H H') (h : SqT K H a xs) : SqT K H' a xs := by
  rcases h with (h | ⟨o, h⟩) | h
  · exact .inl (.inl (e _ _ h))
  · exact .inl (.inr ⟨o, e _ _ h⟩)
  · exact .inr h
mutual
theorem Dp.same {K : PySem.W.Frag} {H H' : Hp} (e : Same H H') : ∀ {x : V} {d : PyData}, Dp K H x d → Dp K H' x d
  | _, _, .non => .non
  | _, _, .bl b => .bl b
  | _, _, .int i => .int i
  | _, _, .str y => .str y
  | _, _, .lst h a => .lst (e.seq h) (DpAll.same e a)
  | _, _, .tup h a => .tup (Same.seqT e h) (DpAll.same e a)
theorem DpAll.same {K : PySem.W.Frag} {H H' : Hp} (e : Same H H') : ∀ {xs : List V} {ds : List PyData}, DpAll K H xs ds → DpAll K H' xs ds
  | _, _, .nil => .nil
  | _, _, .cons h a => .cons (Dp.same e h) (DpAll.same e a)
end
theorem DpAll.get {K : PySem.W.Frag} {H : Hp} : ∀ {xs : List V} {ds : List PyData} (_ : DpAll K H xs ds) (i : Nat) (d : PyData), ds[i]? = some d → ∃ x, xs[i]? = some x ∧ Dp K H x d
  | _, _, .nil, i, d, h => by simp at h
  | _, _, .cons h1 h2, 0, d, h => by
    cases h
    exact ⟨_, rfl, h1⟩
  | _, _, .cons h1 h2, i + 1, d, h => DpAll.get h2 i d h
theorem DpAll.len {K : PySem.W.Frag} {H : Hp} : ∀ {xs : List V} {ds : List PyData} (_ : DpAll K H xs ds), xs.length = ds.length
  | _, _, .nil => rfl
  | _, _, .cons _ h => by rw [List.length_cons, List.length_cons, DpAll.len h]
/-- how deep a value may be, and how long its parts -/
def Fits : Nat → PyData → Prop
  | _, .none => True
  | _, .bool _ => True
  | _, .int _ => True
  | _, .str _ => True
  | k + 1, .list ds => ds.length ≤ 100000 ∧ ∀ d ∈ ds, Fits k d
  | k + 1, .tuple ds => ds.length ≤ 100000 ∧ ∀ d ∈ ds, Fits k d
  | _, _ => False
theorem kit1 {K : PySem.W.Frag} {T C : String} {b : Bool} (h : kitB T C = some b) : PySem.W.kitOne K (.type T) (.type C) = some b := kit_ty h
theorem any_no {K : PySem.W.Frag} {T : String} (h1 : kitB T "list" = some false) (h2 : kitB T "tuple" = some false) : PySem.W.kitAny K (.type T) [.type "list", .type "tuple"] = some false :=
  kitAny_cons (kit_ty h1) (fun _ => kitAny_cons (kit_ty h2) (fun _ => kitAny_nil) (fun h => nomatch h)) (fun h => nomatch h)
theorem any_l {K : PySem.W.Frag} : PySem.W.kitAny K (.type "list") [.type "list", .type "tuple"] = some true :=
  kitAny_cons (b := true) (kit_ty (by decide +kernel)) (fun h => nomatch h) (fun _ => rfl)
theorem any_t {K : PySem.W.Frag} : PySem.W.kitAny K (.type "tuple") [.type "list", .type "tuple"] = some true :=
  kitAny_cons (b := false) (kit_ty (by decide +kernel)) (fun _ => kitAny_cons (b := true) (kit_ty (by decide +kernel)) (fun h => nomatch h) (fun _ => rfl)) (fun h => nomatch h)
/-- a list or a tuple to be read -/
def Sq (K : PySem.W.Frag) (H : Hp) (a : Addr) (xs : List V) : Prop := SqL K H a xs ∨ SqT K H a xs
theorem Sq.same {K : PySem.W.Frag} {H H' : Hp} {a : Addr} {xs : List V} (h : Sq K H a xs) (e : Same H H') : Sq K H' a xs := by
  rcases h with h | h
  · exact .inl (e.seq h)
  · exact .inr (Same.seqT e h)
theorem Sq.at {K : PySem.W.Frag} {H : Hp} {a : Addr} {xs : List V} {i : Nat} {v : V} {Q : VK} (h : Sq K H a xs) (hi : xs[i]? = some v) (q : Q v H) : rIx K (.ref a) (.int i) H Q := by
  rcases h with h | h
  · exact .inl ⟨a, xs, i, v, rfl, rfl, h, atI_nat hi, q⟩
  · exact .inr (.inl ⟨a, xs, i, v, rfl, rfl, h, atI_nat hi, q⟩)
section
variable {P : Program} {w : World} {K : PySem.W.Frag} {mg : Str → Option Value} {base : Heap}
def spSame (K : PySem.W.Frag) (k : Nat) : Sp := fun vs H Q _ => ∃ (x y : V) (d : PyData), vs = [x, y] ∧ Dp K H x d ∧ Dp K H y d ∧ Fits k d ∧ ∀ H', Same H H' → Q (.bl true) H'
/-- what the law's builtins are still -/
structure Blt (mg : Str → Option Value) : Prop where
  len : mg "len" = none
  isi : mg "isinstance" = none
  list : mg "list" = none
  tuple : mg "tuple" = none
  range : mg "range" = none
  str : mg "str" = none
  int : mg "int" = none
  bool : mg "bool" = none
def ttSame (K : PySem.W.Frag) (sp : Sp) : TT := tNot (tB (tCall sp [] E0 (tCons (tOp (rIx K) (tVar 0) (tVar 2)) (tCons (tOp (rIx K) (tVar 1) (tVar 2)) tNil))))
theorem step_same {f : Addr} {fd : FuncData} {k : Nat} {sp : Sp} (F : Fun K "_law_same" "_law_same" sSame f fd) (b : Binds K fd ["_law_found", "_law_due_here"] []) (g : mg "_law_same" = some (.ref f)) (T : Blt mg)
    (G : FnOk P w K mg base CX0 k f fd ["_law_found", "_law_due_here"] sp)
    (hsp : ∀ (x y : V) (d : PyData) (H : Hp) (Q : VK) (E : XK), Dp K H x d → Dp K H y d → (∃ j, k = j + 1 ∧ Fits j d) → (∀ H', Same H H' → Q (.bl true) H') → sp [x, y] H Q E) :
    FnOk P w K mg base CX0 (k + 1) f fd ["_law_found", "_law_due_here"] (spSame K k) := by
  refine F.ok scSame (fun vs H Q E h => ?_) (fun cdv A outer s H vs Q E hr h => ?_)
  · obtain ⟨x, y, d, rfl, _⟩ := h
    rfl
  · obtain ⟨x, y, d, rfl, hx, hy, hf, q⟩ := h
    have nd := scSame.nd
    refine ⟨_, pss_cons (ps_if (pt_val (pe_callB call_isiT (by rfl) T.isi (by decide +kernel) (pa_cons (pv 1) (pa_cons (pe_tup (pa_cons (pe_bltn (v := .ty "list") (by rfl) T.list (by decide +kernel) rfl) (pa_cons (pe_bltn (v := .ty "tuple") (by rfl) T.tuple (by decide +kernel) rfl) pa_nil))) pa_nil))))
        (pss_cons (ps_if (PW.pt (pw_or (pt_cmpR op_ne (pe_callB call_isi (by rfl) T.isi (by decide +kernel) (pa_cons (pv 0) (pa_cons (pe_bltn (v := .ty "list") (by rfl) T.list (by decide +kernel) rfl) pa_nil))) (pe_callB call_isi (by rfl) T.isi (by decide +kernel) (pa_cons (pv 1) (pa_cons (pe_bltn (v := .ty "list") (by rfl) T.list (by decide +kernel) rfl) pa_nil))) (nomark _))
            (pw_or1 (pt_cmpR op_ne (pe_callB call_isi (by rfl) T.isi (by decide +kernel) (pa_cons (pv 0) (pa_cons (pe_bltn (v := .ty "tuple") (by rfl) T.tuple (by decide +kernel) rfl) pa_nil))) (pe_callB call_isi (by rfl) T.isi (by decide +kernel) (pa_cons (pv 1) (pa_cons (pe_bltn (v := .ty "tuple") (by rfl) T.tuple (by decide +kernel) rfl) pa_nil))) (nomark _)))))
          (pss_one (ps_ret pe_bl)) pss_nil)
        (pss_cons (ps_if (pt_cmpR op_ne (pe_callB call_len_seq (by rfl) T.len PySem.boot_len (pa_cons (pv 0) pa_nil)) (pe_callB call_len_seq (by rfl) T.len PySem.boot_len (pa_cons (pv 1) pa_nil)) (nomark _)) (pss_one (ps_ret pe_bl)) pss_nil)
        (pss_one (ps_ret (pe_cmpR (op_eqD hr.units)
          (pe_lc (own := [("_law_k", 2)]) (g := gName 2) (tt := ttSame K sp) (te := tVar 2) rfl nd (pi_range1 (by rfl) T.range (pa_cons (pe_callB call_len_seq (by rfl) T.len PySem.boot_len (pa_cons (pv 1) pa_nil)) pa_nil)) (blkOk_by (by rfl))
            (fun _ _ _ _ _ => pg_name (i := 2) nd rfl (.inl rfl)) (fun _ _ _ _ _ => pts_one (pt_not (pt_val (pe_call G hr (by rfl) g F.kp b .nil pass0 (pa_cons (pe_ix ix_seq (pv 0) (pv 2) (fun _ _ => rfl)) (pa_cons (pe_ix ix_seq (pv 1) (pv 2) (fun _ _ => rfl)) pa_nil)))))) (fun _ _ _ _ _ => pv 2))
          (pe_lst pa_nil) (nomark _)))))) pss_nil)
      (pss_cons (ps_if (pt_cmpR op_isN (pv 1) pe_non (nomark _)) (pss_one (ps_ret (pe_cmpR op_isN (pv 0) pe_non (nomark _)))) pss_nil)
      (pss_cons (ps_if (pt_val (pe_callB call_isi (by rfl) T.isi (by decide +kernel) (pa_cons (pv 1) (pa_cons (pe_bltn (v := .ty "str") (by rfl) T.str (by decide +kernel) rfl) pa_nil))))
        (pss_one (ps_ret (pe_and (pe_callB call_isi (by rfl) T.isi (by decide +kernel) (pa_cons (pv 0) (pa_cons (pe_bltn (v := .ty "str") (by rfl) T.str (by decide +kernel) rfl) pa_nil))) (pe_one (pe_cmpR op_eq (pv 0) (pv 1) (nomark _)))))) pss_nil)
      (pss_one (ps_ret (pe_and (pe_callB call_isi (by rfl) T.isi (by decide +kernel) (pa_cons (pv 0) (pa_cons (pe_bltn (v := .ty "int") (by rfl) T.int (by decide +kernel) rfl) pa_nil)))
        (pe_and (pe_cmpR op_eq (pe_callB call_isi (by rfl) T.isi (by decide +kernel) (pa_cons (pv 0) (pa_cons (pe_bltn (v := .ty "bool") (by rfl) T.bool (by decide +kernel) rfl) pa_nil))) (pe_callB call_isi (by rfl) T.isi (by decide +kernel) (pa_cons (pv 1) (pa_cons (pe_bltn (v := .ty "bool") (by rfl) T.bool (by decide +kernel) rfl) pa_nil))) (nomark _))
        (pe_one (pe_cmpR op_eq (pv 0) (pv 1) (nomark _))))))))), ?_⟩
    have two : 2 ≤ sizeLine := by decide
    have pair : Paired ClsV [V.ty "list", V.ty "tuple"] [Value.type "list", Value.type "tuple"] := .cons (.ty _) (.cons (.ty _) .nil)
    -- lists and tuples, at one stroke
    have pack : (∃ (T : String) (b1 b2 : Bool) (a a' : Addr) (xs ys : List V) (ds : List PyData), x = .ref a ∧ y = .ref a' ∧ (∀ H', Same H H' → TyX K H' x (.type T) ∧ TyX K H' y (.type T)) ∧
        PySem.W.kitOne K (.type T) (.type "list") = some b1 ∧ PySem.W.kitOne K (.type T) (.type "tuple") = some b2 ∧ PySem.W.kitAny K (.type T) [.type "list", .type "tuple"] = some true ∧ Sq K H a xs ∧ Sq K H a' ys ∧ DpAll K H xs ds ∧ DpAll K H ys ds ∧ ds.length ≤ 100000 ∧
        (∀ d ∈ ds, ∃ j, k = j + 1 ∧ Fits j d)) ∨ (∀ ds, d ≠ .list ds ∧ d ≠ .tuple ds) := by
      cases d with
      | none => exact .inr fun _ => ⟨(fun h => nomatch h), (fun h => nomatch h)⟩
      | bool v => exact .inr fun _ => ⟨(fun h => nomatch h), (fun h => nomatch h)⟩
      | int v => exact .inr fun _ => ⟨(fun h => nomatch h), (fun h => nomatch h)⟩
      | str v => exact .inr fun _ => ⟨(fun h => nomatch h), (fun h => nomatch h)⟩
      | dict v => exact .inr fun _ => ⟨(fun h => nomatch h), (fun h => nomatch h)⟩
      | list ds =>
        cases hx with
        | @lst a xs _ h1 h2 =>
          cases hy with
          | @lst a' ys _ h3 h4 =>
            cases k with
            | zero => exact hf.elim
            | succ j => exact .inl ⟨"list", true, false, a, a', xs, ys, ds, rfl, rfl, fun H' e => ⟨tyX_lst (e.seq h1), tyX_lst (e.seq h3)⟩, kit1 (by decide +kernel), kit1 (by decide +kernel), any_l, .inl h1, .inl h3, h2, h4, hf.1, fun d hd => ⟨j, rfl, hf.2 d hd⟩⟩
      | tuple ds =>
        cases hx with
        | @tup a xs _ h1 h2 =>
          cases hy with
          | @tup a' ys _ h3 h4 =>
            cases k with
            | zero => exact hf.elim
            | succ j => exact .inl ⟨"tuple", false, true, a, a', xs, ys, ds, rfl, rfl, fun H' e => ⟨tyX_tup (Same.seqT e h1), tyX_tup (Same.seqT e h3)⟩, kit1 (by decide +kernel), kit1 (by decide +kernel), any_t, .inr h1, .inr h3, h2, h4, hf.1, fun d hd => ⟨j, rfl, hf.2 d hd⟩⟩
    rcases pack with ⟨T, b1, b2, a, a', xs, ys, ds, rfl, rfl, ty, k1, k2, k3, sx, sy, dx, dy, hl, hF⟩ | hno
    · refine ⟨_, rfl, two, fun tp ntp => ?_⟩
      have s1 : Same H (upd H tp (.tup [.ty "list", .ty "tuple"])) := same_new ntp
      refine ⟨_, tp, _, _, _, true, rfl, upd_same, pair, (ty _ s1).2, k3, _, rfl, iteT ?_⟩
      generalize upd H tp (.tup [.ty "list", .ty "tuple"]) = H1 at s1 ⊢
      have tx := (ty _ s1).1
      have t2 := (ty _ s1).2
      have sx1 := sx.same s1
      have sy1 := sy.same s1
      have dx1 := DpAll.same s1 dx
      have dy1 := DpAll.same s1 dy
      have nb : ∀ v : Bool, (!decide (V.bl v = V.bl v)) = false := fun v => by rw [decide_eq_true rfl]; rfl
      refine ⟨_, rfl, _, _, _, _, b1, rfl, .ty _, tx, k1, _, rfl, _, _, _, _, b1, rfl, .ty _, t2, k1, rfl, _, rfl, ?_⟩
      rw [nb]
      refine iteF ⟨_, rfl, _, _, _, _, b2, rfl, .ty _, tx, k2, _, rfl, _, _, _, _, b2, rfl, .ty _, t2, k2, rfl, _, rfl, ?_⟩
      rw [nb]
      refine iteF ⟨_, rfl, a, xs, rfl, sx1, _, rfl, a', ys, rfl, sy1, rfl, _, rfl, ?_⟩
      rw [DpAll.len dx1, DpAll.len dy1, decide_eq_true rfl]
      refine iteF ⟨_, rfl, a', ys, rfl, sy1, _, rfl, by omega, by have := DpAll.len dy1; omega, fun D nD => ?_⟩
      refine lc_range (lo := 0) (n := (ys.length : Int).toNat) (fun i H2 => Same H1 H2 ∧ H2 D = some (.lst [])) ⟨same_new nD, upd_same⟩ (fun i H2 hi h => ?_) (fun H2 h => ?_)
      · obtain ⟨s2, h2⟩ := h
        have il : i < ds.length := by have := DpAll.len dy1; omega
        obtain ⟨x', hx', px⟩ := DpAll.get (DpAll.same s2 dx1) i ds[i] (List.getElem?_eq_getElem il)
        obtain ⟨y', hy', py⟩ := DpAll.get (DpAll.same s2 dy1) i ds[i] (List.getElem?_eq_getElem il)
        have ei : (0 : Int) + (i : Int) = ((i : Nat) : Int) := by omega
        refine ⟨rfl, .ref a, rfl, _, rfl, ?_⟩
        rw [ei]
        refine (sx1.same s2).at hx' ⟨.ref a', rfl, .int (i : Int), by rw [← ei]; rfl, (sy1.same s2).at hy' ?_⟩
        refine hsp _ _ _ _ _ _ px py (hF _ (List.getElem_mem il)) fun H3 s3 => ⟨true, rfl, ?_⟩
        exact iteF ⟨s2.trans s3, s3 _ _ h2⟩
      · obtain ⟨s2, h2⟩ := h
        refine ⟨Nat.zero_le _, fun z nz => ?_⟩
        refine ⟨.list [], .list [], .lst (SqL.of (same_new nz _ _ h2)) .nil, .lst (SqL.of upd_same) .nil, PySem.W.ke_shaped_ints [], PySem.W.ke_shaped_ints [], ?_⟩
        have e : PyData.eqv (.list []) (.list []) = true := by
          simp [PyData.eqv, PyData.eqvAll]
        rw [e]
        exact q _ ((s1.trans s2).trans (same_new nz))
    cases d with
    | none =>
      cases hx
      cases hy
      refine ⟨_, rfl, two, fun tp ntp => ⟨_, tp, _, _, _, false, rfl, upd_same, pair, .base .non, any_no (by decide +kernel) (by decide +kernel), _, rfl, iteF ?_⟩⟩
      refine ⟨_, rfl, rfl, _, rfl, ite2 (fun _ => ⟨_, rfl, rfl, ?_⟩) (fun h => absurd (decide_eq_true rfl) h)⟩
      rw [decide_eq_true rfl]
      exact q _ (same_new ntp)
    | bool v =>
      cases hx
      cases hy
      refine ⟨_, rfl, two, fun tp ntp => ⟨_, tp, _, _, _, false, rfl, upd_same, pair, .base (.bl _), any_no (by decide +kernel) (by decide +kernel), _, rfl, iteF ?_⟩⟩
      refine ⟨_, rfl, rfl, _, rfl, ite2 (fun h => absurd (of_decide_eq_true h) (fun h => nomatch h)) (fun _ => ?_)⟩
      refine ⟨_, rfl, _, _, _, _, false, rfl, .ty _, .base (.bl _), kit1 (by decide +kernel), _, rfl, iteF ?_⟩
      refine ⟨_, rfl, _, _, _, _, true, rfl, .ty _, .base (.bl _), kit1 (by decide +kernel), _, rfl, iteT ?_⟩
      refine ⟨_, rfl, _, _, _, _, true, rfl, .ty _, .base (.bl _), kit1 (by decide +kernel), _, rfl, _, _, _, _, true, rfl, .ty _, .base (.bl _), kit1 (by decide +kernel), rfl, _, rfl, ite2 (fun _ => ⟨_, rfl, _, rfl, rfl, ?_⟩) (fun h => absurd (decide_eq_true rfl) h)⟩
      rw [decide_eq_true rfl]
      exact q _ (same_new ntp)
    | int v =>
      cases hx
      cases hy
      refine ⟨_, rfl, two, fun tp ntp => ⟨_, tp, _, _, _, false, rfl, upd_same, pair, .base (.int _), any_no (by decide +kernel) (by decide +kernel), _, rfl, iteF ?_⟩⟩
      refine ⟨_, rfl, rfl, _, rfl, ite2 (fun h => absurd (of_decide_eq_true h) (fun h => nomatch h)) (fun _ => ?_)⟩
      refine ⟨_, rfl, _, _, _, _, false, rfl, .ty _, .base (.int _), kit1 (by decide +kernel), _, rfl, iteF ?_⟩
      refine ⟨_, rfl, _, _, _, _, true, rfl, .ty _, .base (.int _), kit1 (by decide +kernel), _, rfl, iteT ?_⟩
      refine ⟨_, rfl, _, _, _, _, false, rfl, .ty _, .base (.int _), kit1 (by decide +kernel), _, rfl, _, _, _, _, false, rfl, .ty _, .base (.int _), kit1 (by decide +kernel), rfl, _, rfl, ite2 (fun _ => ⟨_, rfl, _, rfl, rfl, ?_⟩) (fun h => absurd (decide_eq_true rfl) h)⟩
      rw [decide_eq_true rfl]
      exact q _ (same_new ntp)
    | str v =>
      cases hx
      cases hy
      refine ⟨_, rfl, two, fun tp ntp => ⟨_, tp, _, _, _, false, rfl, upd_same, pair, .base (.str _), any_no (by decide +kernel) (by decide +kernel), _, rfl, iteF ?_⟩⟩
      refine ⟨_, rfl, rfl, _, rfl, ite2 (fun h => absurd (of_decide_eq_true h) (fun h => nomatch h)) (fun _ => ?_)⟩
      refine ⟨_, rfl, _, _, _, _, true, rfl, .ty _, .base (.str _), kit1 (by decide +kernel), _, rfl, iteT ?_⟩
      refine ⟨_, rfl, _, _, _, _, true, rfl, .ty _, .base (.str _), kit1 (by decide +kernel), _, rfl, iteT ⟨_, rfl, _, rfl, rfl, ?_⟩⟩
      rw [decide_eq_true rfl]
      exact q _ (same_new ntp)
    | list ds => exact absurd rfl (hno ds).1
    | tuple ds => exact absurd rfl (hno ds).2
    | dict _ => cases hx
end
end DS
namespace DS
open PySem PySem.Spec PyProof.Rows L2
section
variable {P : Program} {w : World} {K : PySem.W.Frag} {mg : Str → Option Value} {base : Heap}
theorem ok_same {f : Addr} {fd : FuncData} (F : Fun K "_law_same" "_law_same" sSame f fd) (b : Binds K fd ["_law_found", "_law_due_here"] []) (g : mg "_law_same" = some (.ref f)) (T : Blt mg) :
    ∀ k : Nat, FnOk P w K mg base CX0 (k + 1) f fd ["_law_found", "_law_due_here"] (spSame K k)
  | 0 => step_same (sp := fun _ _ _ _ => False) F b g T ⟨fun _ _ _ _ h => h.elim, fun _ _ _ _ _ _ _ _ _ _ _ _ _ h => h.elim⟩ (fun _ _ _ _ _ _ _ _ h _ => by
      obtain ⟨j, e, _⟩ := h
      omega)
  | k + 1 => step_same F b g T (ok_same F b g T k) (fun x y d H Q E hx hy h q => by
      obtain ⟨j, e, hf⟩ := h
      obtain rfl : j = k := by omega
      exact ⟨x, y, d, rfl, hx, hy, hf, q⟩)
end
end DS
namespace DS
open PySem PySem.Spec PyProof.Rows L2
/-! ### enumerate of a tuple, of a text -/
/-- n pairs (i, f i), while G stands -/
def Itp (G : Hp → Prop) (n : Nat) (f : Nat → V) : It :=
  ⟨fun i H => i < n ∧ G H, fun i H v H' => ∃ T, v = .ref T ∧ H T = none ∧ H' = upd H T (.tup [.int (i : Nat), f i]), fun i H => i = n ∧ G H⟩
section
variable {prog : Program} {w : World} {A : Around} {E : Value → Shared → Prop} {s : Shared}
set_option maxHeartbeats 1000000 in
theorem new_enumT (l : Addr) (items : Array Value) (n : Nat) (dct : Option Addr) (sl : Array (Option Value)) :
    Meets (Builtin.«enumerate.__new__» ⟨[.type "enumerate", .ref l], []⟩) (fun _ R s => s.heap.get? l = some { cls := .type "tuple", dict := dct, data := .seq items n, slots := sl } ∧
      R (.ok (.ret (.ref (s.heap.push { cls := .type "tuple_iterator", data := .fields #[.ref l, .int 0 0] }).objs.size)))
        { s with heap := (s.heap.push { cls := .type "tuple_iterator", data := .fields #[.ref l, .int 0 0] }).push { cls := .type "enumerate", data := .fields #[.none, .bool false, .ref s.heap.objs.size, rawInt 0, .none, .none] } }) :=
  .of_wp fun prog w A R s h => by
    obtain ⟨hp, g, d, tk, os⟩ := s
    obtain ⟨hl, h⟩ := h
    have hsub := sub_enumerate
    have hL : Heap.IsTuple (Shared.heap ⟨hp, g, d, tk, os⟩) l items := ⟨_, hl, rfl, n, rfl⟩
    wp_walk using AutoSeq1.wpAny_loadPart' hl
    refine wpAny_stack_any fun st => wpAny_pure ?_
    split
    · rename_i c _ _ _ _ _
      cases (c == Value.type "enumerate")
      · wp_walk using AutoSeq1.wpAny_loadPart' hl, wpAny_pyIter_tuple hL
        exact ⟨_, rfl, h⟩
      · wp_walk using AutoSeq1.wpAny_loadPart' hl, wpAny_pyIter_tuple hL
        exact ⟨_, rfl, h⟩
    · wp_walk using AutoSeq1.wpAny_loadPart' hl, wpAny_pyIter_tuple hL
      exact ⟨_, rfl, h⟩
theorem call_enumT {l : Addr} {items : Array Value} {Q : Value → Shared → Prop} (hL : s.heap.IsTuple l items)
    (h : ∀ h', IsEnum h' (s.heap.objs.size + 1) s.heap.objs.size 0 .none → h'.IsTupleIter s.heap.objs.size l 0 → (∀ b o, s.heap.get? b = some o → h'.get? b = some o) → Q (.ref (s.heap.objs.size + 1)) { s with heap := h' }) :
    wpAny (model prog w) A (call (.type "enumerate") [.ref l]) Q E s := by
  obtain ⟨⟨c, dct, dt, sl⟩, hl, hc, n, hd⟩ := hL
  simp only at hc hd
  subst hc hd
  refine callType_new F.called_enumerate (by decide) (F.typeCall_enumerate_1 _) (F.newCall_enumerate_1 _) (fun obj => F.args_object_init_2 obj _) F.entry_enumerate_new (new_enumT l items n dct sl) ⟨hl, ?_⟩
  have hz : (s.heap.push { cls := .type "tuple_iterator", data := .fields #[.ref l, .int 0 0] }).objs.size = s.heap.objs.size + 1 := Heap.size_push ..
  show _ ∧ _
  rw [hz]
  have he : IsEnum ((s.heap.push { cls := .type "tuple_iterator", data := .fields #[.ref l, .int 0 0] }).push { cls := .type "enumerate", data := .fields #[.none, .bool false, .ref s.heap.objs.size, rawInt 0, .none, .none] }) (s.heap.objs.size + 1) s.heap.objs.size 0 .none := by
    have e := Heap.get?_push_size (s.heap.push { cls := .type "tuple_iterator", data := .fields #[.ref l, .int 0 0] }) (o := { cls := .type "enumerate", data := .fields #[.none, .bool false, .ref s.heap.objs.size, rawInt 0, .none, .none] }) rfl
    rw [hz] at e
    exact e
  refine ⟨⟨_, he, rfl⟩, h _ he ⟨_, Heap.get?_push_of_some _ (Heap.get?_push_size _ rfl), rfl, rfl⟩ fun b o x => Heap.get?_push_of_some _ (Heap.get?_push_of_some _ x)⟩
end
/-- what an enumerate over some iterator it needs: L tells where it stands, and from G and L its draws -/
theorem turn_pairs {P : Program} {w : World} {K : PySem.W.Frag} {elts : List Expr} {kk : Nat} {tpos : Pos} {e it : Addr} {G : Hp → Prop} {n : Nat} {f : Nat → V} {L : Nat → Heap → Prop}
    (live : ∀ i h, L i h → ∃ o, h.get? it = some o ∧ ∀ v, o.data ≠ .cell v) (keep : ∀ i h h', L i h → (∀ o, h.get? it = some o → h'.get? it = some o) → L i h')
    (dr : ∀ (X : Cx), X.prog = P → X.w = w → X.K = K → X.calm = true → ∀ (pins : List (Addr × Obj)) (s : Shared) (σ : L2.St) (H : Hp), Inv X pins σ H s → FpOk X pins H it → FpOk X pins H e → G H →
      ∀ i : Nat, L i s.heap → (∃ old, IsEnum s.heap e it ((i : Nat) : Int) old) → e ≠ it → ∃ (fp : List Addr) (Pd : Nat → Value → Prop) (St : Nat → Heap → Prop), Draws P w X.A.in1 it fp n Pd St ∧ e ∉ fp ∧ (∀ i, L i s.heap → St i s.heap) ∧ (∀ i h, St i h → L i h) ∧ ∀ i u, i < n → Pd i u → RelV (f i) u) :
    Turn P w K (.Tuple elts kk tpos) (Itp G n f) [e, it] e (fun i h => (∃ old, IsEnum h e it ((i : Nat) : Int) old) ∧ L i h ∧ e ≠ it) where
  mem := List.mem_cons_self
  obj := fun i h st b hb => by
    obtain ⟨⟨old, he⟩, hl, _⟩ := st
    rcases List.mem_cons.mp hb with z | z
    · rw [z]
      exact ⟨_, he, fun v q => nomatch q⟩
    · rw [List.mem_singleton.mp z]
      exact live i h hl
  keep := fun i h h' st k => by
    obtain ⟨⟨old, he⟩, hl, hne⟩ := st
    exact ⟨⟨old, k e List.mem_cons_self _ he⟩, keep i h h' hl fun o q => k it (List.mem_cons_of_mem _ List.mem_cons_self) o q, hne⟩
  item := by
    intro X hP hw hK hc i pins s σ H E I hf st hg
    obtain ⟨⟨old, he⟩, hl, hne⟩ := st
    have fit := hf it (List.mem_cons_of_mem _ List.mem_cons_self)
    have fe := hf e List.mem_cons_self
    obtain ⟨fp, Pd, St, D, nfp, inn, outt, rel⟩ := dr X hP hw hK hc pins s σ H I fit fe hg.2 i hl ⟨old, he⟩ hne
    subst hP hw hK
    have hel : e < s.heap.objs.size := Heap.lt_size he
    have hil : it < s.heap.objs.size := by
      obtain ⟨o, q, _⟩ := live i _ hl
      exact Heap.lt_size q
    refine wpAny_pyNext_enum_itemD D he (inn i hl) hg.1 hne nfp fun u h' tk hPu ho hst' hT hsz hk => ?_
    refine ⟨_, rfl, wpAny_letOwnedTupleGo_enum (s := { s with heap := h', toks := tk + 1 }) ho fun h'' he' sb => ?_⟩
    have hT2 : h''.get? s.heap.objs.size = some { cls := .type "tuple", data := .seq #[.int i tk, u] } := (sb.2 _ (Nat.ne_of_gt hel)).trans hT
    have new : ObjOk X.prog X.w (upd H s.heap.objs.size (.tup [.int (i : Nat), f i])) h'' s.heap.objs.size (.tup [.int (i : Nat), f i]) :=
      ⟨(show 2 ≤ sizeLine by decide), [.int i tk, u], .cons ⟨_, rfl⟩ (.cons (rel i u hg.1 hPu) .nil), ⟨_, hT2, rfl, _, rfl⟩⟩
    have I1 : Inv X pins σ (upd H s.heap.objs.size (.tup [.int (i : Nat), f i])) { s with heap := h'', toks := tk + 1 } := by
      refine I.turnedNew (ch := [e, it]) (fun b ob hb q => ?_) hf (Nat.le_refl _) new
      have b1 : b ≠ e := fun z => hb (by rw [z]; exact List.mem_cons_self)
      have b2 : b ≠ it := fun z => hb (by rw [z]; exact List.mem_cons_of_mem _ List.mem_cons_self)
      exact (sb.2 b b1).trans (hk b ob b1 b2 q)
    refine ⟨.ref s.heap.objs.size, _, I1, rfl, ⟨_, rfl, I.hok.fresh (Nat.le_refl _), rfl⟩, ⟨⟨u, ?_⟩, keep _ _ _ (outt _ _ hst') fun o q => (sb.2 it (Ne.symm hne)).trans q, hne⟩, fun b hb => ?_⟩
    · have e1 : ((i + 1 : Nat) : Int) = (i : Int) + 1 := by omega
      rw [e1]
      exact he'
    · have hb' : b < s.heap.objs.size := by
        rcases List.mem_cons.mp hb with z | z
        · rw [z]
          exact hel
        · rw [List.mem_singleton.mp z]
          exact hil
      rw [upd_ne (Nat.ne_of_lt hb')]
      exact (hf b hb).1
  done := by
    intro X hP hw hK hc i pins s σ H E I hf st hg
    obtain ⟨⟨old, he⟩, hl, hne⟩ := st
    have fit := hf it (List.mem_cons_of_mem _ List.mem_cons_self)
    have fe := hf e List.mem_cons_self
    obtain ⟨fp, Pd, St, D, nfp, inn, outt, rel⟩ := dr X hP hw hK hc pins s σ H I fit fe hg.2 i hl ⟨old, he⟩ hne
    subst hP hw hK
    obtain ⟨rfl, _⟩ := hg
    obtain ⟨f0, f1, f2, f3, f4, f5⟩ := fit
    exact wpAny_pyNext_enum_endD D he (inn _ hl) fun h' eb => ⟨rfl, I.turned (t' := s.toks) (fun b o hb q => eb b o hb q) f0 f1 f3 f4 f5⟩
  self := fun A i s Q E st h => by
    obtain ⟨⟨_, he⟩, _⟩ := st
    exact wpAny_pyIter_enum he h
/-! as rules -/
section
variable {X : Cx}
theorem pi_pairs {pins : List (Addr × Obj)} {σ : L2.St} {H : Hp} {s : Shared} {elts : List Expr} {kk : Nat} {tpos : Pos} {R : It → Hp → Prop} {J : It} {L : Nat → Heap → Prop} {h' : Heap} {Er : Value → Shared → Prop} (I : Inv X pins σ H s)
    (he : IsEnum h' (s.heap.objs.size + 1) s.heap.objs.size 0 .none) (hit : L 0 h') (hk : ∀ b o, s.heap.get? b = some o → h'.get? b = some o)
    (T : Turn X.prog X.w X.K (.Tuple elts kk tpos) J [s.heap.objs.size + 1, s.heap.objs.size] (s.heap.objs.size + 1) (fun i h => (∃ old, IsEnum h (s.heap.objs.size + 1) s.heap.objs.size ((i : Nat) : Int) old) ∧ L i h ∧ s.heap.objs.size + 1 ≠ s.heap.objs.size)) (q : R J H) :
    wpAny (model X.prog X.w) X.A (pyIter (.ref (s.heap.objs.size + 1))) (PIE X pins σ (.Tuple elts kk tpos) R) Er { s with heap := h' } := by
  refine wpAny_pyIter_enum he ?_
  refine ⟨s.heap.objs.size + 1, [s.heap.objs.size + 1, s.heap.objs.size], _, _, H, rfl, I.kept (t' := s.toks) hk, T, ⟨⟨.none, he⟩, hit, Nat.succ_ne_self _⟩, fun b hb => ?_, q⟩
  have hle : s.heap.objs.size ≤ b := by
    rcases List.mem_cons.mp hb with z | z
    · rw [z]
      exact Nat.le_succ _
    · rw [List.mem_singleton.mp z]
      exact Nat.le_refl _
  exact I.fpOk hle (I.hok.fresh hle)
def iEnumT (K : PySem.W.Frag) (ta : TA) : TI := fun σ H R => ta σ H fun vs H1 => ∃ a xs, vs = [.ref a] ∧ SqT K H1 a xs ∧ R (Itp (fun H => SqT K H a xs) xs.length (fun i => xs.getD i .non)) H1
theorem pi_enumT {e : Expr} {ta : TA} {p pos tpos : Pos} {elts : List Expr} {kk : Nat} (hg : Gl X "enumerate") (hm : X.mg "enumerate" = none) (ha : PA X [e] ta) (hs : starEach [e] X.env = [(false, eval e X.env)] := by rfl) :
    PI X (.Tuple elts kk tpos) (.Call (.Name "enumerate" p) [e] [] pos) (iEnumT X.K ta) := by
  refine ⟨fun pins s σ H R I h => ?_⟩
  refine Call_ (ld_blt I hg hm boot_enumerate (PyProof.Rows.callWith_type1 (thn (ha.run pos pins s σ H _ I h) fun us s1 ⟨vs, H1, I1, r1, q1⟩ => ?_) hs rfl))
  obtain ⟨a, xs, ex, hq, q⟩ := q1
  subst ex
  obtain ⟨u, rfl, ru⟩ := vals1 r1
  obtain rfl : u = Value.ref a := ru
  obtain ⟨its, rv, p', hz⟩ := I1.tuple hq
  refine call_enumT (show s1.heap.IsTuple a its.toArray from p') fun h' he hit hk => ?_
  refine pi_pairs (L := fun i h => h.IsTupleIter s1.heap.objs.size a i) I1 he hit hk (turn_pairs (fun i h hl => ?_) (fun i h h' hl k => ?_) ?_) q
  · obtain ⟨o, ho, hc, hd⟩ := hl
    exact ⟨o, ho, fun v q => by rw [hd] at q; cases q⟩
  · exact hl.at k
  · intro Y hP hw hK hc pins2 s2 σ2 H2 I2 f1 f2 g i hl hen hne
    rw [← hK] at g
    obtain ⟨its2, rv2, p2, _⟩ := I2.tuple g
    have hai : a ≠ s1.heap.objs.size := fun z => by
      obtain ⟨o, ho, hc, hd⟩ := hl
      obtain ⟨o2, ho2, hc2, _⟩ := p2
      rw [z, ho] at ho2
      cases ho2
      rw [hc] at hc2
      exact absurd (Value.type.inj hc2) (by decide)
    have hea : s1.heap.objs.size + 1 ≠ a := fun z => by
      obtain ⟨old, ho⟩ := hen
      obtain ⟨o2, ho2, hc2, _⟩ := p2
      rw [← z] at ho2
      have e := ho.symm.trans ho2
      cases e
      exact absurd (Value.type.inj hc2) (by decide)
    have ln : its2.toArray.size = xs.length := by rw [List.size_toArray, ← rv2.length]
    have D := Draws.tuple (prog := X.prog) (w := X.w) (A := Y.A.in1) (I2.ok.hd hc) s1.heap.objs.size a hai its2.toArray
    rw [ln] at D
    refine ⟨_, _, _, D, fun hm => ?_, fun i hl => ⟨hl, p2⟩, fun i h hst => hst.1, fun i u hi hu => ?_⟩
    · rcases List.mem_cons.mp hm with z | z
      · exact hne z
      · exact hea (List.mem_singleton.mp z)
    · have hx : xs[i]? = some xs[i] := List.getElem?_eq_getElem hi
      obtain ⟨u', hu', ru'⟩ := rv2.get hx
      have : u = u' := by
        have h1 : its2[i]? = some u := by simpa using hu
        rw [hu'] at h1
        exact (Option.some.inj h1).symm
      rw [this, List.getD_eq_getElem?_getD, hx]
      exact ru'
def iEnumS (ta : TA) : TI := fun σ H R => ta σ H fun vs H1 => ∃ x : Str, vs = [.str x] ∧ R (Itp (fun _ => True) x.cps.size (fun i => .str ⟨#[x.cps.getD i 0]⟩)) H1
theorem pi_enumS {e : Expr} {ta : TA} {p pos tpos : Pos} {elts : List Expr} {kk : Nat} (hg : Gl X "enumerate") (hm : X.mg "enumerate" = none) (ha : PA X [e] ta) (hs : starEach [e] X.env = [(false, eval e X.env)] := by rfl) :
    PI X (.Tuple elts kk tpos) (.Call (.Name "enumerate" p) [e] [] pos) (iEnumS ta) := by
  refine ⟨fun pins s σ H R I h => ?_⟩
  refine Call_ (ld_blt I hg hm boot_enumerate (PyProof.Rows.callWith_type1 (thn (ha.run pos pins s σ H _ I h) fun us s1 ⟨vs, H1, I1, r1, q1⟩ => ?_) hs rfl))
  obtain ⟨x, ex, q⟩ := q1
  subst ex
  obtain ⟨u, rfl, t, rfl⟩ := vals1 r1
  refine call_enumerate_str fun h' he hit _ hk => ?_
  refine pi_pairs (L := fun i h => h.IsStrIter s1.heap.objs.size (strIterType x) x t i) I1 he hit hk (turn_pairs (fun i h hl => ?_) (fun i h h' hl k => ?_) ?_) q
  · obtain ⟨o, ho, hc, hd⟩ := hl
    exact ⟨o, ho, fun v q => by rw [hd] at q; cases q⟩
  · obtain ⟨o, ho, hr⟩ := hl
    exact ⟨o, k o ho, hr⟩
  · intro Y hP hw hK hc pins2 s2 σ2 H2 I2 f1 f2 g i hl hen hne
    have D := Draws.text (prog := X.prog) (w := X.w) (A := Y.A.in1) (I2.ok.hd hc) s1.heap.objs.size x t
    refine ⟨_, _, _, D, fun hm => hne (List.mem_singleton.mp hm), fun i hl => hl, fun i h hst => hst, fun i u hi hu => ?_⟩
    obtain ⟨c, tk, hc, rfl⟩ := hu
    have e : x.cps.getD i 0 = c := by
      rw [Array.getD_eq_getD_getElem?, hc]
      rfl
    show RelV (.str ⟨#[x.cps.getD i 0]⟩) _
    rw [e]
    exact ⟨tk, rfl⟩
end
/-! what a for and a comprehension over such pairs ask -/
theorem for_pairs {G : Hp → Prop} {n : Nat} {f : Nat → V} {g : TG} {tb : TS} {D : Ends} {σ : L2.St} {H : Hp} (Pv : Nat → L2.St → Hp → Prop) (h0 : Pv 0 σ H) (hG : ∀ i σ H, i ≤ n → Pv i σ H → G H)
    (hs : ∀ i σ H T, i < n → Pv i σ H → H T = none → g (.ref T) σ (upd H T (.tup [.int (i : Nat), f i])) fun σ2 H2 => tb { D with nx := Pv (i + 1), ct := Pv (i + 1), bk := D.nx } σ2 H2) (hd : ∀ σ H, Pv n σ H → D.nx σ H) :
    ∃ W : Nat → Nat → L2.St → Hp → Prop, (∃ m, W 0 m σ H) ∧ ∀ i m σ H, W i m σ H →
      ((Itp G n f).stop i H ∧ D.nx σ H) ∨ ((Itp G n f).go i H ∧ ∃ N : L2.St → Hp → Prop, (∀ σ' H', N σ' H' → ∃ m', m' < m ∧ W (i + 1) m' σ' H') ∧ ∀ x H', (Itp G n f).yld i H x H' → g x σ H' fun σ2 H2 => tb { D with nx := N, ct := N, bk := D.nx } σ2 H2) := by
  refine ⟨fun i m σ H => m = n - i ∧ i ≤ n ∧ Pv i σ H, ⟨n, by omega, Nat.zero_le _, h0⟩, fun i m σ H hW => ?_⟩
  obtain ⟨rfl, hi, p⟩ := hW
  by_cases hlt : i < n
  · refine .inr ⟨⟨hlt, hG i σ H hi p⟩, Pv (i + 1), fun σ' H' p' => ⟨n - (i + 1), by omega, rfl, hlt, p'⟩, fun x H' y => ?_⟩
    obtain ⟨T, rfl, nT, rfl⟩ := y
    exact hs i σ H T hlt p nT
  · obtain rfl : i = n := by omega
    exact .inl ⟨⟨rfl, hG _ σ H hi p⟩, hd σ H p⟩
theorem lc_pairs {G : Hp → Prop} {n : Nat} {f : Nat → V} {g : TG} {tt : TT} {te : TE} {vs : List Nat} {σ : L2.St} {H1 : Hp} {D : Addr} {Qd : Hp → Prop} (Pv : Nat → Hp → Prop) (h0 : Pv 0 (upd H1 D (.lst []))) (hG : ∀ i H, i ≤ n → Pv i H → G H)
    (hs : ∀ i H T, i < n → Pv i H → H T = none → g (.ref T) (wipe σ vs) (upd H T (.tup [.int (i : Nat), f i])) fun σ2 H2 => wipe σ2 vs = wipe σ vs ∧ tt σ2 H2 fun b H3 =>
      if b = true then te σ2 H3 fun y H4 => ∃ acc, H4 D = some (.lst acc) ∧ acc.length < sizeLine ∧ Pv (i + 1) (upd H4 D (.lst (acc ++ [y]))) else Pv (i + 1) H3) (hd : ∀ H, Pv n H → Qd H) :
    ∃ W : Nat → Nat → Hp → Prop, (∃ m, W 0 m (upd H1 D (.lst []))) ∧ ∀ i m H, W i m H →
      ((Itp G n f).stop i H ∧ Qd H) ∨ ((Itp G n f).go i H ∧ ∃ Nx : Hp → Prop, (∀ H', Nx H' → ∃ m', m' < m ∧ W (i + 1) m' H') ∧ ∀ x H', (Itp G n f).yld i H x H' → g x (wipe σ vs) H' fun σ2 H2 => wipe σ2 vs = wipe σ vs ∧ tt σ2 H2 fun b H3 =>
        if b = true then te σ2 H3 fun y H4 => ∃ acc, H4 D = some (.lst acc) ∧ acc.length < sizeLine ∧ Nx (upd H4 D (.lst (acc ++ [y]))) else Nx H3) := by
  refine ⟨fun i m H => m = n - i ∧ i ≤ n ∧ Pv i H, ⟨n, by omega, Nat.zero_le _, h0⟩, fun i m H hW => ?_⟩
  obtain ⟨rfl, hi, p⟩ := hW
  by_cases hlt : i < n
  · refine .inr ⟨⟨hlt, hG i H hi p⟩, Pv (i + 1), fun H' p' => ⟨n - (i + 1), by omega, rfl, hlt, p'⟩, fun x H' y => ?_⟩
    obtain ⟨T, rfl, nT, rfl⟩ := y
    exact hs i H T hlt p nT
  · obtain rfl : i = n := by omega
    exact .inl ⟨⟨rfl, hG _ H hi p⟩, hd H p⟩
end DS
namespace DS
open PySem PySem.Spec PyProof.Rows L2
/-! ### values of any kind, the empty dict among them -/
mutual
inductive Dx (K : PySem.W.Frag) (H : Hp) : V → PyData → Prop
  | non : Dx K H .non .none
  | bl (b : Bool) : Dx K H (.bl b) (.bool b)
  | int (i : Int) : Dx K H (.int i) (.int i)
  | str (x : Str) : Dx K H (.str x) (.str x)
  | lst {a : Addr} {xs : List V} {ds : List PyData} (h : SqL K H a xs) (r : DxAll K H xs ds) : Dx K H (.ref a) (.list ds)
  | tup {a : Addr} {xs : List V} {ds : List PyData} (h : SqT K H a xs) (r : DxAll K H xs ds) : Dx K H (.ref a) (.tuple ds)
  | dic {a : Addr} (h : H a = some (.dK [])) : Dx K H (.ref a) (.dict [])
inductive DxAll (K : PySem.W.Frag) (H : Hp) : List V → List PyData → Prop
  | nil : DxAll K H [] []
  | cons {v : V} {vs : List V} {d : PyData} {ds : List PyData} (h : Dx K H v d) (r : DxAll K H vs ds) : DxAll K H (v :: vs) (d :: ds)
end
/-! the same of the machine's heap -/
mutual
inductive Rx (h : Heap) : Value → PyData → Prop
  | non : Rx h .none .none
  | bl (b : Bool) : Rx h (.bool b) (.bool b)
  | int (i : Int) (t : Tok) : Rx h (.int i t) (.int i)
  | str (x : Str) (t : Tok) : Rx h (.str x t) (.str x)
  | lst {a : Addr} {o : Obj} {n : Nat} {vs : List Value} {ds : List PyData} (h1 : h.get? a = some o) (h2 : o.cls = .type "list") (h3 : o.data = .seq vs.toArray n) (h4 : RxAll h vs ds) : Rx h (.ref a) (.list ds)
  | tup {a : Addr} {o : Obj} {n : Nat} {vs : List Value} {ds : List PyData} (h1 : h.get? a = some o) (h2 : o.cls = .type "tuple") (h3 : o.data = .seq vs.toArray n) (h4 : RxAll h vs ds) : Rx h (.ref a) (.tuple ds)
  | dic {a : Addr} {o : Obj} {n : Nat} (h1 : h.get? a = some o) (h2 : o.cls = .type "dict") (h3 : o.data = .dict #[] n) (h4 : (a == sysModules) = false) : Rx h (.ref a) (.dict [])
inductive RxAll (h : Heap) : List Value → List PyData → Prop
  | nil : RxAll h [] []
  | cons {v : Value} {vs : List Value} {d : PyData} {ds : List PyData} (h1 : Rx h v d) (h2 : RxAll h vs ds) : RxAll h (v :: vs) (d :: ds)
end
section
variable {X : Cx} {pins : List (Addr × Obj)} {σ : L2.St} {H : Hp} {s : Shared}
mutual
theorem Dx.rx (I : Inv X pins σ H s) : ∀ {v : V} {u : Value} {d : PyData}, Dx X.K H v d → RelV v u → Rx s.heap u d
  | _, _, _, .non, r => by cases r; exact .non
  | _, _, _, .bl b, r => by cases r; exact .bl b
  | _, _, _, .int i, r => by obtain ⟨t, rfl⟩ := r; exact .int i t
  | _, _, _, .str x, r => by obtain ⟨t, rfl⟩ := r; exact .str x t
  | _, _, _, .lst h a, r => by
    cases r
    obtain ⟨its, rv, ⟨o, n, ho, hc, _, hd⟩, _⟩ := I.list h
    exact .lst ho hc hd (DxAll.rx I a rv)
  | _, _, _, .tup h a, r => by
    cases r
    obtain ⟨its, rv, ⟨o, ho, hc, n, hd⟩, _⟩ := I.tuple h
    exact .tup ho hc hd (DxAll.rx I a rv)
  | _, _, _, .dic h, r => by
    cases r
    obtain ⟨_, hs, vs, kv, o, es, ep, ho, hx, hd, hk, hp, _⟩ := I.hok _ _ h
    cases kv
    have e : es = #[] := by
      cases es with
      | mk l =>
        cases hp
        rfl
    subst e
    exact .dic ho hx.1 hd hs
theorem DxAll.rx (I : Inv X pins σ H s) : ∀ {vs : List V} {us : List Value} {ds : List PyData}, DxAll X.K H vs ds → Vals vs us → RxAll s.heap us ds
  | _, _, _, .nil, r => by cases r; exact .nil
  | _, _, _, .cons h a, r => by
    cases r with
    | cons r1 r2 => exact .cons (Dx.rx I h r1) (DxAll.rx I a r2)
end
end
section
variable {h : Heap}
mutual
theorem Rx.reads : ∀ {u : Value} {d : PyData}, Rx h u d → ∃ as, Reads h u d as
  | _, _, .non => ⟨_, .none⟩
  | _, _, .bl b => ⟨_, .bool b⟩
  | _, _, .int i t => ⟨_, .int i t⟩
  | _, _, .str x t => ⟨_, .str x t⟩
  | _, _, .lst h1 h2 h3 h4 => by
    obtain ⟨as, r⟩ := RxAll.reads h4
    exact ⟨_, .list h1 h2 h3 r⟩
  | _, _, .tup h1 h2 h3 h4 => by
    obtain ⟨as, r⟩ := RxAll.reads h4
    exact ⟨_, .tuple h1 h2 h3 r⟩
  | _, _, .dic h1 h2 h3 h4 => ⟨_, .dict h1 h2 h3 .nil .nil⟩
theorem RxAll.reads : ∀ {us : List Value} {ds : List PyData}, RxAll h us ds → ∃ as, ReadsAll h us ds as
  | _, _, .nil => ⟨_, .nil⟩
  | _, _, .cons h1 h2 => by
    obtain ⟨as, r⟩ := Rx.reads h1
    obtain ⟨bs, q⟩ := RxAll.reads h2
    exact ⟨_, .cons r q⟩
end
theorem keys_less {bs : List Addr} {n m : Nat} (hb : ReadAtMost h n bs) (le : n ≤ m) : ReadAtMost h m bs := hb.mono le
variable {prog : Program} {w : World}
mutual
theorem Rx.shows : ∀ {u : Value} {d : PyData}, Rx h u d → d.showable = true → d.shown.length ≤ sizeLine → ∃ bs, ReadAtMost h d.depth bs ∧ ReprK prog w bs h d.depth u d.shown
  | _, _, .non, _, _ => ⟨[], (fun _ z => nomatch z), by
      rw [PyData.shown_none]
      exact .of_is ReprIs.none _ _ _⟩
  | _, _, .bl b, _, _ => ⟨[], (fun _ z => nomatch z), by
      rw [PyData.shown_bool]
      exact .of_is (ReprIs.bool b) _ _ _⟩
  | _, _, .int i t, hs, _ => ⟨[], (fun _ z => nomatch z), by
      rw [PyData.shown_int]
      exact .of_is (ReprIs.int t (by simpa [PyData.showable] using hs)) _ _ _⟩
  | _, _, .str x t, _, hz => ⟨[], (fun _ z => nomatch z), by
      rw [PyData.shown_str] at hz ⊢
      exact .of_is (ReprIs.str x t hz) _ _ _⟩
  | _, _, .lst (a := a) (vs := vs) (ds := ds) h1 h2 h3 h4, hs, hz => by
    have hz' : (listText (PyData.shownAll ds)).length ≤ sizeLine := by simpa only [PyData.shown] using hz
    obtain ⟨bs, hb, hk⟩ := RxAll.shows h4 (by simpa [PyData.showable] using hs) (fun t ht => Nat.le_trans (listText_mem_le ht) hz')
    obtain ⟨as, r⟩ := Rx.reads (.lst h1 h2 h3 h4)
    have na : a ∉ bs := not_mem_of_deeper r (by simp only [PyData.depth]; omega) hb
    refine ⟨a :: bs, ReadAtMost.cons r (by simp only [PyData.depth]; omega) hb, ?_⟩
    simp only [PyData.shown, PyData.depth]
    cases vs with
    | nil =>
      cases h4
      simp only [PyData.shownAll, listText_nil]
      exact ReprK.listEmpty h1 h2 h3
    | cons x l => exact ReprK.list h1 h2 h3 na (by simpa using hk.length_eq) (fun i y e => hk.item i y (by simpa using e))
  | _, _, .tup (a := a) (vs := vs) (ds := ds) h1 h2 h3 h4, hs, hz => by
    have hz' : (tupleText (PyData.shownAll ds)).length ≤ sizeLine := by simpa only [PyData.shown] using hz
    obtain ⟨bs, hb, hk⟩ := RxAll.shows h4 (by simpa [PyData.showable] using hs) (fun t ht => Nat.le_trans (tupleText_mem_le ht) hz')
    obtain ⟨as, r⟩ := Rx.reads (.tup h1 h2 h3 h4)
    have na : a ∉ bs := not_mem_of_deeper r (by simp only [PyData.depth]; omega) hb
    refine ⟨a :: bs, ReadAtMost.cons r (by simp only [PyData.depth]; omega) hb, ?_⟩
    simp only [PyData.shown, PyData.depth]
    exact ReprK.tuple h1 h2 h3 na hk
  | _, _, .dic (a := a) h1 h2 h3 h4, hs, hz => by
    obtain ⟨as, r⟩ := Rx.reads (.dic h1 h2 h3 h4)
    refine ⟨[a], ReadAtMost.cons r (n := 0) (Nat.zero_le _) (fun _ z => nomatch z), ?_⟩
    have e1 : (PyData.dict []).shown = dictText [] := by simp only [PyData.shown, PyData.shownKv]
    have e2 : (PyData.dict []).depth = 0 + 1 := by simp [PyData.depth, PyData.depthKv]
    rw [e1, e2]
    exact ReprK.dict h1 h2 h3 h4 (fun z => nomatch z) .nil
theorem RxAll.shows : ∀ {us : List Value} {ds : List PyData}, RxAll h us ds → PyData.showableAll ds = true → (∀ t ∈ PyData.shownAll ds, t.length ≤ sizeLine) → ∃ bs, ReadAtMost h (PyData.depthAll ds) bs ∧ ReprAllK prog w bs h (PyData.depthAll ds) us (PyData.shownAll ds)
  | _, _, .nil, _, _ => ⟨[], (fun _ z => nomatch z), by
      rw [PyData.shownAll_nil]
      exact .nil⟩
  | _, _, .cons (d := d) (ds := ds) h1 h2, hs, hz => by
    have hs' : d.showable = true ∧ PyData.showableAll ds = true := by simpa [PyData.showableAll] using hs
    rw [PyData.shownAll_cons] at hz ⊢
    obtain ⟨b1, m1, k1⟩ := Rx.shows h1 hs'.1 (hz _ List.mem_cons_self)
    obtain ⟨b2, m2, k2⟩ := RxAll.shows h2 hs'.2 (fun t ht => hz t (List.mem_cons_of_mem _ ht))
    have e : PyData.depthAll (d :: ds) = max d.depth (PyData.depthAll ds) := by simp only [PyData.depthAll]
    rw [e]
    refine ⟨b1 ++ b2, (m1.mono (Nat.le_max_left _ _)).append (m2.mono (Nat.le_max_right _ _)), ?_⟩
    exact .cons ((k1.more fun b hb => List.mem_append_left _ hb).level_le (Nat.le_max_left _ _)) (k2.more_le (fun b hb => List.mem_append_right _ hb) (Nat.le_max_right _ _))
end
end
/-- repr of a value, where no repr is under way -/
def rReprX (K : PySem.W.Frag) : List V → Hp → VK → Prop := fun vs H Q => ∃ (x : V) (d : PyData), vs = [x] ∧ Dx K H x d ∧ d.showable = true ∧ d.depth ≤ 40 ∧ d.shown.length ≤ sizeLine ∧ Q (.str d.shown) H
theorem call_reprX {X : Cx} (hg : X.A.guards = some []) (hu : X.A.units + 64 < cLine) : CallR X (.builtin "repr") (rReprX X.K) := by
  intro pins s σ H vs us Q I rs hw
  obtain ⟨x, d, rfl, dx, hs, hd, hz, q⟩ := hw
  obtain ⟨u, rfl, r⟩ := vals1 rs
  have rx := Dx.rx I dx r
  have fin : ∀ (h' : Heap) (t : Tok) (tk : Nat), (∀ b o, s.heap.get? b = some o → h'.get? b = some o) → EP X pins σ Q (.str d.shown t) { s with heap := h', toks := tk } := fun h' t tk k => ⟨.str d.shown, H, I.kept k, ⟨t, rfl⟩, q⟩
  have fin0 : ∀ (t : Tok) (tk : Nat), EP X pins σ Q (.str d.shown t) { s with toks := tk } := fun t tk => ⟨.str d.shown, H, I.tok tk, ⟨t, rfl⟩, q⟩
  cases rx with
  | non =>
    rw [PyData.shown_none] at fin0
    exact PySem.P.repr_of_none (fin0 _ _)
  | bl b =>
    rw [PyData.shown_bool] at fin0
    exact PySem.P.repr_of_bool (fin0 _ _)
  | int i t =>
    rw [PyData.shown_int] at fin0
    exact PySem.P.repr_of_int (by simpa [PyData.showable] using hs) (fin0 _ _)
  | str y t =>
    rw [PyData.shown_str] at fin0 hz
    exact PySem.P.repr_of_str (fin0 _ _) hz
  | @lst a o n vs ds h1 h2 h3 h4 =>
    have hz' : (listText (PyData.shownAll ds)).length ≤ sizeLine := by simpa only [PyData.shown] using hz
    obtain ⟨bs, hb, hk⟩ := RxAll.shows (prog := X.prog) (w := X.w) h4 (by simpa [PyData.showable] using hs) (fun t ht => Nat.le_trans (listText_mem_le ht) hz')
    obtain ⟨as, rd⟩ := Rx.reads (.lst h1 h2 h3 h4)
    have na : a ∉ bs := not_mem_of_deeper rd (by simp only [PyData.depth]; omega) hb
    simp only [PyData.shown] at fin
    simp only [PyData.depth] at hd
    refine call_repr_slot (by omega) ⟨o, h1, h2⟩ PySem.F.slot_list_repr.toG ?_
    cases vs with
    | nil =>
      cases h4
      simp only [listText_nil, PyData.shownAll] at fin
      exact call_list_repr_empty ⟨o, h1, h2⟩ h1 h3 ⟨_, _, rfl, fin _ _ _ fun _ _ e => e⟩
    | cons x l =>
      exact call_list_reprK h1 h2 h3 na (by simpa using hk.length_eq) (fun i y e => hk.item i y (by simpa using e)) (A := X.A.in1) hg (fun b _ => Clear.nil b) (by show X.A.units + 1 + _ < cLine; omega) (fun _ _ e => e) (fun h' u tk k => ⟨_, _, rfl, fin h' u tk k⟩) hz'
  | @tup a o n vs ds h1 h2 h3 h4 =>
    have hz' : (tupleText (PyData.shownAll ds)).length ≤ sizeLine := by simpa only [PyData.shown] using hz
    obtain ⟨bs, hb, hk⟩ := RxAll.shows (prog := X.prog) (w := X.w) h4 (by simpa [PyData.showable] using hs) (fun t ht => Nat.le_trans (tupleText_mem_le ht) hz')
    obtain ⟨as, rd⟩ := Rx.reads (.tup h1 h2 h3 h4)
    have na : a ∉ bs := not_mem_of_deeper rd (by simp only [PyData.depth]; omega) hb
    simp only [PyData.shown] at fin
    simp only [PyData.depth] at hd
    refine call_repr_slot (by omega) ⟨o, h1, h2⟩ PySem.F.slot_tuple_repr ?_
    exact call_tuple_reprK h1 h2 h3 na hk (A := X.A.in1) hg (fun b _ => Clear.nil b) (by show X.A.units + 1 + _ < cLine; omega) (fun _ _ e => e) (fun h' u tk k => ⟨_, _, rfl, fin h' u tk k⟩) hz'
  | @dic a o n h1 h2 h3 h4 =>
    have e1 : (PyData.dict []).shown = dictText [] := by simp only [PyData.shown, PyData.shownKv]
    rw [e1] at fin
    refine call_repr_slot (by omega) ⟨o, h1, h2⟩ PySem.F.slot_dict_repr ?_
    exact call_dict_reprK (as := []) (d := 0) h1 h2 h3 h4 (fun z => nomatch z) .nil (A := X.A.in1) hg (fun b _ => Clear.nil b) (by show X.A.units + 1 + _ < cLine; omega) (fun _ _ e => e) (fun h' u tk k => ⟨_, _, rfl, fin h' u tk k⟩) (by decide +kernel)
end DS
namespace DS
open PySem
/-! ### the first error of a value -/
def chr2 (rows : List Str) (i j : Nat) : Nat := (rows.getD i ⟨#[]⟩).cps.getD j 0
def BadS (rows : List Str) (i j : Nat) : Prop := (i = j ∧ chr2 rows i j ≠ 46) ∨ (i ≠ j ∧ chr2 rows i j ≠ 43 ∧ chr2 rows i j ≠ 45)
def EqP (rows : List Str) (i j : Nat) : Prop := i < j ∧ chr2 rows i j = chr2 rows j i
/-- the first place of an n times n square, row by row, at which P holds -/
def First (n : Nat) (P : Nat → Nat → Prop) (i j : Nat) : Prop := i < n ∧ j < n ∧ P i j ∧ ∀ a b, a < n → b < n → (a < i ∨ (a = i ∧ b < j)) → ¬ P a b
def Free (n : Nat) (P : Nat → Nat → Prop) : Prop := ∀ a b, a < n → b < n → ¬ P a b
def isRow (n : Nat) (d : PyData) : Prop := ∃ y : Str, d = .str y ∧ y.length = n
def E3 (a b : PyData) (x : Str) : PyData := .tuple [a, b, .str x]
/-- n texts of n signs each, n from 1 to 9 -/
structure Sqr (rows : List Str) : Prop where
  one : 1 ≤ rows.length
  nine : rows.length ≤ 9
  all : ∀ y ∈ rows, y.length = rows.length
inductive ErrD : PyData → PyData → Prop
  | tab {d : PyData} (h : ∀ ds, d = .tuple ds → ¬ (1 ≤ ds.length ∧ ds.length ≤ 9)) : ErrD d (E3 .none .none "table")
  | row {ds : List PyData} {i : Nat} {d : PyData} (h1 : 1 ≤ ds.length) (h9 : ds.length ≤ 9) (hi : ds[i]? = some d) (hb : ¬ isRow ds.length d) (hf : ∀ a d, a < i → ds[a]? = some d → isRow ds.length d) : ErrD (.tuple ds) (E3 (.int i) .none "row")
  | sign {rows : List Str} {i j : Nat} (s : Sqr rows) (f : First rows.length (BadS rows) i j) : ErrD (.tuple (rows.map .str)) (E3 (.int i) (.int j) "sign")
  | pair {rows : List Str} {i j : Nat} (s : Sqr rows) (n : Free rows.length (BadS rows)) (f : First rows.length (EqP rows) i j) : ErrD (.tuple (rows.map .str)) (E3 (.int i) (.int j) "pair")
  | ok {rows : List Str} (s : Sqr rows) (n : Free rows.length (BadS rows)) (f : Free rows.length (EqP rows)) : ErrD (.tuple (rows.map .str)) .none
theorem First.one {n : Nat} {P : Nat → Nat → Prop} {i j a b : Nat} (h : First n P i j) (k : First n P a b) : i = a ∧ j = b := by
  obtain ⟨h1, h2, h3, h4⟩ := h
  obtain ⟨k1, k2, k3, k4⟩ := k
  rcases Nat.lt_trichotomy i a with x | x | x
  · exact absurd h3 (k4 i j h1 h2 (.inl x))
  · rcases Nat.lt_trichotomy j b with y | y | y
    · exact absurd h3 (k4 i j h1 h2 (.inr ⟨x, y⟩))
    · exact ⟨x, y⟩
    · exact absurd k3 (h4 a b k1 k2 (.inr ⟨x.symm, y⟩))
  · exact absurd k3 (h4 a b k1 k2 (.inl x))
theorem Free.not {n : Nat} {P : Nat → Nat → Prop} {i j : Nat} (h : Free n P) (k : First n P i j) : False := h i j k.1 k.2.1 k.2.2.1
theorem strs_inj : ∀ {a b : List Str}, a.map PyData.str = b.map PyData.str → a = b
  | [], [], _ => rfl
  | [], _ :: _, h => by cases h
  | _ :: _, [], h => by cases h
  | x :: a, y :: b, h => by
    injection h with h1 h2
    injection h1 with h1
    rw [h1, strs_inj h2]
theorem sqr_rows {rows : List Str} (s : Sqr rows) {i : Nat} {d : PyData} (h : (rows.map PyData.str)[i]? = some d) : isRow (rows.map PyData.str).length d := by
  rw [List.getElem?_map] at h
  cases e : rows[i]? with
  | none =>
    rw [e] at h
    cases h
  | some y =>
    rw [e] at h
    cases h
    exact ⟨y, rfl, by rw [List.length_map]; exact s.all y (List.mem_of_getElem? e)⟩
theorem sqr_tab {rows : List Str} (s : Sqr rows) (h : ∀ ds, PyData.tuple (rows.map .str) = .tuple ds → ¬ (1 ≤ ds.length ∧ ds.length ≤ 9)) : False :=
  h _ rfl (by rw [List.length_map]; exact ⟨s.one, s.nine⟩)
theorem errD_one {d e e' : PyData} (h : ErrD d e) (k : ErrD d e') : e = e' := by
  generalize hd : d = d' at k
  cases h with
  | tab h =>
    cases k with
    | tab _ => rfl
    | row h1 h9 _ _ _ => exact absurd ⟨h1, h9⟩ (h _ hd)
    | sign s _ => subst hd; exact (sqr_tab s h).elim
    | pair s _ _ => subst hd; exact (sqr_tab s h).elim
    | ok s _ _ => subst hd; exact (sqr_tab s h).elim
  | row h1 h9 hi hb hf =>
    cases k with
    | tab h => exact absurd ⟨h1, h9⟩ (h _ hd.symm)
    | row k1 k9 ki kb kf =>
      injection hd with hd
      subst hd
      rename_i i1 d1 i2 d2
      have e : i1 = i2 := by
        rcases Nat.lt_trichotomy i1 i2 with x | x | x
        · exact absurd (kf i1 _ x hi) hb
        · exact x
        · exact absurd (hf i2 _ x ki) kb
      rw [e]
    | sign s _ => injection hd with hd; subst hd; exact absurd (sqr_rows s hi) hb
    | pair s _ _ => injection hd with hd; subst hd; exact absurd (sqr_rows s hi) hb
    | ok s _ _ => injection hd with hd; subst hd; exact absurd (sqr_rows s hi) hb
  | sign s f =>
    cases k with
    | tab h => subst hd; exact (sqr_tab s h).elim
    | row h1 h9 hi hb hf => injection hd with hd; subst hd; exact absurd (sqr_rows s hi) hb
    | sign s' f' =>
      injection hd with hd
      have e := strs_inj hd
      subst e
      obtain ⟨rfl, rfl⟩ := f.one f'
      rfl
    | pair s' n' f' =>
      injection hd with hd
      have e := strs_inj hd
      subst e
      exact (n'.not f).elim
    | ok s' n' f' =>
      injection hd with hd
      have e := strs_inj hd
      subst e
      exact (n'.not f).elim
  | pair s n f =>
    cases k with
    | tab h => subst hd; exact (sqr_tab s h).elim
    | row h1 h9 hi hb hf => injection hd with hd; subst hd; exact absurd (sqr_rows s hi) hb
    | sign s' f' =>
      injection hd with hd
      have e := strs_inj hd
      subst e
      exact (n.not f').elim
    | pair s' n' f' =>
      injection hd with hd
      have e := strs_inj hd
      subst e
      obtain ⟨rfl, rfl⟩ := f.one f'
      rfl
    | ok s' n' f' =>
      injection hd with hd
      have e := strs_inj hd
      subst e
      exact (f'.not f).elim
  | ok s n f =>
    cases k with
    | tab h => subst hd; exact (sqr_tab s h).elim
    | row h1 h9 hi hb hf => injection hd with hd; subst hd; exact absurd (sqr_rows s hi) hb
    | sign s' f' =>
      injection hd with hd
      have e := strs_inj hd
      subst e
      exact (n.not f').elim
    | pair s' n' f' =>
      injection hd with hd
      have e := strs_inj hd
      subst e
      exact (f.not f').elim
    | ok s' n' f' => rfl
/-- all items are rows: then they are texts, n of n signs -/
theorem rows_of : ∀ {ds : List PyData} {n : Nat}, (∀ d ∈ ds, isRow n d) → ∃ rows : List Str, ds = rows.map .str ∧ ∀ y ∈ rows, y.length = n
  | [], _, _ => ⟨[], rfl, fun _ h => nomatch h⟩
  | d :: ds, n, h => by
    obtain ⟨y, rfl, hy⟩ := h d List.mem_cons_self
    obtain ⟨rows, rfl, hr⟩ := rows_of fun d hd => h d (List.mem_cons_of_mem _ hd)
    refine ⟨y :: rows, rfl, fun z hz => ?_⟩
    rcases List.mem_cons.mp hz with e | e
    · rw [e]
      exact hy
    · exact hr z e
end DS
namespace DS
open PySem PySem.Spec PyProof.Rows L2
/-! ### promises that hold where no repr is under way -/
structure FnG (P : Program) (w : World) (K : PySem.W.Frag) (mg : Str → Option Value) (base : Heap) (CX : CXT) (k : Nat) (f : Addr) (fd : FuncData) (ps : List Str) (sp : Sp) : Prop where
  len : ∀ vs H Q E, sp vs H Q E → vs.length = ps.length
  go : ∀ (A : Around) (outer : List Env) (s : Shared) (H : Hp) (args : Args) (us : List Value) (vs : List V) (Q : VK) (E : XK), A.guards = some [] → Room k A → Env0 P w K mg base A outer s H →
    BindsTo s fd args (ps.zip us) → Vals vs us → sp vs H Q E → codeAny (model P w) A (.call (.ref f) args) (CR CX outer P w H s Q E) s
section
variable {P : Program} {w : World} {K : PySem.W.Frag} {mg : Str → Option Value} {base : Heap} {CX : CXT} {k : Nat} {f : Addr} {fd : FuncData} {ps : List Str} {sp : Sp}
theorem FnG.of (F : FnOk P w K mg base CX k f fd ps sp) : FnG P w K mg base CX k f fd ps sp := ⟨F.len, fun A outer s H args us vs Q E _ => F.run A outer s H args us vs Q E⟩
theorem FnG.up {j : Nat} (F : FnG P w K mg base CX j f fd ps sp) (h : j ≤ k) : FnG P w K mg base CX k f fd ps sp := ⟨F.len, fun A outer s H args us vs Q E hg hr => F.go A outer s H args us vs Q E hg (hr.mono h)⟩
/-- a def by its body, where no repr is under way -/
theorem FnG.body {x qual : Str} {st : Stmt} {N : List Str} (F : Fun K x qual st f fd) (S : FnScope N ps (defScope st)) (len : ∀ vs H Q E, sp vs H Q E → vs.length = ps.length)
    (hb : ∀ (cdv : Value) (A : Around) (outer : List Env) (s : Shared) (H : Hp) (vs : List V) (Q : VK) (E : XK), A.guards = some [] → Room k (A.deeper (envOfC qual (defScope st) s.heap.objs.size f cdv)) → sp vs H Q E →
      ∃ t, PSs (cxOf CX P w K mg base N qual (defScope st) f cdv A outer s H E) (defBody st) t ∧ t { nx := fun _ H' => Q .non H', rt := Q } (start N vs) H) : FnG P w K mg base CX (k + 1) f fd ps sp := by
  obtain ⟨oc, od, kV, doc, pm, an, cdv, ct, osl, rfl, lk, hcd⟩ := F.ex
  refine ⟨len, fun A outer s H args us vs Q E hg hr e0 bind r want => ?_⟩
  have kin : K.In s.heap := e0.mod.kin.keeps fun b o e => (e0.bs b o e).1
  have nolim : s.heap.NoLimit := e0.mod.nolimit.keeps fun b o e => (e0.bs b o e).1
  refine codeAny_call_function hr.depth (kin _ _ lk) rfl S.co S.gen rfl (PySem.W.codeRec_of kin hcd) (bind _ _ _ _ (wpAny_newFunctionEnv_cells S.kind ?kinds fun env he s1 x => ?inside))
  case kinds =>
    intro y hy
    obtain ⟨n, v⟩ := y
    rcases S.par n (List.of_mem_zip hy).1 with q | q
    · exact .inl q
    · exact .inr ⟨q, PySem.W.cellsFrom_some _ _ _ (.inl q)⟩
  case inside =>
    subst he
    refine ⟨nolim.keeps x.toInCall.keep, codeAny_func ?_⟩
    obtain ⟨t, ht, hq⟩ := hb cdv A outer s H vs Q E hg (hr.deeper _) want
    have I := inv_start (CX := CX) (E := E) S hr.hd e0 (len _ _ _ _ want) r x
    refine wpAny_mono (ht.run [] s1 (start N vs) H _ I hq) (fun fl s' hs => ?_) fun _ _ h => h
    cases fl with
    | ret u =>
      obtain ⟨v, σ', H', J, rv, q⟩ := hs
      exact ⟨v, H', J.os, J.bare, J.base, J.hok, rv, q⟩
    | next =>
      obtain ⟨σ', H', J, q⟩ := hs
      exact ⟨.non, H', J.os, J.bare, J.base, J.hok, rfl, q⟩
    | brk =>
      obtain ⟨_, _, _, q⟩ := hs
      exact q.elim
    | cont =>
      obtain ⟨_, _, _, q⟩ := hs
      exact q.elim
theorem FnG.ok {x qual : Str} {st : Stmt} {N : List Str} (F : Fun K x qual st f fd) (S : FnScope N ps (defScope st)) (len : ∀ vs H Q E, sp vs H Q E → vs.length = ps.length)
    (hb : ∀ (cdv : Value) (A : Around) (outer : List Env) (s : Shared) (H : Hp) (vs : List V) (Q : VK) (E : XK), (A.deeper (envOfC qual (defScope st) s.heap.objs.size f cdv)).guards = some [] → Room k (A.deeper (envOfC qual (defScope st) s.heap.objs.size f cdv)) → sp vs H Q E →
      ∃ t, PSs (cxOf CX0 P w K mg base N qual (defScope st) f cdv A outer s H E).nox (defBody st) t ∧ t { nx := fun _ H' => Q .non H', rt := Q } (start N vs) H) : FnG P w K mg base CX0 (k + 1) f fd ps sp :=
  FnG.body F S len fun cdv A outer s H vs Q E hg hr h => by
    obtain ⟨t, ht, q⟩ := hb cdv A outer s H vs Q E hg hr h
    exact ⟨t, ht.nox, q⟩
end
section
variable {X : Cx} {CX : CXT} {k : Nat} {f : Addr} {fd : FuncData} {ps : List Str} {sp : Sp} {dvs : List V} {ds : List Value} {E : XK} {x : Str} {p pos : Pos} {e : Expr} {es : List Expr} {t : TA}
/-- f(e, ..) by such a promise -/
theorem pe_callG (F : FnG X.prog X.w X.K X.mg X.base CX k f fd ps sp) (hgd : X.A.guards = some []) (hr : Room k X.A) (hg : Gl X x) (hm : X.mg x = some (.ref f)) (hk : PySem.W.keepIn X.K (.ref f) = true) (hb : Binds X.K fd ps ds) (hd : Vals dvs ds) (hx : Passes CX X E)
    (ha : PA X (e :: es) t) (hdb : (x == ("__debug__" : Str)) = false := by decide) (he : starEach (e :: es) X.env = (false, eval e X.env) :: starEach es X.env := by rfl) (hpl : (backTo pos (starEach es X.env)).any (·.1) = false := by rfl) :
    PE X (.Call (.Name x p) (e :: es) [] pos) (tCall sp dvs E t) := by
  refine ⟨fun pins s σ H Q I h => wpAny_Call_Name_kw (ld_glob I hg hm ?_ hdb)⟩
  refine PySem.W.callWith_K (h₀ := X.base) I.ok.mod.kin hk (thn (ha.run pos pins s σ H _ I h) fun us s1 hz => ?_) he hpl
  obtain ⟨vs, H1, I1, r, q⟩ := hz
  refine ⟨I1.kIn, ?_⟩
  have r2 : Vals (vs ++ dvs) (us ++ ds) := r.append hd
  have hl : (us ++ ds).length = ps.length := by
    rw [← r2.length]
    exact F.len _ _ _ _ q
  refine wpAny_call (codeAny_mono (F.go X.A X.stack s1 H1 ⟨us, []⟩ _ _ Q E hgd hr I1.env0 (hb s1 us I1.kIn hl) r2 q) fun r s' hq => ?_)
  match r, hq with
  | .error e, hq => exact hx pins σ H1 s1 e s' I1 hq
  | .ok (.ret u), hq => exact I1.after hq
  | .ok .next, hq => exact hq.elim
  | .ok .brk, hq => exact hq.elim
  | .ok .cont, hq => exact hq.elim
end
/-! ### the law's call: nothing is under way around it -/
section
variable {P : Program} {w : World} {K : PySem.W.Frag} {mg mb : Str → Option Value} {s₁ : Shared} {a : Addr} {vs : List Value} {ns : List Int} {H : Hp}
/-- the state ahead of the law's call, with nothing tracked but the script -/
theorem env_top (kin : K.In s₁.heap) (ng : s₁.heap.Ns mainGlobals mg) (nb : s₁.heap.Ns builtinsNs mb) (bb : ∀ x : Str, x ≠ "__name__" → mb x = bootBuiltins x) (lim : s₁.heap.NoLimit) (gen : s₁.gens = #[])
    (obj : s₁.heap.get? a = some { cls := .type "list", data := .seq vs.toArray }) (ok : HOk P w H s₁.heap) (only : ∀ b, H b ≠ none → b = a) (apart : H a ≠ none → K.lookup a = none) :
    K.In (hidT s₁.heap H) ∧ (hidT s₁.heap H).Ns mainGlobals mg ∧ Env0 P w K mg (hidT s₁.heap H) callerA [] s₁ H := by
  have free : ∀ {b : Addr} {m : Str → Option Value}, s₁.heap.Ns b m → (hidT s₁.heap H).Ns b m := fun {b m} n => by
    obtain ⟨o, es, ep, e, d, r⟩ := n
    refine ⟨o, es, ep, hidT_get e ?_, d, r⟩
    cases q : H b with
    | none => rfl
    | some u =>
      have z := only b (by rw [q]; exact fun z => nomatch z)
      rw [z, obj] at e
      cases e
      cases d
  have kb : K.In (hidT s₁.heap H) := fun b o e => hidT_get (kin b o e) (by
    cases q : H b with
    | none => rfl
    | some u =>
      have z := only b (by rw [q]; exact fun z => nomatch z)
      have y := apart (by rw [← z, q]; exact fun z => nomatch z)
      rw [z, y] at e
      cases e)
  obtain ⟨mc, l1, l2⟩ := lim
  exact ⟨kb, free ng, rfl, ⟨kb, free ng, ⟨mb, free nb, bb⟩, mc, free l1, l2⟩, fun b o e => of_hidT e, Nat.le_of_eq (hidT_size _ _), trivial, fun b hb => absurd hb List.not_mem_nil, ok, .of_eq gen⟩
theorem top_call {CX : CXT} {k : Nat} {fa : Addr} {fd : FuncData} {x : Str} {sp : Sp} (kin : K.In s₁.heap) (ng : s₁.heap.Ns mainGlobals mg) (nb : s₁.heap.Ns builtinsNs mb) (bb : ∀ x : Str, x ≠ "__name__" → mb x = bootBuiltins x) (lim : s₁.heap.NoLimit) (gen : s₁.gens = #[])
    (obj : s₁.heap.get? a = some { cls := .type "list", data := .seq vs.toArray }) (hin : IntsAre vs ns) (len : ns.length ≤ sizeLine) (room : Room k callerA)
    (F : ∀ base : Heap, K.In base → base.Ns mainGlobals mg → FnG P w K mg base CX k fa fd [x] sp) (bind : ∀ (s : Shared) (u : Value), BindsTo s fd ⟨[u], []⟩ [(x, u)])
    (want : ∀ H : Hp, Only H → SqL K H a (ns.map V.int) → sp [.ref a] H (fun v _ => v = .bl true) fun _ _ _ => False) (noX : ∀ H e s', CX [] H s₁ (fun _ _ _ => False) e s' → False) :
    codeAny (model P w) callerA (.call (.ref fa) ⟨[.ref a], []⟩) (fun r s' => r = .ok (.ret (.bool true)) ∧ OldK s₁.heap s'.heap ∧ s'.os = s₁.os ∧ AllBare s'.gens) s₁ := by
  have rv := vals_ints hin
  have ln := hin.length
  have main : ∀ H : Hp, Only H → SqL K H a (ns.map V.int) → HOk P w H s₁.heap → (∀ b, H b ≠ none → b = a) → (H a ≠ none → K.lookup a = none) →
      codeAny (model P w) callerA (.call (.ref fa) ⟨[.ref a], []⟩) (fun r s' => r = .ok (.ret (.bool true)) ∧ OldK s₁.heap s'.heap ∧ s'.os = s₁.os ∧ AllBare s'.gens) s₁ := by
    intro H hO hS ok only apart
    obtain ⟨kb, nsb, e0⟩ := env_top (P := P) (w := w) kin ng nb bb lim gen obj ok only apart
    refine codeAny_mono ((F _ kb nsb).go callerA [] s₁ H ⟨[.ref a], []⟩ [.ref a] [.ref a] _ _ rfl room e0 (bind s₁ (.ref a)) (.cons rfl .nil) (want H hO hS)) fun r s' h => ?_
    match r, h with
    | .error e, h => exact (noX H e s' h).elim
    | .ok .next, h => exact h.elim
    | .ok .brk, h => exact h.elim
    | .ok .cont, h => exact h.elim
    | .ok (.ret u), h =>
      obtain ⟨v, H', os, bare, un, ok', rr, q⟩ := h
      have q2 : v = .bl true := q
      subst q2
      obtain rfl : u = Value.bool true := rr
      refine ⟨rfl, OldK.of_keep fun b o e => ?_, os, bare⟩
      rcases hO b with z | ⟨ob, xs, z⟩
      · exact un.keep b o e z (fun y => absurd y List.not_mem_nil) List.not_mem_nil
      · have k1 := (ok b _ z).1
        have k2 := (ok' b _ (un.frzs b ob _ z)).1
        rw [e] at k1
        cases k1
        exact k2
  cases hk : K.lookup a with
  | some o =>
    have e := kin a o hk
    rw [obj] at e
    cases e
    refine main (fun _ => none) (fun _ => .inl rfl) (.inr ⟨_, vs.toArray, _, hk, rfl, rfl, rfl, ?_, rv⟩) (fun b u z => nomatch z) (fun b z => absurd rfl z) (fun z => absurd rfl z)
    rw [List.size_toArray, ln]
    exact len
  | none =>
    have at_a : (fun b => if b = a then some (HO.frz { cls := .type "list", data := .seq vs.toArray } (.lst (ns.map V.int))) else none : Hp) a = some (.frz { cls := .type "list", data := .seq vs.toArray } (.lst (ns.map V.int))) := if_pos rfl
    refine main (fun b => if b = a then some (.frz { cls := .type "list", data := .seq vs.toArray } (.lst (ns.map V.int))) else none) (fun b => ?_) (.inl (.inr ⟨_, at_a⟩)) (fun b u z => ?_) (fun b z => ?_) (fun _ => hk)
    · by_cases e : b = a
      · exact .inr ⟨_, _, if_pos e⟩
      · exact .inl (if_neg e)
    · by_cases e : b = a
      · subst e
        rw [at_a] at z
        cases z
        refine ⟨obj, ?_, vs, _, rv, obj⟩
        rw [List.length_map]
        exact len
      · have z2 := (if_neg e).symm.trans z
        cases z2
    · by_cases e : b = a
      · exact e
      · exact absurd (if_neg e) z
end
/-- the end of a law whose promise needs that no repr is under way -/
theorem walk_top {l : PySem.W.OpenLaw} {n k : Nat} {q : Program} {loose : List Str} {XP : (Str → Option Value) → Heap → Prop} {YP : World → Heap → Prop} {d : DefRec} {K : Params → PySem.W.Frag} {sp : World → Sp} {x : Str}
    (most : l.most = some n) (le : n ≤ sizeLine) (dflt : d.params.defaults = []) (room : Room k callerA) (hY : ∀ (w : World) (h : Heap), YP w h → (K w.params).In h)
    (F : ∀ (w : World) (mg : Str → Option Value) (fa : Addr) (h : Heap), (K w.params).In h → h.Ns mainGlobals mg → mg d.name = some (.ref fa) →
      ∃ fd : FuncData, (∀ (s : Shared) (u : Value), BindsTo s fd ⟨[u], []⟩ [(x, u)]) ∧ ∀ base : Heap, (K w.params).In base → base.Ns mainGlobals mg → FnG l.prog w (K w.params) mg base CX0 k fa fd [x] (sp w))
    (want : ∀ (w : World) (H : Hp) (a : Addr) (ns : List Int), ns.length ≤ n → Only H → SqL (K w.params) H a (ns.map V.int) → sp w [.ref a] H (fun v _ => v = .bl true) fun _ _ _ => False) :
    PySem.W.WalkO q loose XP YP l.row.toRowW d [] (fun f vs => PySem.call f vs) := by
  refine Att.attach_call most dflt fun w s₀ s₁ mg mb fa o pm cd doc a vs ns G Y ho hd hcd hmg hobj hints hlen hg => ?_
  obtain ⟨fd, hb, hF⟩ := F w mg fa _ (hY w _ Y) G.T.g hmg
  exact top_call (hY w _ Y) G.T.g G.T.b G.T.builtins G.T.nolimit hg hobj hints (Nat.le_trans hlen le) room hF hb (fun H hO hS => want w H a ns hlen hO hS) (fun _ _ _ h => h)
end DS
namespace DS
open PySem PySem.Spec PyProof.Rows L2
/-! ### sum of a tuple of numbers -/
section
variable {prog : Program} {w : World} {A : Around} {E : Value → Shared → Prop} {s : Shared} {l : Addr} {its : List Value} {ns : List Int} {Q : Value → Shared → Prop}
theorem sum_tup (hh : A.handled = none) (hl : s.heap.IsTuple l its.toArray) (hi : IntsAre its ns)
    (q : ∀ h' tk t', (∀ b o, s.heap.get? b = some o → h'.get? b = some o) → Q (.int ns.sum t') { s with heap := h', toks := tk }) : wpAny (model prog w) A (call (.builtin "sum") [.ref l]) Q E s := by
  obtain ⟨xs, e⟩ := hi.allInts.items
  have hn : numsOf (intItems xs).toList = ns := by rw [← e]; exact hi.numsOf
  rw [nums_intItems] at hn
  rw [e] at hl
  have lt : l < s.heap.objs.size := by
    obtain ⟨o, ho, _⟩ := hl
    exact Heap.lt_size ho
  refine call_sum_walkG (wpAny_pyIter_tuple hl ?_)
  refine ⟨_, _, _, _, _, _, numAt xs, rfl, Walks.tuple (A := A.in1) hh _ l (Nat.ne_of_lt lt) (intItems xs), ⟨⟨_, Heap.get?_push_size _ rfl, rfl, rfl⟩, hl.push _⟩, ?_, (fun _ _ => intItems_at), fun h' tk t' hk => ?_⟩
  · intro b hb
    show b < (s.heap.push _).objs.size
    rw [Heap.size_push]
    rcases List.mem_cons.mp hb with z | z
    · rw [z]
      exact Nat.lt_succ_self _
    · rw [List.mem_singleton.mp z]
      exact Nat.lt_succ_of_lt lt
  · have := q h' tk t' fun b o e => hk b o (fun z => absurd (Heap.lt_size e) (by rw [List.mem_singleton.mp z]; exact Nat.lt_irrefl _)) (Heap.get?_push_of_some _ e)
    rw [← hn] at this
    simpa [intItems, preSum_eq, List.take_of_length_le] using this
end
def rSumT (K : PySem.W.Frag) : List V → Hp → VK → Prop := fun vs H Q => ∃ (a : Addr) (ns : List Int), vs = [V.ref a] ∧ SqT K H a (ns.map V.int) ∧ Q (.int ns.sum) H
theorem cr_sumT {X : Cx} (hc : X.calm = true) : CallR X (.builtin "sum") (rSumT X.K) := by
  intro pins s σ H vs us Q I r h
  obtain ⟨a, ns, rfl, hs, q⟩ := h
  obtain ⟨its, rv, hl, _⟩ := I.tuple hs
  rw [Vals.ref1 r]
  exact sum_tup (I.ok.hd hc) hl rv.ints fun h' tk t' hk => ⟨.int _, H, I.kept hk, ⟨_, rfl⟩, q⟩
/-! ### a sign counted -/
open Builtin Builtin.Str PySem.StrLaws in
theorem occ_one (x : Str) (c lim : Nat) : ∀ (n lo : Nat) (st : Array Nat × Nat), lo + n = x.cps.size + 1 → st.2 ≤ lo → st.1.size + n ≤ lim → (forIn (List.range' lo n) st (occBody x ⟨#[c]⟩ x.cps.size lim)).run.fst.size = st.1.size + ((List.range' lo n).filter fun j => decide (j < x.cps.size ∧ x.cps.getD j 0 = c)).length
  | 0, lo, st, h1, h2, h3 => by simp
  | n + 1, lo, st, h1, h2, h3 => by
    rw [List.range'_succ, List.forIn_cons, List.filter_cons]
    have key : (((st.fst.size < lim ∧ st.snd ≤ lo) ∧ lo + Str.length ⟨#[c]⟩ ≤ x.cps.size) ∧ subAt x ⟨#[c]⟩ lo = true) ↔ (lo < x.cps.size ∧ x.cps.getD lo 0 = c) := by
      have e1 : Str.length ⟨#[c]⟩ = 1 := rfl
      rw [e1]
      constructor
      · rintro ⟨⟨_, h4⟩, h5⟩
        refine ⟨by omega, ?_⟩
        unfold subAt at h5
        rw [e1] at h5
        have h6 : x.cps.extract lo (lo + 1) = #[c] := by simpa using h5
        have h7 : (x.cps.extract lo (lo + 1))[0]? = some c := by rw [h6]; rfl
        rw [Array.getElem?_extract] at h7
        rw [Array.getD_eq_getD_getElem?]
        have h8 : (0 : Nat) < min (lo + 1) x.cps.size - lo := by omega
        rw [if_pos h8] at h7
        rw [show lo = lo + 0 from rfl, h7]
        rfl
      · rintro ⟨h4, h5⟩
        refine ⟨⟨⟨by omega, h2⟩, by omega⟩, ?_⟩
        unfold subAt
        rw [e1]
        have h6 : x.cps.extract lo (lo + 1) = #[c] := by
          apply Array.ext
          · simp
            omega
          · intro i hi1 hi2
            have : i = 0 := by
              simp at hi2
              omega
            subst this
            rw [Array.getElem_extract]
            rw [Array.getD_eq_getD_getElem?, Array.getElem?_eq_getElem h4] at h5
            simpa using h5
        simpa using h6
    unfold occBody
    by_cases h : lo < x.cps.size ∧ x.cps.getD lo 0 = c
    · rw [if_pos (key.mpr h), if_pos (decide_eq_true h)]
      have := occ_one x c lim n (lo + 1) (st.1.push lo, lo + Str.length ⟨#[c]⟩) (by omega) (Nat.le_refl _) (by simp; omega)
      unfold occBody at this
      simp only [pure_bind]
      refine this.trans ?_
      simp
      omega
    · rw [if_neg (fun z => h (key.mp z)), if_neg (by simp only [decide_eq_true_eq]; exact h)]
      have := occ_one x c lim n (lo + 1) st (by omega) (by omega) (by omega)
      unfold occBody at this
      simp only [pure_bind]
      exact this
/-- how often a sign stands in a row -/
def cnt (x : Str) (c : Nat) : Nat := ((List.range x.cps.size).filter fun j => decide (x.cps.getD j 0 = c)).length
theorem count_one (x : Str) (c : Nat) : Txt.count x ⟨#[c]⟩ = (cnt x c : Int) := by
  unfold Txt.count cnt
  rw [PySem.StrLaws.occ_eq, Array.length_toList]
  have e : x.length = x.cps.size := rfl
  rw [e, Nat.sub_zero, occ_one x c (x.cps.size + 1) (x.cps.size + 1) 0 (#[], 0) (by omega) (Nat.le_refl _) (by simp)]
  rw [← List.range_eq_range', List.range_succ, List.filter_append]
  have l0 : ([x.cps.size].filter fun j => decide (j < x.cps.size ∧ x.cps.getD j 0 = c)) = [] := by
    rw [List.filter_cons, if_neg (by simp)]
    rfl
  rw [l0, List.append_nil]
  have : (List.range x.cps.size).filter (fun j => decide (j < x.cps.size ∧ x.cps.getD j 0 = c)) = (List.range x.cps.size).filter fun j => decide (x.cps.getD j 0 = c) := by
    apply List.filter_congr
    intro j hj
    have := List.mem_range.mp hj
    simp [this]
  rw [this]
  simp
end DS
namespace DS
open PySem PySem.Spec PyProof.Rows L2
abbrev sOdd : Stmt := topS 22
theorem scOdd : FnScope ["_law_deck_here", "_law_some"] ["_law_deck_here"] (defScope sOdd) := ⟨rfl, rfl, rfl, by decide +kernel, rfl, by decide +kernel, by decide +kernel⟩
/-! values -/
mutual
theorem Dx.same {K : PySem.W.Frag} {H H' : Hp} (e : Same H H') : ∀ {x : V} {d : PyData}, Dx K H x d → Dx K H' x d
  | _, _, .non => .non
  | _, _, .bl b => .bl b
  | _, _, .int i => .int i
  | _, _, .str y => .str y
  | _, _, .lst h a => .lst (e.seq h) (DxAll.same e a)
  | _, _, .tup h a => .tup (Same.seqT e h) (DxAll.same e a)
  | _, _, .dic h => .dic (e _ _ h)
theorem DxAll.same {K : PySem.W.Frag} {H H' : Hp} (e : Same H H') : ∀ {xs : List V} {ds : List PyData}, DxAll K H xs ds → DxAll K H' xs ds
  | _, _, .nil => .nil
  | _, _, .cons h a => .cons (Dx.same e h) (DxAll.same e a)
end
section
variable {K : PySem.W.Frag} {H : Hp}
theorem DxAll.len : ∀ {xs : List V} {ds : List PyData}, DxAll K H xs ds → xs.length = ds.length
  | _, _, .nil => rfl
  | _, _, .cons _ r => by rw [List.length_cons, List.length_cons, r.len]
theorem DxAll.get : ∀ {xs : List V} {ds : List PyData}, DxAll K H xs ds → ∀ {i : Nat} {d : PyData}, ds[i]? = some d → ∃ x, xs[i]? = some x ∧ Dx K H x d
  | _, _, .nil, i, d, h => by simp at h
  | _, _, .cons h1 r, 0, d, h => by
    cases h
    exact ⟨_, rfl, h1⟩
  | _, _, .cons h1 r, i + 1, d, h => r.get (i := i) h
theorem Dx.ty {x : V} {d : PyData} (h : Dx K H x d) : TyX K H x (.type (tyD d)) := by
  cases h with
  | non => exact .base .non
  | bl b => exact .base (.bl b)
  | int i => exact .base (.int i)
  | str y => exact .base (.str y)
  | lst h _ => exact tyX_lst h
  | tup h _ => exact tyX_tup h
  | dic h => exact .base (.dK h)
end
/-- whether a value is a text, a tuple -/
def isStrD : PyData → Bool
  | .str _ => true
  | _ => false
def isTupD : PyData → Bool
  | .tuple _ => true
  | _ => false
theorem kit_str {K : PySem.W.Frag} (d : PyData) : PySem.W.kitOne K (.type (tyD d)) (.type "str") = some (isStrD d) := by
  cases d with
  | none => exact kit1 (show kitB "NoneType" "str" = some false by decide +kernel)
  | bool _ => exact kit1 (show kitB "bool" "str" = some false by decide +kernel)
  | int _ => exact kit1 (show kitB "int" "str" = some false by decide +kernel)
  | str _ => exact kit1 (show kitB "str" "str" = some true by decide +kernel)
  | list _ => exact kit1 (show kitB "list" "str" = some false by decide +kernel)
  | tuple _ => exact kit1 (show kitB "tuple" "str" = some false by decide +kernel)
  | dict _ => exact kit1 (show kitB "dict" "str" = some false by decide +kernel)
theorem kit_tup {K : PySem.W.Frag} (d : PyData) : PySem.W.kitOne K (.type (tyD d)) (.type "tuple") = some (isTupD d) := by
  cases d with
  | none => exact kit1 (show kitB "NoneType" "tuple" = some false by decide +kernel)
  | bool _ => exact kit1 (show kitB "bool" "tuple" = some false by decide +kernel)
  | int _ => exact kit1 (show kitB "int" "tuple" = some false by decide +kernel)
  | str _ => exact kit1 (show kitB "str" "tuple" = some false by decide +kernel)
  | list _ => exact kit1 (show kitB "list" "tuple" = some false by decide +kernel)
  | tuple _ => exact kit1 (show kitB "tuple" "tuple" = some true by decide +kernel)
  | dict _ => exact kit1 (show kitB "dict" "tuple" = some false by decide +kernel)
theorem getD_of {α : Type} {l : List α} {i : Nat} {x z : α} (h : l[i]? = some x) : l.getD i z = x := by
  rw [List.getD_eq_getElem?_getD, h]
  rfl
def Tab (K : PySem.W.Frag) (H : Hp) (t : Addr) (rows : List Str) : Prop := SqT K H t (rows.map V.str) ∧ Sqr rows
theorem row_at {rows : List Str} (s : Sqr rows) {i : Nat} (h : i < rows.length) : ∃ y, rows[i]? = some y ∧ (rows.map V.str)[i]? = some (.str y) ∧ y.cps.size = rows.length ∧ rows.getD i ⟨#[]⟩ = y := by
  have e : rows[i]? = some rows[i] := List.getElem?_eq_getElem h
  refine ⟨rows[i], e, ?_, s.all _ (List.getElem_mem h), getD_of e⟩
  rw [List.getElem?_map, e]
  rfl
theorem chr_at {rows : List Str} {i j : Nat} {y : Str} (h : rows.getD i ⟨#[]⟩ = y) : chr2 rows i j = y.cps.getD j 0 := by
  unfold chr2
  rw [h]
theorem code_at {y : Str} {n j : Nat} (h : y.cps.size = n) (hj : j < n) : atI y.cps.toList (j : Int) = some (y.cps.getD j 0) := by
  apply atI_nat
  rw [Array.getElem?_toList, Array.getD_eq_getD_getElem?, Array.getElem?_eq_getElem (by omega)]
  rfl
/-! ### the heap without the deck -/
def hid (d c r : Addr) (H : Hp) : Hp := fun b => if b = d ∨ b = c ∨ b = r then none else H b
section
variable {d c r p b : Addr} {H H' : Hp} {n : Nat} {o : HO}
theorem hid_same : Same (hid d c r H) H := fun b x e => by
  unfold hid at e
  by_cases h : b = d ∨ b = c ∨ b = r
  · rw [if_pos h] at e
    cases e
  · rw [if_neg h] at e
    exact e
theorem hid_new (h : H p = none) : hid d c r H p = none := by
  unfold hid
  split
  · rfl
  · exact h
theorem hid_mono (f : ∀ b x, H b = some x → b ≠ d → b ≠ c → b ≠ r → H' b = some x) : Same (hid d c r H) (hid d c r H') := fun b x e => by
  unfold hid at e ⊢
  by_cases h : b = d ∨ b = c ∨ b = r
  · rw [if_pos h] at e
    cases e
  · rw [if_neg h] at e ⊢
    exact f b x e (fun z => h (.inl z)) (fun z => h (.inr (.inl z))) (fun z => h (.inr (.inr z)))
theorem hid_frm (f : Frm d r H H') : Same (hid d c r H) (hid d c r H') := hid_mono fun b x e h1 _ h3 => f b x e h1 h3
theorem hid_sm (s : Same H H') : Same (hid d c r H) (hid d c r H') := hid_mono fun b x e _ _ _ => s b x e
theorem hid_at (D : Deck H d c r n) (h : H p = none) {o : HO} : hid d c r (upd H p o) p = some o := by
  unfold hid
  rw [if_neg (fun z => by
    rcases z with z | z | z
    · exact D.ned h z
    · exact D.nec h z
    · exact D.ner h z), upd_same]
theorem hid_get (h1 : b ≠ d) (h2 : b ≠ c) (h3 : b ≠ r) : hid d c r H b = H b := by
  unfold hid
  rw [if_neg (fun z => by
    rcases z with z | z | z
    · exact h1 z
    · exact h2 z
    · exact h3 z)]
end
/-! ### values that are small -/
structure Itm (b : Nat) (d : PyData) : Prop where
  sh : d.showable = true
  dp : d.depth ≤ 3
  ls : d.leavesShort 40 = true
  bk : d.bulk ≤ b
theorem Itm.up {b b' : Nat} {d : PyData} (h : Itm b d) (e : b ≤ b') : Itm b' d := ⟨h.sh, h.dp, h.ls, Nat.le_trans h.bk e⟩
/-- a value that the law asks about -/
structure Val (d : PyData) : Prop where
  sh : d.showable = true
  dp : d.depth ≤ 6
  ls : d.leavesShort 40 = true
  bk : d.bulk ≤ 20000
theorem bulk_all : ∀ {ds : List PyData} {b : Nat}, (∀ d ∈ ds, Itm b d) → PyData.showableAll ds = true ∧ PyData.depthAll ds ≤ 3 ∧ PyData.leavesShortAll 40 ds = true ∧ PyData.bulkAll ds ≤ ds.length * (b + 1)
  | [], _, _ => ⟨by simp [PyData.showableAll], by simp [PyData.depthAll], by simp [PyData.leavesShortAll], by simp [PyData.bulkAll]⟩
  | d :: ds, b, h => by
    obtain ⟨h1, h2, h3, h4⟩ := bulk_all fun z hz => h z (List.mem_cons_of_mem _ hz)
    have hd := h d List.mem_cons_self
    have e : (ds.length + 1) * (b + 1) = ds.length * (b + 1) + (b + 1) := Nat.succ_mul _ _
    refine ⟨by simp [PyData.showableAll, hd.sh, h1], ?_, by simp [PyData.leavesShortAll, hd.ls, h3], ?_⟩
    · simp only [PyData.depthAll]
      have := hd.dp
      omega
    · simp only [PyData.bulkAll, List.length_cons]
      have := hd.bk
      omega
theorem Val.tup {ds : List PyData} {b : Nat} (h : ∀ d ∈ ds, Itm b d) (hb : b ≤ 200) (hl : ds.length ≤ 60) : Val (.tuple ds) := by
  obtain ⟨h1, h2, h3, h4⟩ := bulk_all h
  have : ds.length * (b + 1) ≤ 60 * 201 := Nat.mul_le_mul hl (by omega)
  exact ⟨by simpa [PyData.showable] using h1, by simp only [PyData.depth]; omega, by simpa [PyData.leavesShort] using h3, by simp only [PyData.bulk]; omega⟩
theorem Val.lst {ds : List PyData} {b : Nat} (h : ∀ d ∈ ds, Itm b d) (hb : b ≤ 200) (hl : ds.length ≤ 60) : Val (.list ds) := by
  obtain ⟨h1, h2, h3, h4⟩ := bulk_all h
  have : ds.length * (b + 1) ≤ 60 * 201 := Nat.mul_le_mul hl (by omega)
  exact ⟨by simpa [PyData.showable] using h1, by simp only [PyData.depth]; omega, by simpa [PyData.leavesShort] using h3, by simp only [PyData.bulk]; omega⟩
theorem Itm.val {b : Nat} {d : PyData} (h : Itm b d) (hb : b ≤ 200) : Val d := ⟨h.sh, Nat.le_trans h.dp (by omega), h.ls, Nat.le_trans h.bk (by omega)⟩
theorem Val.fits {d : PyData} (h : Val d) : d.shown.length ≤ sizeLine := by
  have h1 := PyData.shown_le_bulk 40 (by decide) d h.ls
  have h2 := h.bk
  have h3 : (40 + 2) * d.bulk ≤ 42 * 20000 := Nat.mul_le_mul_left 42 h2
  exact Nat.le_trans h1 (Nat.le_trans (Nat.add_le_add_right h3 40) (by decide))
theorem itm_str {b : Nat} {y : Str} (h1 : ∀ c ∈ y.cps.toList, c < 16 ^ 8) (h2 : y.cps.size ≤ b) : Itm b (.str y) :=
  ⟨by simp [PyData.showable], by simp [PyData.depth], by simp only [PyData.leavesShort, List.all_eq_true, decide_eq_true_eq]; exact h1, by simpa [PyData.bulk] using h2⟩
theorem tab_len (z : Nat) (b : Nat → Nat → Bool) : (tabS z b).length = z := by
  unfold tabS
  rw [List.length_map, List.length_range]
theorem tab_codes {z : Nat} {b : Nat → Nat → Bool} : ∀ y ∈ tabS z b, (∀ c ∈ y.cps.toList, c < 16 ^ 8) ∧ y.cps.size = z := by
  intro y hy
  obtain ⟨i, _, rfl⟩ := List.mem_map.mp hy
  refine ⟨fun c hc => ?_, ?_⟩
  · have hc' : c ∈ (List.range z).map (sgn b i) := hc
    obtain ⟨j, _, rfl⟩ := List.mem_map.mp hc'
    unfold sgn
    split
    · decide
    · split <;> decide
  · show ((List.range z).map (sgn b i)).toArray.size = z
    rw [List.size_toArray, List.length_map, List.length_range]
theorem tab_chr {z : Nat} {b : Nat → Nat → Bool} {i j : Nat} (hi : i < z) (hj : j < z) : chr2 (tabS z b) i j = sgn b i j := by
  have e : (tabS z b)[i]? = some (rowS z b i) := by
    unfold tabS
    rw [List.getElem?_map, List.getElem?_range hi]
    rfl
  unfold chr2
  rw [getD_of e]
  show ((List.range z).map (sgn b i)).toArray.getD j 0 = _
  rw [Array.getD_eq_getD_getElem?, List.getElem?_toArray, List.getElem?_map, List.getElem?_range hj]
  rfl
theorem tab_sqr {z : Nat} {b : Nat → Nat → Bool} (h1 : 1 ≤ z) (h9 : z ≤ 9) : Sqr (tabS z b) :=
  ⟨by rw [tab_len]; exact h1, by rw [tab_len]; exact h9, fun y hy => by rw [tab_len]; exact (tab_codes y hy).2⟩
theorem tab_itm {z : Nat} {b : Nat → Nat → Bool} (h9 : z ≤ 9) : ∀ e ∈ (tabS z b).map PyData.str, Itm 9 e := by
  intro e he
  obtain ⟨y, hy, rfl⟩ := List.mem_map.mp he
  obtain ⟨h1, h2⟩ := tab_codes y hy
  exact itm_str h1 (by omega)
theorem dx_strs {K : PySem.W.Frag} {H : Hp} : ∀ rows : List Str, DxAll K H (rows.map V.str) (rows.map PyData.str)
  | [] => .nil
  | y :: r => .cons (.str y) (dx_strs r)
section
variable {P : Program} {w : World} {K : PySem.W.Frag} {mg : Str → Option Value} {base : Heap}
/-- the twenty odd values -/
def oddD : List PyData := [.none, .bool true, .bool false, .int (-1), .int 0, .int 1, .int 9, .int (10 ^ 29), .str "", .str "0", .str ".", .tuple [], .list [], .dict [], .tuple [.int 0], .list [.int 0], .tuple [.str ""], .tuple [.bool true], .str "+", .tuple [.int 1, .int 0]]
theorem odd_itm : ∀ d ∈ oddD, Itm 3 d := by
  have h : (oddD.all fun d => d.showable && decide (d.depth ≤ 3) && d.leavesShort 40 && decide (d.bulk ≤ 3)) = true := by decide +kernel
  intro d hd
  have := List.all_eq_true.mp h d hd
  simp only [Bool.and_eq_true, decide_eq_true_eq] at this
  exact ⟨this.1.1.1, this.1.1.2, this.1.2, this.2⟩
def spOdd (K : PySem.W.Frag) : Sp := fun vs H Q _ => ∃ (d c r : Addr) (n : Nat), vs = [.ref d] ∧ Deck H d c r n ∧ n < 2 ^ 40 ∧
  ∀ (H' : Hp) (x : V) (e : PyData), e ∈ oddD → Dx K (hid d c r H') x e → Deck H' d c r (n + 1) → Frm d r H H' → Q x H'
theorem ok_odd {f fN : Addr} {fd dN : FuncData} {k : Nat} (F : Fun K "_law_odd" "_law_odd" sOdd f fd) (FN : Fun K "_law_next" "_law_next" sNext fN dN) (bN : Binds K dN ["_law_deck_here", "_law_many"] []) (gN : mg "_law_next" = some (.ref fN)) (T : Blt mg) : FnOk P w K mg base CX0 (k + 2) f fd ["_law_deck_here"] (spOdd K) := by
  have GN : FnOk P w K mg base CX0 (k + 1) fN dN ["_law_deck_here", "_law_many"] spNext := ok_next FN T.len
  refine F.ok scOdd (fun vs H Q E h => ?_) (fun cdv A outer s H vs Q E hr h => ?_)
  · obtain ⟨d, c, r, n, rfl, _⟩ := h
    rfl
  · obtain ⟨d, c, r, n, rfl, D, hn, q⟩ := h
    have nd := scOdd.nd
    refine ⟨_, pss_cons (ps_set (i := 1) nd rfl (.inl rfl) (pe_lst (pa_cons pe_non (pa_cons pe_bl (pa_cons pe_bl (pa_cons (pe_un un_neg pe_int) (pa_cons pe_int (pa_cons pe_int (pa_cons pe_int (pa_cons (pe_op op_pow pe_int pe_int) (pa_cons pe_str (pa_cons pe_str (pa_cons pe_str
        (pa_cons (pe_tup pa_nil) (pa_cons (pe_lst pa_nil) (pa_cons pe_dnewK (pa_cons (pe_tup (pa_cons pe_int pa_nil)) (pa_cons (pe_lst (pa_cons pe_int pa_nil)) (pa_cons (pe_tup (pa_cons pe_str pa_nil)) (pa_cons (pe_tup (pa_cons pe_bl pa_nil)) (pa_cons pe_str (pa_cons (pe_tup (pa_cons pe_int (pa_cons pe_int pa_nil))) pa_nil))))))))))))))))))))))
      (pss_one (ps_ret (pe_ix ix_list (pv 1) (pe_call GN hr (by rfl) gN FN.kp bN .nil pass0 (pa_cons (pv 0) (pa_cons pe_int pa_nil))) (fun _ _ => rfl)))), ?_⟩
    refine ⟨1, rfl, 10, 29, rfl, rfl, ⟨by decide, by decide, by decide⟩, Nat.zero_le _, fun e1 n1 => ⟨Nat.zero_le _, fun e2 n2 => fun e3 n3 => ⟨(show 1 ≤ sizeLine by decide), fun e4 n4 => ⟨(show 1 ≤ sizeLine by decide), fun e5 n5 => ⟨(show 1 ≤ sizeLine by decide), fun e6 n6 => ⟨(show 1 ≤ sizeLine by decide), fun e7 n7 => ⟨(show 2 ≤ sizeLine by decide), fun e8 n8 => ⟨(show 20 ≤ sizeLine by decide), fun L nL => ?_⟩⟩⟩⟩⟩⟩⟩⟩
    have t1 := same_new (o := .tup []) n1
    have t2 := same_new (o := .lst []) n2
    have t3 := same_new (o := .dK []) n3
    have t4 := same_new (o := .tup [.int 0]) n4
    have t5 := same_new (o := .lst [.int 0]) n5
    have t6 := same_new (o := .tup [.str ""]) n6
    have t7 := same_new (o := .tup [.bl true]) n7
    have t8 := same_new (o := .tup [.int 1, .int 0]) n8
    have t9 := same_new (o := .lst [.non, .bl true, .bl false, .int (-1), .int 0, .int 1, .int 9, .int (10 ^ (29 : Int).toNat), .str "", .str "0", .str ".", .ref e1, .ref e2, .ref e3, .ref e4, .ref e5, .ref e6, .ref e7, .str "+", .ref e8]) nL
    have u2 := t1
    have u3 := u2.trans t2
    have u4 := u3.trans t3
    have u5 := u4.trans t4
    have u6 := u5.trans t5
    have u7 := u6.trans t6
    have u8 := u7.trans t7
    have u9 := u8.trans t8
    have b8 := t9
    have b7 := t8.trans b8
    have b6 := t7.trans b7
    have b5 := t6.trans b6
    have b4 := t5.trans b5
    have b3 := t4.trans b4
    have b2 := t3.trans b3
    have b1 := t2.trans b2
    have a1 := b1 _ _ (upd_same (H := H) (a := e1) (o := .tup []))
    have a2 := b2 e2 _ upd_same
    have a3 := b3 e3 _ upd_same
    have a4 := b4 e4 _ upd_same
    have a5 := b5 e5 _ upd_same
    have a6 := b6 e6 _ upd_same
    have a7 := b7 e7 _ upd_same
    have a8 := b8 e8 _ upd_same
    have f2 := u2.free n2
    have f3 := u3.free n3
    have f4 := u4.free n4
    have f5 := u5.free n5
    have f6 := u6.free n6
    have f7 := u7.free n7
    have f8 := u8.free n8
    have fL := u9.free nL
    have sA := u9.trans t9
    clear u2 u3 u4 u5 u6 u7 u8 u9 b1 b2 b3 b4 b5 b6 b7 b8 t1 t2 t3 t4 t5 t6 t7 t8 t9
    have aL : (upd (upd (upd (upd (upd (upd (upd (upd (upd H e1 (.tup [])) e2 (.lst [])) e3 (.dK [])) e4 (.tup [.int 0])) e5 (.lst [.int 0])) e6 (.tup [.str ""])) e7 (.tup [.bl true])) e8 (.tup [.int 1, .int 0])) L
      (.lst [.non, .bl true, .bl false, .int (-1), .int 0, .int 1, .int 9, .int (10 ^ (29 : Int).toNat), .str "", .str "0", .str ".", .ref e1, .ref e2, .ref e3, .ref e4, .ref e5, .ref e6, .ref e7, .str "+", .ref e8])) L = some (.lst [.non, .bl true, .bl false, .int (-1), .int 0, .int 1, .int 9, .int (10 ^ (29 : Int).toNat), .str "", .str "0", .str ".", .ref e1, .ref e2, .ref e3, .ref e4, .ref e5, .ref e6, .ref e7, .str "+", .ref e8]) := upd_same
    refine ⟨_, rfl, .ref d, rfl, ?_⟩
    generalize (upd (upd (upd (upd (upd (upd (upd (upd (upd H e1 (.tup [])) e2 (.lst [])) e3 (.dK [])) e4 (.tup [.int 0])) e5 (.lst [.int 0])) e6 (.tup [.str ""])) e7 (.tup [.bl true])) e8 (.tup [.int 1, .int 0])) L
      (.lst [.non, .bl true, .bl false, .int (-1), .int 0, .int 1, .int 9, .int (10 ^ (29 : Int).toNat), .str "", .str "0", .str ".", .ref e1, .ref e2, .ref e3, .ref e4, .ref e5, .ref e6, .ref e7, .str "+", .ref e8])) = H9 at a1 a2 a3 a4 a5 a6 a7 a8 sA aL ⊢
    have hh : ∀ {e : Addr} {o : HO}, H e = none → H9 e = some o → hid d c r H9 e = some o := fun {e o} h g => by
      rw [hid_get (D.ned h) (D.nec h) (D.ner h)]
      exact g
    have all : DxAll K (hid d c r H9) [.non, .bl true, .bl false, .int (-1), .int 0, .int 1, .int 9, .int (10 ^ (29 : Int).toNat), .str "", .str "0", .str ".", .ref e1, .ref e2, .ref e3, .ref e4, .ref e5, .ref e6, .ref e7, .str "+", .ref e8] oddD :=
      .cons .non (.cons (.bl _) (.cons (.bl _) (.cons (.int _) (.cons (.int _) (.cons (.int _) (.cons (.int _) (.cons (.int _) (.cons (.str _) (.cons (.str _) (.cons (.str _)
        (.cons (.tup (SqT.of (hh n1 a1)) .nil) (.cons (.lst (SqL.of (hh f2 a2)) .nil) (.cons (.dic (hh f3 a3)) (.cons (.tup (SqT.of (hh f4 a4)) (.cons (.int _) .nil)) (.cons (.lst (SqL.of (hh f5 a5)) (.cons (.int _) .nil))
        (.cons (.tup (SqT.of (hh f6 a6)) (.cons (.str _) .nil)) (.cons (.tup (SqT.of (hh f7 a7)) (.cons (.bl _) .nil)) (.cons (.str _) (.cons (.tup (SqT.of (hh f8 a8)) (.cons (.int _) (.cons (.int _) .nil))) .nil)))))))))))))))))))
    refine ⟨d, c, r, n, 20, rfl, D.same sA, hn, by decide, by decide, fun H10 kk k0 k1 D10 f10 => ?_⟩
    obtain ⟨j, rfl⟩ : ∃ j : Nat, kk = (j : Int) := ⟨kk.toNat, by omega⟩
    have hj : j < oddD.length := by
      show j < 20
      omega
    obtain ⟨x, hx, dx⟩ := DxAll.get all (List.getElem?_eq_getElem hj)
    refine ⟨L, _, _, x, rfl, rfl, SqL.of (f10.get aL (D.ned fL) (D.ner fL)), atI_nat hx, q H10 x _ (List.getElem_mem hj) (Dx.same (hid_frm f10) dx) D10 ((Frm.of_same sA).trans f10)⟩
end
end DS
set_option maxHeartbeats 4000000
namespace DS
open PySem PySem.Spec PySem.Calls PyProof.Rows L2
/-! ### own errors that keep one value -/
def initA (p1 p2 : Pos) : Arguments where
  posonlyargs := []
  args := [⟨"self", none, p1⟩, ⟨"value", none, p2⟩]
  vararg := none
  kwonlyargs := []
  kw_defaults := []
  kwarg := none
  defaults := []
def initB (q1 q2 q3 q4 : Pos) : List Stmt := [Stmt.Assign [Expr.Attribute (Expr.Name "self" q1) "value" q2] (Expr.Name "value" q3) q4]
def initS : Scope where
  kind := .function
  names := [("self", .local), ("value", .local)]
  isGenerator := false
  isCoroutine := false
  more := []
/-- what is written of the class at C and of its __init__ at f -/
structure OwnX (K : PySem.W.Frag) (C f : Addr) : Prop where
  base : ∃ (B n i : String) (l : List Value), ExcBaseFacts B n i l ∧ StoreFacts B l "object.__setattr__" "object" ∧ PySem.W.excInitIn K C l n = true ∧ PySem.W.excOver K C l = true
  sa : PySem.W.findIn K (.ref C) "__setattr__" = some (some (.builtin "object.__setattr__"))
  ga : PySem.W.findIn K (.ref C) "__getattribute__" = some (some (.builtin "BaseException.__getattribute__"))
  gg : PySem.W.findIn K (.ref C) "__getattr__" = some none
  no : PySem.W.findIn K (.ref C) "value" = some none
  ini : PySem.W.findIn K (.ref C) "__init__" = some (some (.ref f))
  ft : PySem.W.typeIn K (.ref f) = some (.type "function")
  kp : PySem.W.keepIn K (.ref C) = true
  ex : PySem.W.subIn K (.ref C) (.type "BaseException") = some true
  ty : PySem.W.typeIn K (.ref C) = some (.type "type")
  hd : PySem.W.hasDictIn K C = true
  ca : PySem.W.findIn K (.ref C) "__class__" = some (some (.builtin "object.__class__"))
  cg : PySem.W.specialIn K (.builtin "object.__class__") "__get__" = some (some (.builtin "getset_descriptor.__get__"))
  ct : PySem.W.takesIn K (.builtin "object.__class__") = some true
  mo : PySem.W.mroIn K C (.type "object") = some true
  fn : ∃ (nm : Str) (oc : Value) (od : Option Addr) (doc pm : Value) (an : Option Addr) (cdv c3 : Value) (osl : Array (Option Value)) (p1 p2 q1 q2 q3 q4 : Pos),
    K.lookup f = some ⟨oc, od, .func (PySem.W.fnOf "__init__" nm (initA p1 p2) (initB q1 q2 q3 q4) initS .none .none doc pm an cdv c3), osl⟩ ∧ PySem.W.codeIn K cdv nm = true
/-- the error at e as it was made of v, its dict at d -/
structure Made1 (h h' : Heap) (e C d : Addr) (v : Value) : Prop where
  old : ∀ b o, h.get? b = some o → h'.get? b = some o
  big : h.objs.size ≤ e
  obj : ∃ t1 : Addr, h'.get? e = some { cls := .ref C, dict := some d, data := .fields #[.ref t1, .none, .none, .none, .bool false, .none] }
  dbig : h.objs.size ≤ d
  ne : d ≠ e
  ns : h'.Ns1 d (fun y => if y = "value" then some v else none)
section
variable {prog : Program} {w : World} {A : Around} {E : Value → Shared → Prop} {R : Result → Shared → Prop} {K : PySem.W.Frag} {C f : Addr} {hp : Heap} {g : Array GenState} {dr : Drawn} {t : Nat} {os : OsState}
/-- the first field of an error -/
theorem first_field {x t1 : Addr} {v : Value} {tk : Tok} (T : OwnX K C f) (X : K.In hp) (hx : hp.get? x = some (PySem.HandSPX.excO C t1))
    (q : ∀ h' tk' dx, (∀ b o, b ≠ x → hp.get? b = some o → h'.get? b = some o) → hp.objs.size ≤ dx → dx ≠ x → h'.get? x = some { cls := .ref C, dict := some dx, data := .fields #[.ref t1, .none, .none, .none, .bool false, .none] } →
      h'.Ns1 dx (fun y => if y = "value" then some v else none) → R (.ok (.ret .none)) ⟨h', g, dr, tk', os⟩) :
    codeAny (model prog w) A (.call (.builtin "object.__setattr__") ⟨[.ref x, .str "value" tk, v], []⟩) R ⟨hp, g, dr, t, os⟩ := by
  obtain ⟨B, n, i, l, FB, SF, hi, ho⟩ := T.base
  have nt : PySem.W.takerIn K C "value" = some none := by
    unfold PySem.W.takerIn
    rw [T.no] <;> rfl
  obtain ⟨cd, hc, hd⟩ := PySem.W.any_some T.hd
  have lt := Heap.lt_size hx
  refine PySem.W.osa_openX (s := ⟨hp, g, dr, t, os⟩) (od := none) (ox := PySem.HandSPX.excO C t1) SF X ⟨hx, rfl, rfl, trivial⟩ ho nt fun b => ?_
  refine wpAny_bind (wpAny_pure (wpAny_bind (PySem.W.instanceDict_exc (c2 := .none) hx (PySem.W.looks_clsIn X hc) hd ?_)))
  refine PySem.HandSPX.store_in_new ?_ fun h' tk' hn sb => ?_
  · exact ⟨_, #[], _, (Heap.get?_update_ne _ _ _ _ (Nat.ne_of_gt lt)).trans (Heap.get?_push_at rfl rfl), rfl, fun e he => absurd he (by simp), fun _ => rfl⟩
  · have nx : x ≠ hp.objs.size := Nat.ne_of_lt lt
    refine q h' tk' _ (fun b o hb hbo => ?_) (Nat.le_refl _) nx.symm ?_ hn
    · rw [sb.2 b (Nat.ne_of_lt (Heap.lt_size hbo)), Heap.get?_update_ne _ _ _ _ hb]
      exact Heap.get?_push_of_some _ hbo
    · rw [sb.2 x nx]
      exact Heap.get?_update_self _ (Heap.get?_push_of_some _ hx) rfl
/-- C(v) -/
theorem make_own {s : Shared} {v : Value} (T : OwnX K C f) (X : K.In s.heap) (lim : s.heap.NoLimit) (room : A.depth + 1 < recursionLimit)
    (q : ∀ h' tk e d, Made1 s.heap h' e C d v → R (.ok (.ret (.ref e))) { s with heap := h', toks := tk }) : codeAny (model prog w) A (.call (.ref C) ⟨[v], []⟩) R s := by
  obtain ⟨nm, oc, od, doc, pm, an, cdv, c3, osl, p1, p2, q1, q2, q3, q4, lk, cod⟩ := T.fn
  obtain ⟨B, n, i, l, FB, SF, hi, ho⟩ := T.base
  obtain ⟨m1, N, m2, bs, bm, hdct, sn, sub, ab, col, dd, k0, k1, k2, k3, k5, hC, hT⟩ := PySem.W.excInit_of X hi
  obtain ⟨hp, g, dr, tk, os⟩ := s
  have up : ∀ b o, hp.get? b = some o → ((hp.push (PySem.W.kdv_tup [v])).push (PySem.HandSPX.excO C hp.objs.size)).get? b = some o := fun b o e => Heap.get?_push_of_some _ (Heap.get?_push_of_some _ e)
  have hx : ((hp.push (PySem.W.kdv_tup [v])).push (PySem.HandSPX.excO C hp.objs.size)).get? (hp.objs.size + 1) = some (PySem.HandSPX.excO C hp.objs.size) := by heap_get
  have one : [v].length ≤ sizeLine := (show 1 ≤ sizeLine by decide)
  refine PySem.HandSPX.call_own FB hT hC (PySem.W.looks_findIn X T.ini) (fun self => PySem.W.bind_fn X self T.ft) one ?_
  generalize eh : (hp.push (PySem.W.kdv_tup [v])).push (PySem.HandSPX.excO C hp.objs.size) = h1 at up hx ⊢
  have X1 : K.In h1 := X.keeps up
  refine Att.call_fn (s := ⟨h1, g, dr, tk, os⟩) (binds := [("self", .ref (hp.objs.size + 1)), ("value", v)]) X1 (Heap.NoLimit.keeps lim up) lk cod (by show A.depth + 1 < _; exact room) (BindsTo.of_eq (by with_unfolding_all rfl)) (by with_unfolding_all rfl) (fun s₁ IC => ?_) rfl rfl rfl
  obtain ⟨h2, t2, rfl⟩ := IC.toInCall.same
  have up2 : ∀ b o, h1.get? b = some o → h2.get? b = some o := IC.toInCall.keep
  have ns := IC.toInCall.ns
  have ld : ∀ {x : Str} {u : Value} {pos : Pos} {Q : Value → Shared → Prop} {A' : Around} {E' : Value → Shared → Prop}, bindL (envOfC nm initS h1.objs.size f cdv).kindOf [("self", .ref (hp.objs.size + 1)), ("value", v)] (fun _ => none) x = some u → (envOfC nm initS h1.objs.size f cdv).kindOf x = some .local → (x == ("__debug__" : Str)) = false →
      Q u ⟨h2, g, dr, t2, os⟩ → wpAny (model prog w) A' (eval (.Name x pos) (envOfC nm initS h1.objs.size f cdv)) Q E' ⟨h2, g, dr, t2, os⟩ := fun a b c d => wpAny_Name (wpAny_loadName_local rfl b ns a d) c
  refine wpAny_execs_cons (plainObj_wpAny_Assign_Attribute ?_)
  refine ld (by with_unfolding_all rfl) rfl (by decide) (ld (by with_unfolding_all rfl) rfl (by decide) ?_)
  refine PySem.W.set_plain (X1.keeps up2) (ox := PySem.HandSPX.excO C hp.objs.size) (od := none) ⟨up2 _ _ hx, rfl, rfl, trivial⟩ T.sa ?_
  refine first_field T (X1.keeps up2) (up2 _ _ hx) fun h3 t3 dx kp dn dne ob nd => ?_
  have sz : h1.objs.size < h2.objs.size := ns.lt
  have sz1 : h1.objs.size = hp.objs.size + 1 + 1 := by
    rw [← eh, Heap.size_push, Heap.size_push]
  refine wpAny_execs_nil ⟨rfl, q h3 t3 (hp.objs.size + 1) dx ⟨fun b o e => kp b o (Nat.ne_of_lt (Nat.lt_succ_of_lt (Heap.lt_size e))) (up2 b o (up b o e)), Nat.le_succ _, ⟨_, ob⟩, (by
    have z : h2.objs.size ≤ dx := dn
    show hp.objs.size ≤ dx
    omega), dne, nd⟩⟩
end
section
variable {X : Cx} {C f : Addr}
theorem rel_value {v : V} {u : Value} (r : RelV v u) (y : Str) : RelO (List.lookup y [(("value" : Str), v)]) (if y = "value" then some u else none) := by
  by_cases e : y = "value"
  · rw [if_pos e, e]
    have z : List.lookup ("value" : Str) [(("value" : Str), v)] = some v := by simp [List.lookup]
    rw [z]
    exact r
  · rw [if_neg e]
    have e2 : (y == ("value" : Str)) = false := by simpa using e
    have z : List.lookup y [(("value" : Str), v)] = none := by simp [List.lookup, e2]
    rw [z]
    trivial
/-- x(e), x an error that keeps its value -/
def tMkV (C : Addr) (ta : TA) : L2.St → Hp → XK → Prop := fun σ H Q => ta σ H fun vs H1 => ∃ v, vs = [v] ∧ ∀ d, H1 d = none → Q (.ref C) (some d) (upd H1 d (.xd [(("value" : Str), v)]))
theorem pmk_value {x : Str} {a : Expr} {ta : TA} {p pos : Pos} {k : Nat} (T : OwnX X.K C f) (gC : X.mg x = some (.ref C)) (hr : Room k X.A) (ha : PA X [a] ta) (hg : Gl X x) (hx : (x == ("__debug__" : Str)) = false := by decide)
    (h1 : starEach (a :: []) X.env = (false, eval a X.env) :: starEach [] X.env := by rfl) (h2 : (backTo pos (starEach [] X.env)).any (·.1) = false := by rfl) : PMk X (.Call (.Name x p) [a] [] pos) (tMkV C ta) := by
  intro pins s σ H Q I h
  refine wpAny_Call_Name_kw (ld_glob I hg gC ?_ hx)
  refine PySem.W.callWith_K (h₀ := X.base) I.ok.mod.kin T.kp (thn (ha.run pos pins s σ H _ I h) fun us s1 z => ?_) h1 h2
  obtain ⟨vs, H1, I1, r1, v, rfl, q1⟩ := z
  refine ⟨I1.kIn, ?_⟩
  obtain ⟨u, rfl, ru⟩ := vals1 r1
  have lim := I1.nolimit
  obtain ⟨hp, g, dr, tk, os⟩ := s1
  refine wpAny_call (make_own T I1.kIn lim (by have := hr.dp; omega) fun h' tk' e d M => ?_)
  show MkP X pins σ Q (.ref e) ⟨h', g, dr, tk', os⟩
  obtain ⟨t1, oe⟩ := M.obj
  obtain ⟨G, g1, g2⟩ := restrict h' fun b => decide (b ≠ e)
  have same : ∀ b, b ≠ e → G.get? b = h'.get? b := fun b hb => g1 b (decide_eq_true hb)
  have gone : G.get? e = none := g2 e (by simp)
  have old : ∀ b o, hp.get? b = some o → G.get? b = some o := fun b o z => (same b (Nat.ne_of_lt (Nat.lt_of_lt_of_le (Heap.lt_size z) M.big))).trans (M.old b o z)
  have ob : ObjOk X.prog X.w (upd H1 d (.xd [(("value" : Str), v)])) G d (.xd [(("value" : Str), v)]) := ⟨_, M.ns.at (fun o z => (same d M.ne).trans z), fun y => rel_value ru y⟩
  have J : Inv X pins σ (upd H1 d (.xd [(("value" : Str), v)])) ⟨G, g, dr, tk', os⟩ := I1.laid (t' := tk') old M.dbig ob
  refine ⟨e, _, _, ⟨G, g, dr, tk', os⟩, _, .ref C, some d, rfl, J, fun b o z => ?_, gone, oe, ⟨rfl, rfl⟩, rfl, rfl, ?_, rfl, I1.bare, raises_own T.ex T.ty, q1 d (I1.hok.fresh M.dbig)⟩
  · by_cases hb : b = e
    · have z' : G.get? b = some o := z
      rw [hb, gone] at z'
      cases z'
    · exact (same b hb).symm.trans z
  · rw [upd_ne (Ne.symm M.ne)]
    exact I1.hok.fresh M.big
/-- e.value, e the error that the suite holds -/
theorem own_xf {K : PySem.W.Frag} (T : OwnX K C f) : XfC K C := ⟨T.ga, T.gg, T.ex, T.hd⟩
/-- isinstance(e, c) of the error that the suite holds -/
def rIsX (K : PySem.W.Frag) (a : Addr) (cls : Value) (C : Addr) : List V → Hp → VK → Prop := fun xs H Q => cls = .ref C ∧ ∃ (c : V) (cv : Value) (b : Bool), xs = [.ref a, c] ∧ (∀ u, RelV c u → u = cv) ∧ PySem.W.kitOne K (.ref C) cv = some b ∧ Q (.bl b) H
/-- .. of a tuple of classes -/
def rIsXT (K : PySem.W.Frag) (a : Addr) (cls : Value) (d : Option Addr) (C : Addr) : List V → Hp → VK → Prop := fun xs H Q => cls = .ref C ∧ ∃ (l : Addr) (vs : List V) (us : List Value) (b : Bool), xs = [.ref a, .ref l] ∧ SqT K H l vs ∧ (∀ ws, Vals vs ws → ws = us) ∧ PySem.W.kitAny K (.ref C) us = some b ∧ Q (.bl b) H
theorem kit_own {K : PySem.W.Frag} {x : Addr} {ox : Obj} {od : Option Obj} (T : OwnX K C f) : PySem.W.KitX K (.ref x) (.ref C) (fun h => PySem.W.InstAt h x ox C od) :=
  PySem.W.kitx_exc (by obtain ⟨cd, hc, _⟩ := PySem.W.any_some T.hd; rw [hc]; rfl) T.ga T.gg T.ex T.ca T.cg T.ct T.mo
theorem inst_own {a : Addr} {oe : Obj} {d : Option Addr} {h : Heap} (hz : Zc (.ref C) d oe) (hf : ∃ vs, oe.data = .fields vs) (hget : h.get? a = some oe) (hd : ∀ dd, d = some dd → ∃ o, h.get? dd = some o) : ∃ od, PySem.W.InstAt h a oe C od := by
  obtain ⟨vs, hv⟩ := hf
  obtain ⟨oc, od, oda, osl⟩ := oe
  obtain ⟨h1, h2⟩ := hz
  dsimp only at h1 h2 hv
  subst h1 h2 hv
  cases od with
  | none => exact ⟨none, hget, rfl, rfl, trivial⟩
  | some dd =>
    obtain ⟨o, ho⟩ := hd dd rfl
    exact ⟨some o, hget, rfl, rfl, ho⟩
theorem call_isX {a : Addr} {cls : Value} {d : Option Addr} {oe : Obj} {pn : List (Addr × Obj)} (T : OwnX X.K C f) (hz : Zc cls d oe) (hf : ∃ vs, oe.data = .fields vs) :
    CallR (X.suite a ((a, oe) :: pn)) (.builtin "isinstance") (fun xs H Q => (∃ dd fs, d = some dd ∧ H dd = some (.xd fs)) ∧ rIsX X.K a cls C xs H Q) := by
  intro pins s σ H xs us Q I r h
  obtain ⟨⟨dd, fs, ed, ex⟩, ec, c, cv, b, rfl, hcv, e, q⟩ := h
  subst ec ed
  obtain ⟨u, w', rfl, ru, rw'⟩ := vals2 r
  obtain rfl : u = Value.ref a := ru
  have ec := hcv _ rw'
  subst ec
  obtain ⟨hget, _⟩ := I.pin (a, oe) (List.mem_append.mpr (.inl List.mem_cons_self))
  obtain ⟨od, J⟩ := inst_own hz hf hget (fun z hz' => by
    cases hz'
    obtain ⟨mA, ⟨o, _, _, ho, _⟩, _⟩ := I.hok dd _ ex
    exact ⟨o, ho⟩)
  exact PySem.W.kia_one (kit_own T) I.kIn J e (fun z => nomatch z) fun tk => ⟨.bl b, H, I.kept (t' := tk) fun _ _ z => z, rfl, q⟩
theorem call_isXT {a : Addr} {cls : Value} {d : Option Addr} {oe : Obj} {pn : List (Addr × Obj)} (T : OwnX X.K C f) (hz : Zc cls d oe) (hf : ∃ vs, oe.data = .fields vs) :
    CallR (X.suite a ((a, oe) :: pn)) (.builtin "isinstance") (fun xs H Q => (∃ dd fs, d = some dd ∧ H dd = some (.xd fs)) ∧ rIsXT X.K a cls d C xs H Q) := by
  intro pins s σ H xs us Q I r h
  obtain ⟨⟨dd, fs, ed, ex⟩, ec, l, vs, ws, b, rfl, hT, hws, e, q⟩ := h
  subst ec ed
  obtain ⟨u, w', rfl, ru, rw'⟩ := vals2 r
  obtain rfl : u = Value.ref a := ru
  obtain rfl : w' = Value.ref l := rw'
  obtain ⟨hget, _⟩ := I.pin (a, oe) (List.mem_append.mpr (.inl List.mem_cons_self))
  obtain ⟨od, J⟩ := inst_own hz hf hget (fun z hz' => by
    cases hz'
    obtain ⟨mA, ⟨o, _, _, ho, _⟩, _⟩ := I.hok dd _ ex
    exact ⟨o, ho⟩)
  obtain ⟨its, rt, ⟨⟨c0, dd0, data, sl⟩, ho, hc, n, hd⟩, hs⟩ := I.tuple hT
  simp only at hc hd
  subst hc hd
  have e2 := hws _ rt
  subst e2
  exact PySem.W.kia_tup (kit_own T) I.kIn J ho e (fun z => nomatch z) fun tk => ⟨.bl b, H, I.kept (t' := tk) fun _ _ z => z, rfl, q⟩
end
end DS
namespace DS
open PySem PySem.Spec PyProof.Rows L2
abbrev sIsInt : Stmt := topS 6
abbrev sIsAlt : Stmt := topS 7
abbrev sReq : Stmt := topS 8
abbrev sWins : Stmt := topS 10
abbrev sLoss : Stmt := topS 11
abbrev sPlaces : Stmt := topS 12
abbrev sScores : Stmt := topS 13
abbrev sInteger : Stmt := topS 23
theorem scIsInt : FnScope ["value"] ["value"] (defScope sIsInt) := ⟨rfl, rfl, rfl, by decide +kernel, rfl, by decide +kernel, by decide +kernel⟩
theorem scIsAlt : FnScope ["table", "value"] ["table", "value"] (defScope sIsAlt) := ⟨rfl, rfl, rfl, by decide +kernel, rfl, by decide +kernel, by decide +kernel⟩
theorem scReq : FnScope ["table", "value"] ["table", "value"] (defScope sReq) := ⟨rfl, rfl, rfl, by decide +kernel, rfl, by decide +kernel, by decide +kernel⟩
theorem scWins : FnScope ["table", "one"] ["table", "one"] (defScope sWins) := ⟨rfl, rfl, rfl, by decide +kernel, rfl, by decide +kernel, by decide +kernel⟩
theorem scLoss : FnScope ["table", "one"] ["table", "one"] (defScope sLoss) := ⟨rfl, rfl, rfl, by decide +kernel, rfl, by decide +kernel, by decide +kernel⟩
theorem scPlaces : FnScope ["row", "sign", "j", "mark"] ["row", "sign"] (defScope sPlaces) := ⟨rfl, rfl, rfl, by decide +kernel, rfl, by decide +kernel, by decide +kernel⟩
theorem scScores : FnScope ["table", "row"] ["table"] (defScope sScores) := ⟨rfl, rfl, rfl, by decide +kernel, rfl, by decide +kernel, by decide +kernel⟩
theorem scInteger : FnScope ["_law_value", "_law_low", "_law_high"] ["_law_value", "_law_low", "_law_high"] (defScope sInteger) := ⟨rfl, rfl, rfl, by decide +kernel, rfl, by decide +kernel, by decide +kernel⟩
/-! ### numbers and alternatives -/
def asInt : PyData → Bool
  | .int _ => true
  | .bool _ => true
  | _ => false
def asBool : PyData → Bool
  | .bool _ => true
  | _ => false
def isInt : PyData → Bool
  | .int _ => true
  | _ => false
/-- between two numbers -/
def within (lo hi : Int) : PyData → Bool
  | .int i => decide (lo ≤ i) && decide (i ≤ hi)
  | _ => false
theorem kit_int {K : PySem.W.Frag} (d : PyData) : PySem.W.kitOne K (.type (tyD d)) (.type "int") = some (asInt d) := by
  cases d with
  | none => exact kit1 (show kitB "NoneType" "int" = some false by decide +kernel)
  | bool _ => exact kit1 (show kitB "bool" "int" = some true by decide +kernel)
  | int _ => exact kit1 (show kitB "int" "int" = some true by decide +kernel)
  | str _ => exact kit1 (show kitB "str" "int" = some false by decide +kernel)
  | list _ => exact kit1 (show kitB "list" "int" = some false by decide +kernel)
  | tuple _ => exact kit1 (show kitB "tuple" "int" = some false by decide +kernel)
  | dict _ => exact kit1 (show kitB "dict" "int" = some false by decide +kernel)
theorem kit_bool {K : PySem.W.Frag} (d : PyData) : PySem.W.kitOne K (.type (tyD d)) (.type "bool") = some (asBool d) := by
  cases d with
  | none => exact kit1 (show kitB "NoneType" "bool" = some false by decide +kernel)
  | bool _ => exact kit1 (show kitB "bool" "bool" = some true by decide +kernel)
  | int _ => exact kit1 (show kitB "int" "bool" = some false by decide +kernel)
  | str _ => exact kit1 (show kitB "str" "bool" = some false by decide +kernel)
  | list _ => exact kit1 (show kitB "list" "bool" = some false by decide +kernel)
  | tuple _ => exact kit1 (show kitB "tuple" "bool" = some false by decide +kernel)
  | dict _ => exact kit1 (show kitB "dict" "bool" = some false by decide +kernel)
theorem iteE {c : Bool} {A B : Prop} (h1 : c = true → A) (h2 : c = false → B) : if c = true then A else B := by
  cases c
  · exact h2 rfl
  · exact h1 rfl
section
variable {P : Program} {w : World} {K : PySem.W.Frag} {mg : Str → Option Value} {base : Heap}
def spIsInt (K : PySem.W.Frag) : Sp := fun vs H Q _ => ∃ (x : V) (d : PyData), vs = [x] ∧ Dx K H x d ∧ Q (.bl (isInt d)) H
theorem ok_isInt {f : Addr} {fd : FuncData} {k : Nat} (F : Fun K "is_integer" "is_integer" sIsInt f fd) (T : Blt mg) : FnOk P w K mg base CX0 (k + 1) f fd ["value"] (spIsInt K) := by
  refine F.ok scIsInt (fun vs H Q E h => ?_) (fun cdv A outer s H vs Q E hr h => ?_)
  · obtain ⟨x, d, rfl, _⟩ := h
    rfl
  · obtain ⟨x, d, rfl, dx, q⟩ := h
    refine ⟨_, pss_one (ps_ret (pe_and (pe_callB call_isi (by rfl) T.isi (by decide +kernel) (pa_cons (pv 0) (pa_cons (pe_bltn (v := .ty "int") (by rfl) T.int (by decide +kernel) rfl) pa_nil)))
      (pe_one (pe_not (pe_callB call_isi (by rfl) T.isi (by decide +kernel) (pa_cons (pv 0) (pa_cons (pe_bltn (v := .ty "bool") (by rfl) T.bool (by decide +kernel) rfl) pa_nil))))))), ?_⟩
    refine ⟨x, rfl, _, _, _, _, asInt d, rfl, .ty _, dx.ty, kit_int d, _, rfl, iteE (fun e => ?_) (fun e => ?_)⟩
    · refine ⟨x, rfl, _, _, _, _, asBool d, rfl, .ty _, dx.ty, kit_bool d, _, rfl, ?_⟩
      cases d with
      | int _ => exact q
      | bool _ => exact q
      | _ => cases e
    · cases d with
      | int _ => cases e
      | bool _ => cases e
      | _ => exact q
def spIsAlt (K : PySem.W.Frag) : Sp := fun vs H Q _ => ∃ (t : Addr) (x : V) (xs : List V) (d : PyData), vs = [.ref t, x] ∧ SqT K H t xs ∧ Dx K H x d ∧ Q (.bl (within 0 (xs.length - 1) d)) H
theorem ok_isAlt {f fI : Addr} {fd dI : FuncData} {k : Nat} (F : Fun K "is_alternative" "is_alternative" sIsAlt f fd) (FI : Fun K "is_integer" "is_integer" sIsInt fI dI) (bI : Binds K dI ["value"] []) (gI : mg "is_integer" = some (.ref fI)) (T : Blt mg) :
    FnOk P w K mg base CX0 (k + 2) f fd ["table", "value"] (spIsAlt K) := by
  have GI : FnOk P w K mg base CX0 (k + 1) fI dI ["value"] (spIsInt K) := ok_isInt FI T
  refine F.ok scIsAlt (fun vs H Q E h => ?_) (fun cdv A outer s H vs Q E hr h => ?_)
  · obtain ⟨t, x, xs, d, rfl, _⟩ := h
    rfl
  · obtain ⟨t, x, xs, d, rfl, ht, dx, q⟩ := h
    refine ⟨_, pss_one (ps_ret (pe_and (pe_call GI hr (by rfl) gI FI.kp bI .nil pass0 (pa_cons (pv 1) pa_nil))
      (pe_one (pe_chain op_le op_lt pe_int (pv 1) (pe_callB call_len_seq (by rfl) T.len PySem.boot_len (pa_cons (pv 0) pa_nil)))))), ?_⟩
    refine ⟨x, rfl, x, d, rfl, dx, _, rfl, iteE (fun e => ?_) (fun e => ?_)⟩
    · cases dx with
      | int i =>
        refine ⟨_, rfl, _, _, rfl, rfl, _, rfl, iteE (fun e1 => ?_) (fun e1 => ?_)⟩
        · refine ⟨.ref t, rfl, t, xs, rfl, .inr ht, _, _, rfl, rfl, ?_⟩
          have z : decide (i < (xs.length : Int)) = within 0 (xs.length - 1) (.int i) := by
            show _ = (decide (0 ≤ i) && decide (i ≤ (xs.length : Int) - 1))
            rw [e1, Bool.true_and]
            exact decide_eq_decide.mpr ⟨fun h => by omega, fun h => by omega⟩
          show Q (.bl (decide (i < (xs.length : Int)))) H
          rw [z]
          exact q
        · have z : within 0 (xs.length - 1) (.int i) = false := by
            show (decide (0 ≤ i) && decide (i ≤ (xs.length : Int) - 1)) = false
            rw [e1]
            rfl
          rw [z] at q
          exact q
      | _ => cases e
    · cases d with
      | int _ => cases e
      | _ => exact q
def spInteger (K : PySem.W.Frag) : Sp := fun vs H Q _ => ∃ (x : V) (lo hi : Int) (d : PyData), vs = [x, .int lo, .int hi] ∧ Dx K H x d ∧ Q (.bl (within lo hi d)) H
theorem ok_integer {f : Addr} {fd : FuncData} {k : Nat} (F : Fun K "_law_integer" "_law_integer" sInteger f fd) (T : Blt mg) : FnOk P w K mg base CX0 (k + 1) f fd ["_law_value", "_law_low", "_law_high"] (spInteger K) := by
  refine F.ok scInteger (fun vs H Q E h => ?_) (fun cdv A outer s H vs Q E hr h => ?_)
  · obtain ⟨x, lo, hi, d, rfl, _⟩ := h
    rfl
  · obtain ⟨x, lo, hi, d, rfl, dx, q⟩ := h
    refine ⟨_, pss_one (ps_ret (pe_and (pe_callB call_isi (by rfl) T.isi (by decide +kernel) (pa_cons (pv 0) (pa_cons (pe_bltn (v := .ty "int") (by rfl) T.int (by decide +kernel) rfl) pa_nil)))
      (pe_and (pe_not (pe_callB call_isi (by rfl) T.isi (by decide +kernel) (pa_cons (pv 0) (pa_cons (pe_bltn (v := .ty "bool") (by rfl) T.bool (by decide +kernel) rfl) pa_nil))))
      (pe_one (pe_chain op_le op_le (pv 1) (pv 0) (pv 2)))))), ?_⟩
    refine ⟨x, rfl, _, _, _, _, asInt d, rfl, .ty _, dx.ty, kit_int d, _, rfl, iteE (fun e => ?_) (fun e => ?_)⟩
    · refine ⟨x, rfl, _, _, _, _, asBool d, rfl, .ty _, dx.ty, kit_bool d, _, rfl, _, rfl, ?_⟩
      cases dx with
      | int i =>
        refine ⟨_, rfl, _, rfl, _, _, rfl, rfl, _, rfl, iteE (fun e1 => ?_) (fun e1 => ?_)⟩
        · refine ⟨_, rfl, _, _, rfl, rfl, ?_⟩
          have z : decide (i ≤ hi) = within lo hi (.int i) := by
            show _ = (decide (lo ≤ i) && decide (i ≤ hi))
            rw [e1]
            rfl
          show Q (.bl (decide (i ≤ hi))) H
          rw [z]
          exact q
        · have z : within lo hi (.int i) = false := by
            show (decide (lo ≤ i) && decide (i ≤ hi)) = false
            rw [e1]
            rfl
          rw [z] at q
          exact q
      | bl _ => exact q
      | _ => cases e
    · cases d with
      | int _ => cases e
      | bool _ => cases e
      | _ => exact q
/-! ### the places of a sign -/
def places (y : Str) (c : Nat) (n : Nat) : List Int := ((List.range n).filter fun j => decide (y.cps.getD j 0 = c)).map fun j : Nat => (j : Int)
theorem places_step {y : Str} {c n : Nat} : places y c (n + 1) = places y c n ++ (if y.cps.getD n 0 = c then [(n : Int)] else []) := by
  unfold places
  rw [List.range_succ, List.filter_append, List.map_append]
  congr 1
  by_cases h : y.cps.getD n 0 = c
  · rw [if_pos h, List.filter_cons, if_pos (decide_eq_true h)]
    rfl
  · rw [if_neg h, List.filter_cons, if_neg (by simpa using h)]
    rfl
theorem places_len {y : Str} {c n : Nat} : (places y c n).length ≤ n := by
  unfold places
  rw [List.length_map]
  have := List.length_filter_le (fun j => decide (y.cps.getD j 0 = c)) (List.range n)
  rw [List.length_range] at this
  exact this
def spPlaces (K : PySem.W.Frag) : Sp := fun vs H Q _ => ∃ (y : Str) (c : Nat), vs = [.str y, .str ⟨#[c]⟩] ∧ y.cps.size ≤ 1000 ∧ ∀ (H' : Hp) (p : Addr), Same H H' → H' p = some (.tup ((places y c y.cps.size).map V.int)) → Q (.ref p) H'
theorem ok_places {f : Addr} {fd : FuncData} {k : Nat} (F : Fun K "places_of" "places_of" sPlaces f fd) (T : Blt mg) (me : mg "enumerate" = none) : FnOk P w K mg base CX0 (k + 1) f fd ["row", "sign"] (spPlaces K) := by
  refine F.ok scPlaces (fun vs H Q E h => ?_) (fun cdv A outer s H vs Q E hr h => ?_)
  · obtain ⟨y, c, rfl, _⟩ := h
    rfl
  · obtain ⟨y, c, rfl, hy, q⟩ := h
    have nd := scPlaces.nd
    refine ⟨_, pss_one (ps_ret (pe_callTy call_tuple_of (by rfl) T.tuple (by decide +kernel) (pa_cons
      (pe_lc (own := [("j", 2), ("mark", 3)]) (g := gTup K 2 (gCons (gName 2) (gCons (gName 3) gNil))) (tt := tTest (tOp rEq (tVar 3) (tVar 1))) (te := tVar 2) rfl nd (pi_enumS (by rfl) me (pa_cons (pv 0) pa_nil)) (blkOk_by (by rfl))
        (fun _ _ _ _ _ => pg_tup rfl (pgs_cons (pg_name (i := 2) nd rfl (.inl rfl)) (pgs_cons (pg_name (i := 3) nd rfl (.inl rfl)) pgs_nil)))
        (fun _ _ _ _ _ => pts_one (pt_cmpR op_eq (pv 3) (pv 1) (nomark _))) (fun _ _ _ _ _ => pv 2)) pa_nil))), ?_⟩
    refine ⟨_, rfl, y, rfl, fun D nD => ?_⟩
    refine lc_pairs (fun i H3 => Same H H3 ∧ H3 D = some (.lst ((places y c i).map V.int))) ⟨same_new nD, upd_same⟩ (fun _ _ _ _ => trivial) (fun i H3 Tp hi h nT => ?_) (fun H3 h => ?_)
    · obtain ⟨s3, h3⟩ := h
      have s4 := same_new (o := .tup [.int ((i : Nat) : Int), .str ⟨#[y.cps.getD i 0]⟩]) nT
      have h4 := s4 _ _ h3
      have s5 := s3.trans s4
      refine ⟨Tp, _, rfl, SqT.of upd_same, rfl, _, _, rfl, _, _, rfl, rfl, rfl, ?_⟩
      generalize upd H3 Tp (.tup [.int ((i : Nat) : Int), .str ⟨#[y.cps.getD i 0]⟩]) = H4 at h4 s5 ⊢
      have st := places_step (y := y) (c := c) (n := i)
      refine ⟨_, rfl, _, rfl, rfl, _, rfl, iteE (fun e => ?_) (fun e => ?_)⟩
      · have e2 : y.cps.getD i 0 = c := by
          have := of_decide_eq_true e
          injection this with this
          injection this with this
          simpa using this
        rw [if_pos e2] at st
        refine ⟨_, rfl, _, h4, ?_, same_over s5 nD, ?_⟩
        · rw [List.length_map]
          have := places_len (y := y) (c := c) (n := i)
          exact line_lt (by omega)
        · rw [upd_same, st, List.map_append]
          rfl
      · have e2 : ¬ y.cps.getD i 0 = c := fun z => by
          rw [z] at e
          exact absurd (decide_eq_true (rfl : V.str ⟨#[c]⟩ = V.str ⟨#[c]⟩)) (by rw [e]; exact Bool.false_ne_true)
        rw [if_neg e2, List.append_nil] at st
        exact ⟨s5, by rw [st]; exact h4⟩
    · obtain ⟨s3, h3⟩ := h
      exact ⟨D, _, rfl, .inl ⟨SqL.of h3, fun p np => q _ p (s3.trans (same_new np)) upd_same⟩⟩
/-! ### asking for an alternative -/
def spReq (K : PySem.W.Frag) (C : Addr) : Sp := fun vs H Q E => ∃ (t : Addr) (x : V) (xs : List V) (d : PyData), vs = [.ref t, x] ∧ SqT K H t xs ∧ Dx K H x d ∧
  (within 0 (xs.length - 1) d = true → Q .non H) ∧ (within 0 (xs.length - 1) d = false → ∀ a, H a = none → E (.ref C) (some a) (upd H a (.xd [(("value" : Str), x)])))
theorem ok_req {f fI fA fi C : Addr} {fd dI dA : FuncData} {k : Nat} (F : Fun K "require_alternative" "require_alternative" sReq f fd) (FA : Fun K "is_alternative" "is_alternative" sIsAlt fA dA) (bA : Binds K dA ["table", "value"] []) (gA : mg "is_alternative" = some (.ref fA))
    (FI : Fun K "is_integer" "is_integer" sIsInt fI dI) (bI : Binds K dI ["value"] []) (gI : mg "is_integer" = some (.ref fI)) (T : Blt mg) (N : OwnX K C fi) (gN : mg "NoAlternative" = some (.ref C)) : FnOk P w K mg base (L2.CX P w) (k + 3) f fd ["table", "value"] (spReq K C) := by
  have GA : FnOk P w K mg base CX0 (k + 2) fA dA ["table", "value"] (spIsAlt K) := ok_isAlt FA FI bI gI T
  refine F.okX scReq (fun vs H Q E h => ?_) (fun cdv A outer s H vs Q E hr h => ?_)
  · obtain ⟨t, x, xs, d, rfl, _⟩ := h
    rfl
  · obtain ⟨t, x, xs, d, rfl, ht, dx, q1, q2⟩ := h
    refine ⟨_, pss_one (ps_if (pt_not (pt_val (pe_call GA hr (by rfl) gA FA.kp bA .nil pass0 (pa_cons (pv 0) (pa_cons (pv 1) pa_nil)))))
      (pss_one (ps_raise rfl (takes_of rfl rfl rfl rfl) (pmk_value N gN hr (pa_cons (pv 1) pa_nil) (by rfl)))) pss_nil), ?_⟩
    refine ⟨_, rfl, _, rfl, t, x, xs, d, rfl, ht, dx, _, rfl, ?_⟩
    cases e : within 0 (xs.length - 1) d with
    | true => exact iteF (q1 e)
    | false => exact iteT ⟨_, rfl, x, rfl, q2 e⟩
/-! ### the alternatives that one beats, and that beat it -/
/-- what wins_of and losses_of do, by their sign -/
def spDuel (K : PySem.W.Frag) (C : Addr) (c : Nat) : Sp := fun vs H Q E => ∃ (t : Addr) (x : V) (rows : List Str) (d : PyData), vs = [.ref t, x] ∧ SqT K H t (rows.map V.str) ∧ (∀ y ∈ rows, y.cps.size ≤ 1000) ∧ Dx K H x d ∧
  (∀ (i : Nat) (y : Str), d = .int i → rows[i]? = some y → ∀ (H' : Hp) (p : Addr), Same H H' → H' p = some (.tup ((places y c y.cps.size).map V.int)) → Q (.ref p) H') ∧
  (within 0 (rows.length - 1) d = false → ∀ a, H a = none → E (.ref C) (some a) (upd H a (.xd [(("value" : Str), x)])))
theorem within_nat {n : Nat} {d : PyData} (h : within 0 ((n : Int) - 1) d = true) : ∃ i : Nat, d = .int i ∧ i < n := by
  cases d with
  | int i =>
    have h' : (decide (0 ≤ i) && decide (i ≤ (n : Int) - 1)) = true := h
    rw [Bool.and_eq_true, decide_eq_true_eq, decide_eq_true_eq] at h'
    exact ⟨i.toNat, by rw [Int.toNat_of_nonneg h'.1], by omega⟩
  | _ => cases h
theorem duel_len {C : Addr} {c : Nat} : ∀ vs H Q E, spDuel K C c vs H Q E → vs.length = (["table", "one"] : List Str).length := fun vs H Q E h => by
  obtain ⟨t, x, rows, d, rfl, _⟩ := h
  rfl
theorem duel_run {X : Cx} {C : Addr} {c : Nat} {vs : List V} {H : Hp} {Q : VK} {E : XK} (h : spDuel K C c vs H Q E) :
    tSeq (tDrop (tCall (spReq K C) [] E (tCons (tVar 0) (tCons (tVar 1) tNil)))) (tRet (tCall (spPlaces K) [] E0 (tCons (tOp (rIxT K) (tVar 0) (tVar 1)) (tCons (tC (.str ⟨#[c]⟩)) tNil)))) { nx := fun _ H' => Q .non H', rt := Q } (start ["table", "one"] vs) H := by
  obtain ⟨t, x, rows, d, rfl, ht, hy, dx, q1, q2⟩ := h
  refine ⟨_, rfl, _, rfl, t, x, _, d, rfl, ht, dx, fun e => ?_, fun e => ?_⟩
  · rw [List.length_map] at e
    obtain ⟨i, rfl, hi⟩ := within_nat e
    cases dx
    have e2 : rows[i]? = some rows[i] := List.getElem?_eq_getElem hi
    refine ⟨_, rfl, _, rfl, t, _, _, _, rfl, rfl, ht, atI_nat (v := .str rows[i]) (by rw [List.getElem?_map, e2]; rfl), rows[i], c, rfl, hy _ (List.getElem_mem hi), fun H' p s1 h1 => q1 i _ rfl e2 H' p s1 h1⟩
  · rw [List.length_map] at e
    exact q2 e
theorem ok_wins {f fP fR fI fA fi C : Addr} {fd dP dR dI dA : FuncData} {k : Nat} (F : Fun K "wins_of" "wins_of" sWins f fd) (FR : Fun K "require_alternative" "require_alternative" sReq fR dR) (bR : Binds K dR ["table", "value"] []) (gR : mg "require_alternative" = some (.ref fR))
    (FA : Fun K "is_alternative" "is_alternative" sIsAlt fA dA) (bA : Binds K dA ["table", "value"] []) (gA : mg "is_alternative" = some (.ref fA))
    (FI : Fun K "is_integer" "is_integer" sIsInt fI dI) (bI : Binds K dI ["value"] []) (gI : mg "is_integer" = some (.ref fI)) (T : Blt mg) (N : OwnX K C fi) (gN : mg "NoAlternative" = some (.ref C))
    (FP : Fun K "places_of" "places_of" sPlaces fP dP) (bP : Binds K dP ["row", "sign"] []) (gP : mg "places_of" = some (.ref fP)) (me : mg "enumerate" = none) : FnOk P w K mg base (L2.CX P w) (k + 4) f fd ["table", "one"] (spDuel K C 43) := by
  have GR : FnOk P w K mg base (L2.CX P w) (k + 3) fR dR ["table", "value"] (spReq K C) := ok_req FR FA bA gA FI bI gI T N gN
  have GP : FnOk P w K mg base CX0 (k + 3) fP dP ["row", "sign"] (spPlaces K) := ok_places FP T me
  refine F.okX scWins duel_len (fun cdv A outer s H vs Q E hr h => ⟨_, ?_, duel_run (X := cxOf (L2.CX P w) P w K mg base ["table", "one"] "wins_of" (defScope sWins) f cdv A outer s H E) h⟩)
  exact pss_cons (ps_expr (pe_call GR hr (by rfl) gR FR.kp bR .nil (passes_call (takes_of rfl rfl rfl rfl) (fun _ _ _ _ h => h)) (pa_cons (pv 0) (pa_cons (pv 1) pa_nil))))
    (pss_one (ps_ret (pe_call GP hr (by rfl) gP FP.kp bP .nil pass0 (pa_cons (pe_ix ix_tup (pv 0) (pv 1) (fun _ _ => rfl)) (pa_cons pe_str pa_nil)))))
theorem ok_loss {f fP fR fI fA fi C : Addr} {fd dP dR dI dA : FuncData} {k : Nat} (F : Fun K "losses_of" "losses_of" sLoss f fd) (FR : Fun K "require_alternative" "require_alternative" sReq fR dR) (bR : Binds K dR ["table", "value"] []) (gR : mg "require_alternative" = some (.ref fR))
    (FA : Fun K "is_alternative" "is_alternative" sIsAlt fA dA) (bA : Binds K dA ["table", "value"] []) (gA : mg "is_alternative" = some (.ref fA))
    (FI : Fun K "is_integer" "is_integer" sIsInt fI dI) (bI : Binds K dI ["value"] []) (gI : mg "is_integer" = some (.ref fI)) (T : Blt mg) (N : OwnX K C fi) (gN : mg "NoAlternative" = some (.ref C))
    (FP : Fun K "places_of" "places_of" sPlaces fP dP) (bP : Binds K dP ["row", "sign"] []) (gP : mg "places_of" = some (.ref fP)) (me : mg "enumerate" = none) : FnOk P w K mg base (L2.CX P w) (k + 4) f fd ["table", "one"] (spDuel K C 45) := by
  have GR : FnOk P w K mg base (L2.CX P w) (k + 3) fR dR ["table", "value"] (spReq K C) := ok_req FR FA bA gA FI bI gI T N gN
  have GP : FnOk P w K mg base CX0 (k + 3) fP dP ["row", "sign"] (spPlaces K) := ok_places FP T me
  refine F.okX scLoss duel_len (fun cdv A outer s H vs Q E hr h => ⟨_, ?_, duel_run (X := cxOf (L2.CX P w) P w K mg base ["table", "one"] "losses_of" (defScope sLoss) f cdv A outer s H E) h⟩)
  exact pss_cons (ps_expr (pe_call GR hr (by rfl) gR FR.kp bR .nil (passes_call (takes_of rfl rfl rfl rfl) (fun _ _ _ _ h => h)) (pa_cons (pv 0) (pa_cons (pv 1) pa_nil))))
    (pss_one (ps_ret (pe_call GP hr (by rfl) gP FP.kp bP .nil pass0 (pa_cons (pe_ix ix_tup (pv 0) (pv 1) (fun _ _ => rfl)) (pa_cons pe_str pa_nil)))))
/-! ### how often each one wins -/
def wonAll (rows : List Str) : List Int := rows.map fun y => (cnt y 43 : Int)
def spScores (K : PySem.W.Frag) : Sp := fun vs H Q _ => ∃ (t : Addr) (rows : List Str), vs = [.ref t] ∧ SqT K H t (rows.map V.str) ∧ rows.length ≤ 1000 ∧ ∀ (H' : Hp) (p : Addr), Same H H' → H' p = some (.tup ((wonAll rows).map V.int)) → Q (.ref p) H'
theorem ok_scores {f : Addr} {fd : FuncData} {k : Nat} (F : Fun K "scores" "scores" sScores f fd) (T : Blt mg) : FnOk P w K mg base CX0 (k + 1) f fd ["table"] (spScores K) := by
  refine F.ok scScores (fun vs H Q E h => ?_) (fun cdv A outer s H vs Q E hr h => ?_)
  · obtain ⟨t, rows, rfl, _⟩ := h
    rfl
  · obtain ⟨t, rows, rfl, ht, hl, q⟩ := h
    have nd := scScores.nd
    refine ⟨_, pss_one (ps_ret (pe_callTy call_tuple_of (by rfl) T.tuple (by decide +kernel) (pa_cons
      (pe_lc (own := [("row", 1)]) (g := gName 1) (tt := tYes) rfl nd (pi_tup (pv 0)) (blkOk_by (by rfl)) (fun _ _ _ _ _ => pg_name (i := 1) nd rfl (.inl rfl)) (fun _ _ _ _ _ => pts_nil)
        (fun _ _ _ _ _ => pe_m1 PySem.F.slot_str_count PySem.F.type_str_count mt_count (pv 1) pe_str)) pa_nil))), ?_⟩
    refine ⟨_, rfl, t, rfl, ⟨_, ht⟩, fun D nD => ?_⟩
    refine lc_tup (K := K) (xs := rows.map V.str) (fun i H3 => Same H H3 ∧ H3 D = some (.lst ((wonAll (rows.take i)).map V.int))) ⟨same_new nD, upd_same⟩ (fun i H3 _ h => Same.seqT h.1 ht) (fun i x H3 hi h => ?_) (fun H3 h => ?_)
    · obtain ⟨s3, h3⟩ := h
      obtain ⟨y, hy, rfl⟩ := get_map hi
      refine ⟨rfl, ?_⟩
      refine ⟨_, rfl, ⟨_, rfl⟩, _, _, rfl, rfl, _, h3, ?_, same_over s3 nD, ?_⟩
      · unfold wonAll
        rw [List.length_map, List.length_map, List.length_take]
        exact line_lt (by omega)
      · rw [upd_same]
        have e : Txt.count y "+" = (cnt y 43 : Int) := count_one y 43
        rw [e]
        unfold wonAll
        rw [take_snoc _ hy, List.map_append]
        rfl
    · obtain ⟨s3, h3⟩ := h
      rw [List.length_map, List.take_length] at h3
      exact ⟨D, _, rfl, .inl ⟨SqL.of h3, fun p np => q _ p (s3.trans (same_new np)) upd_same⟩⟩
end
end DS
namespace DS
open PySem PySem.Spec PyProof.Rows L2
abbrev sTold : Stmt := topS 24
abbrev sDue : Stmt := topS 25
theorem scTold : FnScope ["_law_door", "_law_table_here", "_law_one_here", "_law_told_here", "e", "_law_alone"] ["_law_door", "_law_table_here", "_law_one_here"] (defScope sTold) := ⟨rfl, rfl, rfl, by decide +kernel, rfl, by decide +kernel, by decide +kernel⟩
theorem scDue : FnScope ["_law_door", "_law_table_here", "_law_one_here", "_law_k"] ["_law_door", "_law_table_here", "_law_one_here"] (defScope sDue) := ⟨rfl, rfl, rfl, by decide +kernel, rfl, by decide +kernel, by decide +kernel⟩
/-- what is told of a table, a sign and a value -/
inductive Told (rows : List Str) (c : Nat) : PyData → PyData → Prop
  | yes {i : Nat} {y : Str} (h : rows[i]? = some y) : Told rows c (.int i) (.list [.str "returned", .tuple ((places y c y.cps.size).map .int)])
  | no {d : PyData} (h : within 0 ((rows.length : Int) - 1) d = false) : Told rows c d (.list [.str "no alternative", .str d.shown, .bool true])
theorem Told.in {rows : List Str} {i : Nat} {y : Str} (h : rows[i]? = some y) : within 0 ((rows.length : Int) - 1) (.int i) = true := by
  have := (List.getElem?_eq_some_iff.mp h).1
  show (decide ((0 : Int) ≤ i) && decide ((i : Int) ≤ (rows.length : Int) - 1)) = true
  rw [Bool.and_eq_true, decide_eq_true_eq, decide_eq_true_eq]
  omega
theorem told_one {rows : List Str} {c : Nat} {d e e' : PyData} (h : Told rows c d e) (k : Told rows c d e') : e = e' := by
  cases h with
  | @yes i y h =>
    generalize hd : PyData.int (i : Int) = d at k
    cases k with
    | @yes j z g =>
      cases hd
      rw [h] at g
      cases g
      rfl
    | no g =>
      subst hd
      rw [Told.in h] at g
      cases g
  | no h =>
    cases k with
    | yes g =>
      rw [Told.in g] at h
      cases h
    | no _ => rfl
def sgnC (door : Nat) : Nat := if door = 1 then 45 else 43
section
variable {P : Program} {w : World} {K : PySem.W.Frag} {mg : Str → Option Value} {base : Heap}
def spTold (K : PySem.W.Frag) : Sp := fun vs H Q _ => ∃ (door : Nat) (t : Addr) (x : V) (rows : List Str) (d : PyData), vs = [.int door, .ref t, x] ∧ door < 2 ∧ SqT K H t (rows.map V.str) ∧ rows.length ≤ 9 ∧ (∀ y ∈ rows, y.cps.size = rows.length) ∧ Dx K H x d ∧ Val d ∧
  ∀ (e : PyData) (H' : Hp) (v : V), Told rows (sgnC door) d e → Same H H' → Dp K H' v e → Q v H'
/-- the other errors of the program, and what they are to the one that is asked about -/
structure Others (K : PySem.W.Frag) (mg : Str → Option Value) (C : Addr) : Prop where
  lk : mg "LookupError" = none
  ve : mg "ValueError" = none
  a : ∃ C2 C3 C4 : Addr, mg "NoAddress" = some (.ref C2) ∧ mg "NoIndex" = some (.ref C3) ∧ mg "NoKind" = some (.ref C4) ∧ PySem.W.kitAny K (.ref C) [.type "ValueError", .ref C2, .ref C3, .ref C4] = some false
  i : PySem.W.kitOne K (.ref C) (.type "LookupError") = some true
  s : PySem.W.subIn K (.ref C) (.ref C) = some true
theorem ok_told {f fW fL fi C : Addr} {fd dW dL : FuncData} {k : Nat} (F : Fun K "_law_told" "_law_told" sTold f fd) (N : OwnX K C fi) (gN : mg "NoAlternative" = some (.ref C)) (O : Others K mg C) (T : Blt mg) (mr : mg "repr" = none)
    (GW : FnOk P w K mg base (L2.CX P w) (k + 4) fW dW ["table", "one"] (spDuel K C 43)) (kW : PySem.W.keepIn K (.ref fW) = true) (bW : Binds K dW ["table", "one"] []) (gW : mg "wins_of" = some (.ref fW))
    (GL : FnOk P w K mg base (L2.CX P w) (k + 4) fL dL ["table", "one"] (spDuel K C 45)) (kL : PySem.W.keepIn K (.ref fL) = true) (bL : Binds K dL ["table", "one"] []) (gL : mg "losses_of" = some (.ref fL)) :
    FnG P w K mg base CX0 (k + 5) f fd ["_law_door", "_law_table_here", "_law_one_here"] (spTold K) := by
  obtain ⟨C2, C3, C4, g2, g3, g4, i4⟩ := O.a
  refine FnG.ok F scTold (fun vs H Q E h => ?_) (fun cdv A outer s H vs Q E hg hr h => ?_)
  · obtain ⟨door, t, x, rows, d, rfl, _⟩ := h
    rfl
  · obtain ⟨door, t, x, rows, d, rfl, hdoor, ht, hl, hrow, dx, vd, q⟩ := h
    have nd := scTold.nd
    refine ⟨_, pss_cons (ps_set (i := 3) nd rfl (.inl rfl) pe_non)
      (pss_cons (ps_try_as (i := 4) (tb := fun W => tAsg (tLst (tCons (tC (.str "returned")) (tCons (tIf (tTest (tOp rEq (tVar 0) (tC (.int 1)))) (tCallS (spDuel K C 45) (WE W) (tCons (tVar 1) (tCons (tVar 2) tNil))) (tCallS (spDuel K C 43) (WE W) (tCons (tVar 1) (tCons (tVar 2) tNil)))) tNil))) (gName 3))
          (ts := fun a cls dd => tSeq (tAsg (tAndV (tCB (fun xs H Q => (∃ d1 fs, dd = some d1 ∧ H d1 = some (.xd fs)) ∧ rIsX K a cls C xs H Q) (tCons (tVar 4) (tCons (tC (.ty "LookupError")) tNil))) (tNotV (tCB (fun xs H Q => (∃ d1 fs, dd = some d1 ∧ H d1 = some (.xd fs)) ∧ rIsXT K a cls dd C xs H Q) (tCons (tVar 4) (tCons (tTup (tCons (tC (.ty "ValueError")) (tCons (tC (.ref C2)) (tCons (tC (.ref C3)) (tCons (tC (.ref C4)) tNil))))) tNil))))) (gName 5))
            (tAsg (tLst (tCons (tC (.str "no alternative")) (tCons (tCB (rReprX K) (tCons (tXf a cls dd C "value" (tVar 4)) tNil)) (tCons (tVar 5) tNil)))) (gName 3)))
          (Wout := fun _ _ _ _ => False) rfl rfl nd rfl rfl ⟨rfl, by decide, .inl gN⟩ takes0
        (fun W pn xe tk _ => pss_one (ps_set (i := 3) nd rfl (.inl rfl) (pe_lst (pa_cons pe_str (pa_cons (pe_ifExp (pt_cmpR op_eq (pv 0) pe_int (nomark _))
          (pe_callS GL hr (by rfl) gL kL bL (fun σ => passAt tk σ) (pa_cons (pv 1) (pa_cons (pv 2) pa_nil))) (pe_callS GW hr (by rfl) gW kW bW (fun σ => passAt tk σ) (pa_cons (pv 1) (pa_cons (pv 2) pa_nil)))) pa_nil)))))
        (fun a oe cls dd pn hz hf => pss_cons (ps_set (i := 5) nd rfl (.inl rfl) (pe_and (pe_callB (call_isX N hz hf) (by rfl) T.isi (by decide +kernel) (pa_cons (pv 4) (pa_cons (pe_bltn (v := .ty "LookupError") (by rfl) O.lk (by decide +kernel) rfl) pa_nil)))
            (pe_one (pe_not (pe_callB (call_isXT N hz hf) (by rfl) T.isi (by decide +kernel) (pa_cons (pv 4) (pa_cons (pe_tup (pa_cons (pe_bltn (v := .ty "ValueError") (by rfl) O.ve (by decide +kernel) rfl) (pa_cons (pe_glob (v := .ref C2) (by rfl) g2 rfl) (pa_cons (pe_glob (v := .ref C3) (by rfl) g3 rfl) (pa_cons (pe_glob (v := .ref C4) (by rfl) g4 rfl) pa_nil))))) pa_nil)))))))
          (pss_one (ps_set (i := 3) nd rfl (.inl rfl) (pe_lst (pa_cons pe_str (pa_cons (pe_callB (call_reprX hg hr.units) (by rfl) mr (by decide +kernel) (pa_cons (pe_xf (own_xf N) N.no hz hf (pv 4)) pa_nil)) (pa_cons (pv 5) pa_nil))))))))
      (pss_one (ps_ret (pv 3)))), ?_⟩
    have exm : PySem.W.exmOne K (.ref C) (.ref C) = some true := PySem.W.exm_ref N.ex N.hd N.ty O.s
    have both : ∀ c : Nat, sgnC door = c → tCallS (spDuel K C c) (WE (wAs K (.ref C) 4 (fun a cls dd => tSeq (tAsg (tAndV (tCB (fun xs H Q => (∃ d1 fs, dd = some d1 ∧ H d1 = some (.xd fs)) ∧ rIsX K a cls C xs H Q) (tCons (tVar 4) (tCons (tC (.ty "LookupError")) tNil))) (tNotV (tCB (fun xs H Q => (∃ d1 fs, dd = some d1 ∧ H d1 = some (.xd fs)) ∧ rIsXT K a cls dd C xs H Q) (tCons (tVar 4) (tCons (tTup (tCons (tC (.ty "ValueError")) (tCons (tC (.ref C2)) (tCons (tC (.ref C3)) (tCons (tC (.ref C4)) tNil))))) tNil))))) (gName 5))
            (tAsg (tLst (tCons (tC (.str "no alternative")) (tCons (tCB (rReprX K) (tCons (tXf a cls dd C "value" (tVar 4)) tNil)) (tCons (tVar 5) tNil)))) (gName 3))) (fun _ _ _ _ => False)
          { nx := tRet (tVar 3) { nx := fun _ H' => Q .non H', rt := Q }, rt := Q })) (tCons (tVar 1) (tCons (tVar 2) tNil)) [some (.int door), some (.ref t), some x, some .non, none, none] H
          (fun y H2 => tNil [some (.int door), some (.ref t), some x, some .non, none, none] H2 fun xs H3 => ((.str "returned" : V) :: (y :: xs)).length ≤ sizeLine ∧ ∀ p, H3 p = none → gName 3 (.ref p) [some (.int door), some (.ref t), some x, some .non, none, none] (upd H3 p (.lst ((.str "returned" : V) :: (y :: xs)))) (tRet (tVar 3) { nx := fun _ H' => Q .non H', rt := Q })) := by
      intro c hc
      subst hc
      refine ⟨_, rfl, _, rfl, t, x, rows, d, rfl, ht, fun y hy => by have := hrow y hy; omega, dx, fun i y e1 e2 H' p s1 h1 => ?_, fun e a na => ?_⟩
      · subst e1
        refine ⟨(show 2 ≤ sizeLine by decide), fun L nL => ⟨_, rfl, q _ _ _ (.yes e2) (s1.trans (same_new nL)) (.lst (SqL.of upd_same) (.cons (.str _) (.cons (.tup (SqT.of (same_new nL _ _ h1)) (dp_ints _)) .nil)))⟩⟩
      · refine ⟨true, exm, fun _ a0 na0 => ?_, fun z => nomatch z⟩
        have s1 := same_new (o := .xd [(("value" : Str), x)]) na
        refine ⟨_, rfl, ⟨a, _, rfl, upd_same⟩, rfl, _, .type "LookupError", true, rfl, fun u h => h, O.i, true, rfl, ?_⟩
        refine ⟨_, rfl, (show 4 ≤ sizeLine by decide), fun tp np => ?_⟩
        have s2 := same_new (o := .tup [.ty "ValueError", .ref C2, .ref C3, .ref C4]) np
        have h2 := s2 _ _ (upd_same (H := H) (a := a) (o := .xd [(("value" : Str), x)]))
        refine ⟨⟨a, _, rfl, h2⟩, rfl, tp, _, [.type "ValueError", .ref C2, .ref C3, .ref C4], false, rfl, SqT.of upd_same, fun ws r => ?_, i4, false, rfl, ?_⟩
        · cases r with
          | cons r1 r => cases r with
            | cons r2 r => cases r with
              | cons r3 r => cases r with
                | cons r4 r =>
                  cases r
                  cases r1
                  cases r2
                  cases r3
                  cases r4
                  rfl
        refine ⟨_, rfl, rfl, rfl, a, _, x, rfl, h2, ?_, x, d, rfl, Dx.same (s1.trans s2) dx, vd.sh, Nat.le_trans vd.dp (by decide), vd.fits, _, rfl, (show 3 ≤ sizeLine by decide), fun L nL => ?_⟩
        · simp [List.lookup]
        · exact ⟨_, rfl, q _ _ _ (.no e) ((s1.trans s2).trans (same_new nL)) (.lst (SqL.of upd_same) (.cons (.str _) (.cons (.str _) (.cons (.bl _) .nil))))⟩
    refine ⟨_, rfl, rfl, _, rfl, ?_⟩
    have h2 : door = 0 ∨ door = 1 := by omega
    rcases h2 with rfl | rfl
    · exact both 43 rfl
    · exact both 45 rfl
end
end DS
namespace DS
open PySem PySem.Spec PyProof.Rows L2
section
variable {P : Program} {w : World} {K : PySem.W.Frag} {mg : Str → Option Value} {base : Heap}
theorem ok_due {f fI : Addr} {fd dI : FuncData} {k : Nat} (F : Fun K "_law_due" "_law_due" sDue f fd) (FI : Fun K "_law_integer" "_law_integer" sInteger fI dI) (bI : Binds K dI ["_law_value", "_law_low", "_law_high"] []) (gI : mg "_law_integer" = some (.ref fI)) (T : Blt mg) (mr : mg "repr" = none) :
    FnG P w K mg base CX0 (k + 2) f fd ["_law_door", "_law_table_here", "_law_one_here"] (spTold K) := by
  have GI : FnOk P w K mg base CX0 (k + 1) fI dI ["_law_value", "_law_low", "_law_high"] (spInteger K) := ok_integer FI T
  refine FnG.ok F scDue (fun vs H Q E h => ?_) (fun cdv A outer s H vs Q E hg hr h => ?_)
  · obtain ⟨door, t, x, rows, d, rfl, _⟩ := h
    rfl
  · obtain ⟨door, t, x, rows, d, rfl, hdoor, ht, hl, hrow, dx, vd, q⟩ := h
    have nd := scDue.nd
    refine ⟨_, pss_cons (ps_if (pt_not (pt_val (pe_call GI hr (by rfl) gI FI.kp bI .nil pass0 (pa_cons (pv 2) (pa_cons pe_int (pa_cons (pe_op op_sub (pe_callB call_len_seq (by rfl) T.len PySem.boot_len (pa_cons (pv 1) pa_nil)) pe_int) pa_nil))))))
        (pss_one (ps_ret (pe_lst (pa_cons pe_str (pa_cons (pe_callB (call_reprX hg hr.units) (by rfl) mr (by decide +kernel) (pa_cons (pv 2) pa_nil)) (pa_cons pe_bl pa_nil)))))) pss_nil)
      (pss_one (ps_ret (pe_lst (pa_cons pe_str (pa_cons (pe_callTy call_tuple_of (by rfl) T.tuple (by decide +kernel) (pa_cons
        (pe_lc (own := [("_law_k", 3)]) (g := gName 3) (tt := tTest (tOp rEq (tOp rIxS (tOp (rIxT K) (tVar 1) (tVar 2)) (tVar 3)) (tOp rIxS (tC (.str "+-")) (tVar 0)))) (te := tVar 3) rfl nd (pi_range1 (by rfl) T.range (pa_cons (pe_callB call_len_seq (by rfl) T.len PySem.boot_len (pa_cons (pv 1) pa_nil)) pa_nil)) (blkOk_by (by rfl))
          (fun _ _ _ _ _ => pg_name (i := 3) nd rfl (.inl rfl)) (fun _ _ _ _ _ => pts_one (pt_cmpR op_eq (pe_ix ix_str (pe_ix ix_tup (pv 1) (pv 2) (fun _ _ => rfl)) (pv 3) (fun _ _ => rfl)) (pe_ix ix_str pe_str (pv 0) (fun _ _ => rfl)) (nomark _)))
          (fun _ _ _ _ _ => pv 3)) pa_nil)) pa_nil))))), ?_⟩
    refine ⟨x, rfl, _, rfl, t, _, rfl, .inr ht, _, _, rfl, rfl, x, 0, _, d, rfl, dx, _, rfl, ?_⟩
    rw [List.length_map]
    cases e : within 0 ((rows.length : Int) - 1) d with
    | false =>
      refine iteT ⟨x, rfl, x, d, rfl, dx, vd.sh, Nat.le_trans vd.dp (by decide), vd.fits, (show 3 ≤ sizeLine by decide), fun L nL => ?_⟩
      exact q _ _ _ (.no e) (same_new nL) (.lst (SqL.of upd_same) (.cons (.str _) (.cons (.str _) (.cons (.bl _) .nil))))
    | true =>
      obtain ⟨i, rfl, hi⟩ := within_nat e
      cases dx
      have e2 : rows[i]? = some rows[i] := List.getElem?_eq_getElem hi
      have hy := hrow _ (List.getElem_mem hi)
      generalize rows[i] = y at e2 hy
      refine iteF ⟨_, rfl, t, _, rfl, .inr ht, _, rfl, ?_⟩
      have lm : ((rows.map V.str).length : Int) = (rows.length : Int) := by rw [List.length_map]
      rw [lm]
      refine ⟨by omega, by omega, fun D nD => ?_⟩
      refine lc_range (lo := 0) (n := (rows.length : Int).toNat) (fun j H3 => Same H H3 ∧ H3 D = some (.lst ((places y (sgnC door) j).map V.int))) ⟨same_new nD, upd_same⟩ (fun j H3 hj h => ?_) (fun H3 h => ?_)
      · obtain ⟨s3, h3⟩ := h
        rw [Int.toNat_natCast] at hj
        have st := places_step (y := y) (c := sgnC door) (n := j)
        have iy : (rows.map V.str)[i]? = some (.str y) := by
          rw [List.getElem?_map, e2]
          rfl
        refine ⟨rfl, _, rfl, _, rfl, t, _, _, _, rfl, rfl, Same.seqT s3 ht, atI_nat iy, _, rfl, y, _, y.cps.getD j 0, rfl, rfl, Nat.le_of_lt (line_lt (by show y.cps.size ≤ _; omega)), ?_, _, rfl, "+-", _, sgnC door, rfl, rfl, by decide, ?_, rfl, _, rfl, iteE (fun e => ?_) (fun e => ?_)⟩
        · rw [Int.zero_add]
          exact code_at rfl (by omega)
        · have h2 : door = 0 ∨ door = 1 := by omega
          rcases h2 with rfl | rfl <;> decide
        · have e2 : y.cps.getD j 0 = sgnC door := by
            have := of_decide_eq_true e
            injection this with this
            injection this with this
            simpa using this
          rw [if_pos e2] at st
          refine ⟨_, rfl, _, h3, ?_, same_over s3 nD, ?_⟩
          · rw [List.length_map]
            have := places_len (y := y) (c := sgnC door) (n := j)
            exact line_lt (by omega)
          · rw [upd_same, st, List.map_append, Int.zero_add]
            rfl
        · have e2 : ¬ y.cps.getD j 0 = sgnC door := fun z => by
            rw [z] at e
            exact absurd (decide_eq_true (rfl : V.str ⟨#[sgnC door]⟩ = V.str ⟨#[sgnC door]⟩)) (by rw [e]; exact Bool.false_ne_true)
          rw [if_neg e2, List.append_nil] at st
          exact ⟨s3, by rw [st]; exact h3⟩
      · obtain ⟨s3, h3⟩ := h
        rw [Int.toNat_natCast, ← hy] at h3
        refine ⟨D, _, rfl, .inl ⟨SqL.of h3, fun p np => ⟨(show 2 ≤ sizeLine by decide), fun L nL => ?_⟩⟩⟩
        have s4 := same_new (o := .tup ((places y (sgnC door) y.cps.size).map V.int)) np
        have s5 := same_new (o := .lst [.str "returned", .ref p]) nL
        exact q _ _ _ (.yes e2) (s3.trans (s4.trans s5)) (.lst (SqL.of upd_same) (.cons (.str _) (.cons (.tup (SqT.of (s5 _ _ upd_same)) (dp_ints _)) .nil)))
end
end DS
namespace DS
open PySem PySem.Spec PyProof.Rows L2
abbrev sLaw : Stmt := topS 26
abbrev nLaw : List Str := ["_law_script", "_law_deck_here", "_law_turn", "_law_table_here", "_law_kept", "_law_size", "_law_one_here", "_law_door", "_law_due_here", "_law_row"]
theorem scLaw : FnScope nLaw ["_law_script"] (defScope sLaw) := ⟨rfl, rfl, rfl, by decide +kernel, rfl, by decide +kernel, by decide +kernel⟩
/-! ### all duels have one winner -/
theorem add_sums (f g : Nat → Nat) : ∀ l : List Nat, (l.map fun i => f i + g i).sum = (l.map f).sum + (l.map g).sum
  | [] => rfl
  | a :: l => by
    rw [List.map_cons, List.map_cons, List.map_cons, List.sum_cons, List.sum_cons, List.sum_cons, add_sums f g l]
    omega
theorem ones : ∀ n : Nat, ((List.range n).map fun _ => 1).sum = n
  | 0 => rfl
  | n + 1 => by
    rw [List.range_succ, List.map_append, List.sum_append, ones n]
    rfl
theorem pair_sum (f : Nat → Nat → Nat) : ∀ n, (∀ i j, i < n → j < n → i ≠ j → f i j + f j i = 1) → (∀ i, i < n → f i i = 0) → 2 * ((List.range n).map fun i => ((List.range n).map (f i)).sum).sum = n * (n - 1)
  | 0, _, _ => rfl
  | n + 1, h, k => by
    have ih := pair_sum f n (fun i j hi hj => h i j (by omega) (by omega)) (fun i hi => k i (by omega))
    have e1 : ((List.range n).map fun i => ((List.range (n + 1)).map (f i)).sum) = (List.range n).map fun i => ((List.range n).map (f i)).sum + f i n := by
      apply List.map_congr_left
      intro i _
      rw [List.range_succ, List.map_append, List.sum_append]
      simp
    have e2 : ((List.range n).map fun i => f i n + f n i).sum = n := by
      have : ((List.range n).map fun i => f i n + f n i) = (List.range n).map fun _ => 1 := by
        apply List.map_congr_left
        intro i hi
        have := List.mem_range.mp hi
        exact h i n (by omega) (by omega) (by omega)
      rw [this, ones]
    rw [add_sums] at e2
    have e2' : ((List.range n).map fun i => f i n).sum + ((List.range n).map (f n)).sum = n := e2
    have e3 : ((List.range (n + 1)).map fun i => ((List.range (n + 1)).map (f i)).sum).sum = ((List.range n).map fun i => ((List.range (n + 1)).map (f i)).sum).sum + ((List.range (n + 1)).map (f n)).sum := by
      conv => lhs; rw [List.range_succ]
      rw [List.map_append, List.sum_append, ← List.range_succ]
      simp
    rw [e3, e1, add_sums]
    have e4 : ((List.range (n + 1)).map (f n)).sum = ((List.range n).map (f n)).sum + f n n := by
      rw [List.range_succ, List.map_append, List.sum_append]
      simp
    have e5 := k n (by omega)
    rw [e4, e5]
    have e6 : (n + 1) * (n + 1 - 1) = n * (n - 1) + 2 * n := by
      cases n with
      | zero => rfl
      | succ m =>
        simp only [Nat.add_sub_cancel, Nat.succ_mul, Nat.mul_succ]
        omega
    rw [e6]
    omega
theorem len_filter (p : Nat → Bool) : ∀ l : List Nat, (l.filter p).length = (l.map fun j => if p j = true then 1 else 0).sum
  | [] => rfl
  | a :: l => by
    rw [List.filter_cons, List.map_cons, List.sum_cons, ← len_filter p l]
    by_cases h : p a = true
    · rw [if_pos h, if_pos h, List.length_cons]
      omega
    · rw [if_neg h, if_neg h]
      omega
theorem cnt_row {z i : Nat} {b : Nat → Nat → Bool} : cnt (rowS z b i) 43 = ((List.range z).map fun j => if i ≠ j ∧ b i j = true then 1 else 0).sum := by
  have sz : (rowS z b i).cps.size = z := by
    show ((List.range z).map (sgn b i)).toArray.size = z
    rw [List.size_toArray, List.length_map, List.length_range]
  unfold cnt
  rw [sz, len_filter]
  congr 1
  apply List.map_congr_left
  intro j hj
  have hj' := List.mem_range.mp hj
  have e : (rowS z b i).cps.getD j 0 = sgn b i j := by
    show ((List.range z).map (sgn b i)).toArray.getD j 0 = _
    rw [Array.getD_eq_getD_getElem?, List.getElem?_toArray, List.getElem?_map, List.getElem?_range hj']
    rfl
  rw [e]
  unfold sgn
  by_cases h1 : i = j
  · rw [if_pos h1, if_neg (by simp), if_neg (by simp [h1])]
  · rw [if_neg h1]
    cases h2 : b i j
    · rw [if_neg (by simp), if_neg (by simp)]
    · rw [if_pos (by simp), if_pos (by simp [h1])]
theorem won_sum {z : Nat} {b : Nat → Nat → Bool} (t : Trn z b) : 2 * (wonAll (tabS z b)).sum = (z : Int) * ((z : Int) - 1) := by
  have e : wonAll (tabS z b) = ((List.range z).map fun i => ((List.range z).map fun j => if i ≠ j ∧ b i j = true then 1 else 0).sum).map fun n : Nat => (n : Int) := by
    unfold wonAll tabS
    rw [List.map_map, List.map_map]
    apply List.map_congr_left
    intro i _
    show ((cnt (rowS z b i) 43 : Nat) : Int) = _
    rw [cnt_row]
    rfl
  have h := pair_sum (fun i j => if i ≠ j ∧ b i j = true then 1 else 0) z (fun i j hi hj hne => by
    have := t i j hi hj hne
    cases h1 : b j i
    · rw [h1] at this
      rw [if_pos ⟨hne, this⟩, if_neg (by simp)]
    · rw [h1] at this
      rw [if_neg (by simp [this]), if_pos ⟨Ne.symm hne, rfl⟩]) (fun i _ => if_neg (by simp))
  rw [e]
  have c : ∀ l : List Nat, (l.map fun n : Nat => (n : Int)).sum = ((l.sum : Nat) : Int) := fun l => by
    induction l with
    | nil => rfl
    | cons a l ih =>
      rw [List.map_cons, List.sum_cons, List.sum_cons, ih]
      omega
  rw [c]
  cases z with
  | zero => rfl
  | succ m =>
    have h' := congrArg (fun n : Nat => (n : Int)) h
    simp only [Nat.add_sub_cancel] at h'
    push_cast at h' ⊢
    rw [h']
    congr 1
    omega
def okV (d : PyData) : Bool := d.showable && decide (d.depth ≤ 6) && d.leavesShort 40 && decide (d.bulk ≤ 20000)
theorem okV_val {d : PyData} (h : okV d = true) : Val d := by
  unfold okV at h
  simp only [Bool.and_eq_true, decide_eq_true_eq] at h
  exact ⟨h.1.1.1, h.1.1.2, h.1.2, h.2⟩
theorem val_nat {i : Nat} (h : i ≤ 9) : Val (.int i) := by
  have k : ((List.range 10).all fun i => okV (.int ((i : Nat) : Int))) = true := by decide +kernel
  exact okV_val (List.all_eq_true.mp k i (List.mem_range.mpr (by omega)))
end DS
namespace DS
open PySem PySem.Spec PyProof.Rows L2
section
variable {P : Program} {w : World} {K : PySem.W.Frag} {mg : Str → Option Value} {base : Heap}
theorem rg_dx {H : Hp} (z : Nat) : DxAll K H (rgV 0 (z : Int)) ((List.range z).map fun i : Nat => PyData.int i) := by
  unfold rgV
  have e : ((z : Int) - 0).toNat = z := by omega
  rw [e]
  have key : ∀ l : List Nat, DxAll K H (l.map fun i : Nat => V.int (0 + (i : Int))) (l.map fun i : Nat => PyData.int i) := fun l => by
    induction l with
    | nil => exact .nil
    | cons a l ih =>
      rw [List.map_cons, List.map_cons, Int.zero_add]
      exact .cons (.int _) ih
  exact key _
theorem dx_app {H : Hp} : ∀ {xs ys : List V} {ds es : List PyData}, DxAll K H xs ds → DxAll K H ys es → DxAll K H (xs ++ ys) (ds ++ es)
  | _, _, _, _, .nil, k => k
  | _, _, _, _, .cons h t, k => .cons h (dx_app t k)
theorem fits_told {rows : List Str} {c : Nat} {d e : PyData} (h : Told rows c d e) (hr : ∀ y ∈ rows, y.cps.size ≤ 1000) : Fits 2 e := by
  cases h with
  | @yes i y h =>
    refine ⟨(show 2 ≤ 100000 by decide), fun x hx => ?_⟩
    rcases List.mem_cons.mp hx with z | hx
    · rw [z]
      exact True.intro
    · rw [List.mem_singleton.mp hx]
      refine ⟨?_, fun x hx => ?_⟩
      · rw [List.length_map]
        have := places_len (y := y) (c := c) (n := y.cps.size)
        have := hr y (List.mem_of_getElem? h)
        omega
      · obtain ⟨j, _, rfl⟩ := List.mem_map.mp hx
        exact True.intro
  | no h =>
    refine ⟨(show 3 ≤ 100000 by decide), fun x hx => ?_⟩
    rcases List.mem_cons.mp hx with z | hx
    · rw [z]
      exact True.intro
    · rcases List.mem_cons.mp hx with z | hx
      · rw [z]
        exact True.intro
      · rw [List.mem_singleton.mp hx]
        exact True.intro
def spLaw (K : PySem.W.Frag) : Sp := fun vs H Q _ => ∃ (a : Addr) (ns : List Int), vs = [.ref a] ∧ SqL K H a (ns.map V.int) ∧ ns.length ≤ 63 ∧ ∀ H', Q (.bl true) H'
/-- the defs as they stand -/
structure Txt2 (K : PySem.W.Frag) (mg : Str → Option Value) (fI fA fR fV fO fP fC fD fN fS fM fW fT fZ fG fX fY : Addr) (dI dA dR dV dO dP dC dD dN dS dM dW dT dZ dG dX dY : FuncData) (cN fi : Addr) : Prop where
  I : Fun K "is_integer" "is_integer" sIsInt fI dI
  bI : Binds K dI ["value"] []
  gI : mg "is_integer" = some (.ref fI)
  A : Fun K "is_alternative" "is_alternative" sIsAlt fA dA
  bA : Binds K dA ["table", "value"] []
  gA : mg "is_alternative" = some (.ref fA)
  R : Fun K "require_alternative" "require_alternative" sReq fR dR
  bR : Binds K dR ["table", "value"] []
  gR : mg "require_alternative" = some (.ref fR)
  V : Fun K "wins_of" "wins_of" sWins fV dV
  bV : Binds K dV ["table", "one"] []
  gV : mg "wins_of" = some (.ref fV)
  O : Fun K "losses_of" "losses_of" sLoss fO dO
  bO : Binds K dO ["table", "one"] []
  gO : mg "losses_of" = some (.ref fO)
  P : Fun K "places_of" "places_of" sPlaces fP dP
  bP : Binds K dP ["row", "sign"] []
  gP : mg "places_of" = some (.ref fP)
  C : Fun K "scores" "scores" sScores fC dC
  bC : Binds K dC ["table"] []
  gC : mg "scores" = some (.ref fC)
  D : Fun K "_law_deck" "_law_deck" sDeck fD dD
  bD : Binds K dD ["_law_script"] []
  gD : mg "_law_deck" = some (.ref fD)
  N : Fun K "_law_next" "_law_next" sNext fN dN
  bN : Binds K dN ["_law_deck_here", "_law_many"] []
  gN : mg "_law_next" = some (.ref fN)
  S : Fun K "_law_same" "_law_same" sSame fS dS
  bS : Binds K dS ["_law_found", "_law_due_here"] []
  gS : mg "_law_same" = some (.ref fS)
  M : Fun K "_law_mixed" "_law_mixed" sMixed fM dM
  bM : Binds K dM ["_law_deck_here", "_law_items"] []
  gM : mg "_law_mixed" = some (.ref fM)
  W : Fun K "_law_won" "_law_won" sWon fW dW
  bW : Binds K dW ["_law_deck_here", "_law_way", "_law_one_here", "_law_other"] []
  gW : mg "_law_won" = some (.ref fW)
  T : Fun K "_law_table" "_law_table" sTable fT dT
  bT : Binds K dT ["_law_deck_here", "_law_most"] []
  gT : mg "_law_table" = some (.ref fT)
  Z : Fun K "_law_odd" "_law_odd" sOdd fZ dZ
  bZ : Binds K dZ ["_law_deck_here"] []
  gZ : mg "_law_odd" = some (.ref fZ)
  G : Fun K "_law_integer" "_law_integer" sInteger fG dG
  bG : Binds K dG ["_law_value", "_law_low", "_law_high"] []
  gG : mg "_law_integer" = some (.ref fG)
  X : Fun K "_law_told" "_law_told" sTold fX dX
  bX : Binds K dX ["_law_door", "_law_table_here", "_law_one_here"] []
  gX : mg "_law_told" = some (.ref fX)
  Y : Fun K "_law_due" "_law_due" sDue fY dY
  bY : Binds K dY ["_law_door", "_law_table_here", "_law_one_here"] []
  gY : mg "_law_due" = some (.ref fY)
  blt : Blt mg
  abs : mg "abs" = none
  enum : mg "enumerate" = none
  repr : mg "repr" = none
  sum : mg "sum" = none
  own : OwnX K cN fi
  gOwn : mg "NoAlternative" = some (.ref cN)
  oth : Others K mg cN
theorem ok_law {f fI fA fR fV fO fP fC fD fN fS fM fW fT fZ fG fX fY cN fi : Addr} {fd dI dA dR dV dO dP dC dD dN dS dM dW dT dZ dG dX dY : FuncData} (F : Fun K "law" "law" sLaw f fd) (T : Txt2 K mg fI fA fR fV fO fP fC fD fN fS fM fW fT fZ fG fX fY dI dA dR dV dO dP dC dD dN dS dM dW dT dZ dG dX dY cN fi) : FnG P w K mg base CX0 6 f fd ["_law_script"] (spLaw K) := by
  have GD : FnOk P w K mg base CX0 1 fD dD ["_law_script"] (spDeck K) := ok_deck T.D T.blt.len T.abs T.blt.int
  have GT : FnOk P w K mg base CX0 3 fT dT ["_law_deck_here", "_law_most"] spTable := ok_table T.T T.N T.bN T.gN T.W T.bW T.gW T.M T.bM T.gM T.blt.len T.blt.list T.blt.range T.blt.int T.blt.tuple
  have GS : FnOk P w K mg base CX0 3 fS dS ["_law_found", "_law_due_here"] (spSame K 2) := ok_same T.S T.bS T.gS T.blt 2
  have GZ : FnOk P w K mg base CX0 2 fZ dZ ["_law_deck_here"] (spOdd K) := ok_odd T.Z T.N T.bN T.gN T.blt
  have GC : FnOk P w K mg base CX0 1 fC dC ["table"] (spScores K) := ok_scores T.C T.blt
  have GV : FnOk P w K mg base (L2.CX P w) 4 fV dV ["table", "one"] (spDuel K cN 43) := ok_wins T.V T.R T.bR T.gR T.A T.bA T.gA T.I T.bI T.gI T.blt T.own T.gOwn T.P T.bP T.gP T.enum
  have GO : FnOk P w K mg base (L2.CX P w) 4 fO dO ["table", "one"] (spDuel K cN 45) := ok_loss T.O T.R T.bR T.gR T.A T.bA T.gA T.I T.bI T.gI T.blt T.own T.gOwn T.P T.bP T.gP T.enum
  have GX : FnG P w K mg base CX0 5 fX dX ["_law_door", "_law_table_here", "_law_one_here"] (spTold K) := ok_told T.X T.own T.gOwn T.oth T.blt T.repr GV T.V.kp T.bV T.gV GO T.O.kp T.bO T.gO
  have GY : FnG P w K mg base CX0 2 fY dY ["_law_door", "_law_table_here", "_law_one_here"] (spTold K) := ok_due T.Y T.G T.bG T.gG T.blt T.repr
  refine FnG.ok F scLaw (fun vs H Q E h => ?_) (fun cdv A outer s H vs Q E hg hr h => ?_)
  · obtain ⟨a, ns, rfl, _⟩ := h
    rfl
  · obtain ⟨a, ns, rfl, ha, hn, q⟩ := h
    have nd := scLaw.nd
    have r1 := hr.mono (show 1 ≤ 5 by decide)
    have r2 := hr.mono (show 2 ≤ 5 by decide)
    have r3 := hr.mono (show 3 ≤ 5 by decide)
    refine ⟨_, pss_cons (ps_set (i := 1) nd rfl (.inl rfl) (pe_call GD r1 (by rfl) T.gD T.D.kp T.bD .nil pass0 (pa_cons (pv 0) pa_nil)))
      (pss_cons (ps_for PassesOwn.never rfl (pi_range1 (by rfl) T.blt.range (pa_cons pe_int pa_nil)) (pg_name (i := 2) nd rfl (.inl rfl))
        (pss_cons (ps_set (i := 3) nd rfl (.inl rfl) (pe_call GT r3 (by rfl) T.gT T.T.kp T.bT .nil pass0 (pa_cons (pv 1) (pa_cons pe_int pa_nil))))
        (pss_cons (ps_par (by rfl) nd (i := 4) (j := 5) rfl rfl (by decide) rfl rfl (pa_cons (pe_callB (call_reprX hg hr.units) (by rfl) T.repr (by decide +kernel) (pa_cons (pv 3) pa_nil)) (pa_cons (pe_callB call_len_seq (by rfl) T.blt.len PySem.boot_len (pa_cons (pv 3) pa_nil)) pa_nil)) (by rfl))
        (pss_cons (ps_for PassesOwn.never rfl (pi_list (pe_op op_cat (pe_listRg rfl (by rfl) T.blt.list (prg_1 (by rfl) T.blt.range (pv 5)))
            (pe_lst (pa_cons (pv 5) (pa_cons (pe_un un_neg pe_int) (pa_cons pe_bl (pa_cons pe_bl (pa_cons pe_non (pa_cons pe_str (pa_cons (pe_call GZ r2 (by rfl) T.gZ T.Z.kp T.bZ .nil pass0 (pa_cons (pv 1) pa_nil)) (pa_cons (pe_call GZ r2 (by rfl) T.gZ T.Z.kp T.bZ .nil pass0 (pa_cons (pv 1) pa_nil)) pa_nil)))))))))))
            (pg_name (i := 6) nd rfl (.inl rfl))
          (pss_one (ps_for PassesOwn.never rfl (pi_range1 (by rfl) T.blt.range (pa_cons pe_int pa_nil)) (pg_name (i := 7) nd rfl (.inl rfl))
            (pss_one (ps_if (pt_not (pt_val (pe_call GS r3 (by rfl) T.gS T.S.kp T.bS .nil pass0 (pa_cons (pe_callG GX hg hr (by rfl) T.gX T.X.kp T.bX .nil pass0 (pa_cons (pv 7) (pa_cons (pv 3) (pa_cons (pv 6) pa_nil)))) (pa_cons (pe_callG GY hg r2 (by rfl) T.gY T.Y.kp T.bY .nil pass0 (pa_cons (pv 7) (pa_cons (pv 3) (pa_cons (pv 6) pa_nil)))) pa_nil)))))
              (pss_one (ps_ret pe_bl)) pss_nil)))))
        (pss_cons (ps_set (i := 8) nd rfl (.inl rfl) (pe_callTy call_tuple_of (by rfl) T.blt.tuple (by decide +kernel) (pa_cons
          (pe_lc (own := [("_law_row", 9)]) (g := gName 9) (tt := tYes) rfl nd (pi_tup (pv 3)) (blkOk_by (by rfl)) (fun _ _ _ _ _ => pg_name (i := 9) nd rfl (.inl rfl)) (fun _ _ _ _ _ => pts_nil)
            (fun _ _ _ _ _ => pe_m1 PySem.F.slot_str_count PySem.F.type_str_count mt_count (pv 9) pe_str)) pa_nil)))
        (pss_one (ps_if (PW.pt (pw_or (pt_not (pt_val (pe_call GS r3 (by rfl) T.gS T.S.kp T.bS .nil pass0 (pa_cons (pe_call GC r1 (by rfl) T.gC T.C.kp T.bC .nil pass0 (pa_cons (pv 3) pa_nil)) (pa_cons (pv 8) pa_nil)))))
            (pw_or (pt_cmpR op_ne (pe_op op_mul pe_int (pe_callB (cr_sumT rfl) (by rfl) T.sum (by decide +kernel) (pa_cons (pv 8) pa_nil))) (pe_op op_mul (pv 5) (pe_op op_sub (pv 5) pe_int)) (nomark _))
            (pw_or1 (pt_cmpR op_ne (pe_callB (call_reprX hg hr.units) (by rfl) T.repr (by decide +kernel) (pa_cons (pv 3) pa_nil)) (pv 4) (nomark _))))))
          (pss_one (ps_ret pe_bl)) pss_nil)))))))
      (pss_one (ps_ret pe_bl))), ?_⟩
    refine ⟨.ref a, rfl, a, ns, rfl, ha, hn, fun H0 d c r s0 _ _ _ D0 => ?_⟩
    refine ⟨6, rfl, by decide, by decide, ?_⟩
    refine for_range (lo := 0) (n := 6) (fun i σ H' => ∃ (y2 y3 y4 y5 y6 y7 y8 : Option V), σ = [some (V.ref a), some (V.ref d), y2, y3, y4, y5, y6, y7, y8, none] ∧ Deck H' d c r (i * 1000))
      ⟨none, none, none, none, none, none, none, rfl, D0.mono (by omega)⟩ (fun i σ H' hi hP => ?_) (fun σ H' hP => ?_)
    · obtain ⟨y2, y3, y4, y5, y6, y7, y8, rfl, D4⟩ := hP
      refine ⟨.ref d, rfl, d, c, r, i * 1000, 9, rfl, D4, by omega, by decide, by decide, fun H5 t z b z1 z9 trn D5 f5 nt ht => ?_⟩
      have td := D4.ned nt
      have tc := D4.nec nt
      have tr := D4.ner nt
      have vt : Val (.tuple ((tabS z b).map PyData.str)) := .tup (tab_itm z9) (by decide) (by rw [List.length_map, tab_len]; omega)
      obtain ⟨shw, es⟩ : ∃ x, x = (PyData.tuple ((tabS z b).map PyData.str)).shown := ⟨_, rfl⟩
      refine ⟨.ref t, rfl, .ref t, _, rfl, .tup (SqT.of ht) (dx_strs _), vt.sh, Nat.le_trans vt.dp (by decide), vt.fits, .ref t, rfl, t, _, rfl, .inr (SqT.of ht), _, _, rfl, ?_⟩
      rw [List.length_map, tab_len, ← es]
      -- the values
      refine ⟨_, rfl, z, rfl, RgOk.of_le (by omega) (by omega) (by omega) (by omega), fun L1 n1 => ?_⟩
      have s1 := same_new (o := .lst (rgV 0 (z : Int))) n1
      have a1 : (upd H5 L1 (.lst (rgV 0 (z : Int)))) L1 = some (.lst (rgV 0 (z : Int))) := upd_same
      have h1d := D5.ned n1
      have h1r := D5.ner n1
      have ht1 := s1 _ _ ht
      have D5' := D5.same s1
      generalize upd H5 L1 (.lst (rgV 0 (z : Int))) = H5b at a1 ht1 D5' ⊢
      refine ⟨_, rfl, 1, rfl, .ref d, rfl, d, c, r, _, rfl, D5', by omega, fun H6 x1 e1 m1 dx1 D6 f6 => ?_⟩
      refine ⟨.ref d, rfl, d, c, r, _, rfl, D6, by omega, fun H7 x2 e2 m2 dx2 D7 f7 => ⟨(show 8 ≤ sizeLine by decide), fun B nB => ?_⟩⟩
      have sB := same_new (o := .lst [.int z, .int (-1), .bl true, .bl false, .non, .str "0", x1, x2]) nB
      have aB : (upd H7 B (.lst [.int z, .int (-1), .bl true, .bl false, .non, .str "0", x1, x2])) B = some (.lst [.int z, .int (-1), .bl true, .bl false, .non, .str "0", x1, x2]) := upd_same
      have a8 := sB _ _ (f7.get (f6.get a1 h1d h1r) h1d h1r)
      have ht8 := sB _ _ (f7.get (f6.get ht1 td tr) td tr)
      have g1 := Dx.same sB (Dx.same hid_same (Dx.same (hid_frm f7) dx1))
      have g2 := Dx.same sB (Dx.same hid_same dx2)
      have D8 := D7.same sB
      generalize upd H7 B (.lst [.int z, .int (-1), .bl true, .bl false, .non, .str "0", x1, x2]) = H8 at aB a8 ht8 g1 g2 D8 ⊢
      refine ⟨L1, B, _, _, rfl, rfl, a8, aB, Nat.le_of_lt (line_lt (by rw [rgV_length]; show _ + 8 ≤ _; omega)), fun L nL => ?_⟩
      have sL := same_new (o := .lst (rgV 0 (z : Int) ++ [.int z, .int (-1), .bl true, .bl false, .non, .str "0", x1, x2])) nL
      have aL : (upd H8 L (.lst (rgV 0 (z : Int) ++ [.int z, .int (-1), .bl true, .bl false, .non, .str "0", x1, x2]))) L = some (.lst (rgV 0 (z : Int) ++ [.int z, .int (-1), .bl true, .bl false, .non, .str "0", x1, x2])) := upd_same
      have ht9 := sL _ _ ht8
      have all : DxAll K (upd H8 L (.lst (rgV 0 (z : Int) ++ [.int z, .int (-1), .bl true, .bl false, .non, .str "0", x1, x2]))) (rgV 0 (z : Int) ++ [.int z, .int (-1), .bl true, .bl false, .non, .str "0", x1, x2])
          (((List.range z).map fun i : Nat => PyData.int i) ++ [.int z, .int (-1), .bool true, .bool false, .none, .str "0", e1, e2]) :=
        dx_app (rg_dx z) (.cons (.int _) (.cons (.int _) (.cons (.bl _) (.cons (.bl _) (.cons .non (.cons (.str _) (.cons (Dx.same sL g1) (.cons (Dx.same sL g2) .nil))))))))
      have vals : ∀ e ∈ ((List.range z).map fun i : Nat => PyData.int i) ++ [.int z, .int (-1), .bool true, .bool false, .none, .str "0", e1, e2], Val e := fun e he => by
        rcases List.mem_append.mp he with y | y
        · obtain ⟨j, hj, rfl⟩ := List.mem_map.mp y
          have := List.mem_range.mp hj
          exact val_nat (by omega)
        · rcases List.mem_cons.mp y with y | y
          · rw [y]; exact val_nat z9
          rcases List.mem_cons.mp y with y | y
          · rw [y]; exact okV_val (by decide +kernel)
          rcases List.mem_cons.mp y with y | y
          · rw [y]; exact okV_val (by decide +kernel)
          rcases List.mem_cons.mp y with y | y
          · rw [y]; exact okV_val (by decide +kernel)
          rcases List.mem_cons.mp y with y | y
          · rw [y]; exact okV_val (by decide +kernel)
          rcases List.mem_cons.mp y with y | y
          · rw [y]; exact okV_val (by decide +kernel)
          rcases List.mem_cons.mp y with y | y
          · rw [y]; exact (odd_itm _ m1).val (by decide)
          · rw [List.mem_singleton.mp y]; exact (odd_itm _ m2).val (by decide)
      have D9 := D8.same sL
      generalize upd H8 L (.lst (rgV 0 (z : Int) ++ [.int z, .int (-1), .bl true, .bl false, .non, .str "0", x1, x2])) = H9 at aL ht9 all D9 ⊢
      generalize rgV 0 (z : Int) ++ [.int z, .int (-1), .bl true, .bl false, .non, .str "0", x1, x2] = vs at aL all ⊢
      generalize ((List.range z).map fun i : Nat => PyData.int i) ++ [.int z, .int (-1), .bool true, .bool false, .none, .str "0", e1, e2] = es' at all vals
      clear g1 g2 a8 aB dx1 dx2 a1 ht1 sB sL s1
      have hrow : ∀ y ∈ tabS z b, y.cps.size = (tabS z b).length := fun y hy => by rw [tab_len]; exact (tab_codes y hy).2
      have hrow9 : ∀ y ∈ tabS z b, y.cps.size ≤ 1000 := fun y hy => by have := (tab_codes y hy).2; omega
      have sqt : ∀ {H' : Hp}, Same H9 H' → SqT K H' t ((tabS z b).map V.str) := fun {H'} e => SqT.of (e _ _ ht9)
      refine ⟨L, rfl, ⟨_, SqL.of aL⟩, ?_⟩
      refine for_list (K := K) (a := L) (xs := vs) (fun u σ H10 => ∃ y6 y7 : Option V, σ = [some (V.ref a), some (V.ref d), some (V.int (0 + (i : Int))), some (V.ref t), some (V.str shw), some (V.int z), y6, y7, y8, none] ∧ Same H9 H10)
        ⟨y6, y7, rfl, Same.refl _⟩ (fun u σ H10 _ h => by obtain ⟨_, _, _, s5⟩ := h; exact s5.seq (SqL.of aL)) (fun u v σ H10 hv h => ?_) (fun σ H10 h => ?_)
      · obtain ⟨y6, y7, rfl, s10⟩ := h
        obtain ⟨e, he, ve⟩ : ∃ e, Dx K H9 v e ∧ Val e := by
          have hu : u < es'.length := by rw [← all.len]; exact (List.getElem?_eq_some_iff.mp hv).1
          obtain ⟨v', hv', dx⟩ := all.get (List.getElem?_eq_getElem hu)
          rw [hv] at hv'
          cases hv'
          exact ⟨_, dx, vals _ (List.getElem_mem hu)⟩
        refine ⟨2, rfl, by decide, by decide, ?_⟩
        refine for_range (lo := 0) (n := 2) (fun j σ H11 => ∃ y7 : Option V, σ = [some (V.ref a), some (V.ref d), some (V.int (0 + (i : Int))), some (V.ref t), some (V.str shw), some (V.int z), some v, y7, y8, none] ∧ Same H9 H11)
          ⟨y7, rfl, s10⟩ (fun j σ H11 hj h => ?_) (fun σ H11 h => ?_)
        · obtain ⟨y7, rfl, s11⟩ := h
          have ej : (0 : Int) + (j : Int) = ((j : Nat) : Int) := by omega
          refine ⟨_, rfl, _, rfl, _, rfl, j, t, v, tabS z b, e, by rw [ej]; rfl, hj, sqt s11, by rw [tab_len]; exact z9, hrow, Dx.same s11 he, ve, fun g1 H12 v1 t1 s12 d1 => ?_⟩
          have s12' := s11.trans s12
          refine ⟨_, rfl, _, rfl, _, rfl, j, t, v, tabS z b, e, by rw [ej]; rfl, hj, sqt s12', by rw [tab_len]; exact z9, hrow, Dx.same s12' he, ve, fun g2 H13 v2 t2 s13 d2 => ?_⟩
          obtain rfl := told_one t2 t1
          refine ⟨v1, v2, g2, rfl, Dp.same s13 d1, d2, fits_told t1 hrow9, fun H14 s14 => ⟨true, rfl, iteF ?_⟩⟩
          exact ⟨_, rfl, (s12'.trans s13).trans s14⟩
        · obtain ⟨y7, rfl, s11⟩ := h
          exact ⟨_, _, rfl, s11⟩
      · obtain ⟨y6, y7, rfl, s10⟩ := h
        refine ⟨_, rfl, t, rfl, ⟨_, sqt s10⟩, fun Dd nD => ?_⟩
        refine lc_tup (K := K) (xs := (tabS z b).map V.str) (fun u H11 => Same H10 H11 ∧ H11 Dd = some (.lst ((wonAll ((tabS z b).take u)).map V.int))) ⟨same_new nD, upd_same⟩ (fun u H11 _ h => sqt (s10.trans h.1)) (fun u x H11 hu h => ?_) (fun H11 h => ?_)
        · obtain ⟨s3, h3⟩ := h
          obtain ⟨y, hy, rfl⟩ := get_map hu
          refine ⟨rfl, ?_⟩
          refine ⟨_, rfl, ⟨_, rfl⟩, _, _, rfl, rfl, _, h3, ?_, same_over s3 nD, ?_⟩
          · unfold wonAll
            rw [List.length_map, List.length_map, List.length_take, tab_len]
            exact line_lt (by omega)
          · rw [upd_same]
            have e : Txt.count y "+" = (cnt y 43 : Int) := count_one y 43
            rw [e]
            unfold wonAll
            rw [take_snoc _ hy, List.map_append]
            rfl
        · obtain ⟨s3, h3⟩ := h
          rw [List.length_map, List.take_length] at h3
          refine ⟨Dd, _, rfl, .inl ⟨SqL.of h3, fun p np => ?_⟩⟩
          have sp := same_new (o := .tup ((wonAll (tabS z b)).map V.int)) np
          have ap : (upd H11 p (.tup ((wonAll (tabS z b)).map V.int))) p = some (.tup ((wonAll (tabS z b)).map V.int)) := upd_same
          have s11 := s10.trans (s3.trans sp)
          generalize upd H11 p (.tup ((wonAll (tabS z b)).map V.int)) = H12 at ap s11 ⊢
          refine ⟨_, rfl, t, tabS z b, rfl, sqt s11, by rw [tab_len]; omega, fun H13 p2 s13 h13 => ?_⟩
          have wl : (wonAll (tabS z b)).length = z := by
            unfold wonAll
            rw [List.length_map, tab_len]
          refine ⟨_, rfl, .ref p2, .ref p, .tuple ((wonAll (tabS z b)).map .int), rfl, .tup (SqT.of h13) (dp_ints _), .tup (SqT.of (s13 _ _ ap)) (dp_ints _), ⟨by rw [List.length_map, wl]; omega, fun x hx => by
            obtain ⟨j, _, rfl⟩ := List.mem_map.mp hx
            exact True.intro⟩, fun H14 s14 => ⟨true, rfl, ?_⟩⟩
          have s15 := s11.trans (s13.trans s14)
          have ap2 := s14 _ _ (s13 _ _ ap)
          have nq : V.bl (!decide (V.int (2 * (wonAll (tabS z b)).sum) = V.int ((z : Int) * ((z : Int) - 1)))) = V.bl false := by
            rw [won_sum trn, decide_eq_true rfl]
            rfl
          refine iteF ⟨_, rfl, p, wonAll (tabS z b), rfl, SqT.of ap2, _, _, rfl, rfl, .inl (by decide), _, rfl, _, rfl, _, _, rfl, rfl, _, _, rfl, rfl, .inl ⟨by omega, by omega⟩, rfl, false, nq, ?_⟩
          refine iteF ⟨_, rfl, .ref t, _, rfl, .tup (sqt s15) (dx_strs _), vt.sh, Nat.le_trans vt.dp (by decide), vt.fits, _, rfl, rfl, _, rfl, ?_⟩
          rw [← es, decide_eq_true rfl]
          exact iteF ⟨_, _, _, _, _, _, _, rfl, (D9.same s15).mono (by omega)⟩
    · exact q H'
end
end DS
namespace DS
open PySem PySem.Spec PyProof.Rows L2
/-! ### what the top has left -/
structure In1 (K : PySem.W.Frag) (x : Str) (st : Stmt) (f : Addr) (fd : FuncData) : Prop where
  ns : PySem.W.nsIn K mainGlobals x = some (some (.ref f))
  fn : Fun K x x st f fd
theorem in1 {K : PySem.W.Frag} {x : Str} {st : Stmt} {f : Addr} {oc : Value} {od an : Option Addr} {osl : Array (Option Value)} {kV doc pm cdv ct : Value} (a : PySem.W.nsIn K mainGlobals x = some (some (.ref f)))
    (l : K.lookup f = some ⟨oc, od, .func (PySem.W.fnOf x x (defArgs st) (defBody st) (defScope st) .none kV doc pm an cdv ct), osl⟩) (c : PySem.W.codeIn K cdv x = true) (k : PySem.W.keepIn K (.ref f) = true) :
    In1 K x st f (PySem.W.fnOf x x (defArgs st) (defBody st) (defScope st) .none kV doc pm an cdv ct) := ⟨a, fun_mk l c k⟩
theorem all_mk {l : PySem.W.OpenLaw} {w : World} {K : PySem.W.Frag} {h : Heap} {mg : Str → Option Value} {fa fL fI fA fR fV fO fP fC fD fN fS fM fW fT fZ fG fX fY : Addr} {dL dI dA dR dV dO dP dC dD dN dS dM dW dT dZ dG dX dY : FuncData}  {cQ iQ : Addr} {ocQ doQ pmQ cdQ ctQ : Value} {odQ anQ : Option Addr} {slQ : Array (Option Value)} {c2 c3 c4 : Addr} (X : K.In h) (G : h.Ns mainGlobals mg) (hfa : mg "law" = some (.ref fa))
    (iI : In1 K "is_integer" sIsInt fI dI)
    (iA : In1 K "is_alternative" sIsAlt fA dA)
    (iR : In1 K "require_alternative" sReq fR dR)
    (iV : In1 K "wins_of" sWins fV dV)
    (iO : In1 K "losses_of" sLoss fO dO)
    (iP : In1 K "places_of" sPlaces fP dP)
    (iC : In1 K "scores" sScores fC dC)
    (iD : In1 K "_law_deck" sDeck fD dD)
    (iN : In1 K "_law_next" sNext fN dN)
    (iS : In1 K "_law_same" sSame fS dS)
    (iM : In1 K "_law_mixed" sMixed fM dM)
    (iW : In1 K "_law_won" sWon fW dW)
    (iT : In1 K "_law_table" sTable fT dT)
    (iZ : In1 K "_law_odd" sOdd fZ dZ)
    (iG : In1 K "_law_integer" sInteger fG dG)
    (iX : In1 K "_law_told" sTold fX dX)
    (iY : In1 K "_law_due" sDue fY dY)
    (iL : In1 K "law" sLaw fL dL)
    (eQ_a : PySem.W.nsIn K mainGlobals "NoAlternative" = some (some (.ref cQ)))
    (eQ_xi : PySem.W.excInitIn K cQ [.type "LookupError", .type "Exception", .type "BaseException", .type "object"] "LookupError.__new__" = true)
    (eQ_xo : PySem.W.excOver K cQ [.type "LookupError", .type "Exception", .type "BaseException", .type "object"] = true)
    (eQ_sa : PySem.W.findIn K (.ref cQ) "__setattr__" = some (some (.builtin "object.__setattr__")))
    (eQ_ga : PySem.W.findIn K (.ref cQ) "__getattribute__" = some (some (.builtin "BaseException.__getattribute__")))
    (eQ_gg : PySem.W.findIn K (.ref cQ) "__getattr__" = some none)
    (eQ_no : PySem.W.findIn K (.ref cQ) "value" = some none)
    (eQ_ini : PySem.W.findIn K (.ref cQ) "__init__" = some (some (.ref iQ)))
    (eQ_ft : PySem.W.typeIn K (.ref iQ) = some (.type "function"))
    (eQ_kp : PySem.W.keepIn K (.ref cQ) = true)
    (eQ_ex : PySem.W.subIn K (.ref cQ) (.type "BaseException") = some true)
    (eQ_ty : PySem.W.typeIn K (.ref cQ) = some (.type "type"))
    (eQ_hd : PySem.W.hasDictIn K cQ = true)
    (eQ_ca : PySem.W.findIn K (.ref cQ) "__class__" = some (some (.builtin "object.__class__")))
    (eQ_cg : PySem.W.specialIn K (.builtin "object.__class__") "__get__" = some (some (.builtin "getset_descriptor.__get__")))
    (eQ_ct : PySem.W.takesIn K (.builtin "object.__class__") = some true)
    (eQ_mo : PySem.W.mroIn K cQ (.type "object") = some true)
    (eQ_fn : K.lookup iQ = some ⟨ocQ, odQ, .func (PySem.W.fnOf "__init__" "NoAlternative.__init__" (initA ⟨4, 17, 4, 21⟩ ⟨4, 23, 4, 28⟩) (initB ⟨5, 8, 5, 12⟩ ⟨5, 8, 5, 18⟩ ⟨5, 21, 5, 26⟩ ⟨5, 8, 5, 26⟩) initS .none .none doQ pmQ anQ cdQ ctQ), slQ⟩)
    (eQ_cc : PySem.W.codeIn K cdQ "NoAlternative.__init__" = true)
    (h2 : PySem.W.nsIn K mainGlobals "NoAddress" = some (some (.ref c2)))
    (h3 : PySem.W.nsIn K mainGlobals "NoIndex" = some (some (.ref c3)))
    (h4 : PySem.W.nsIn K mainGlobals "NoKind" = some (some (.ref c4)))
    (h5 : PySem.W.kitAny K (.ref cQ) [.type "ValueError", .ref c2, .ref c3, .ref c4] = some false)
    (h6 : PySem.W.kitOne K (.ref cQ) (.type "LookupError") = some true)
    (h7 : PySem.W.subIn K (.ref cQ) (.ref cQ) = some true)
    (zlen : PySem.W.nsIn K mainGlobals "len" = some none) (zisi : PySem.W.nsIn K mainGlobals "isinstance" = some none) (zlist : PySem.W.nsIn K mainGlobals "list" = some none) (ztuple : PySem.W.nsIn K mainGlobals "tuple" = some none) (zrange : PySem.W.nsIn K mainGlobals "range" = some none) (zstr : PySem.W.nsIn K mainGlobals "str" = some none) (zint : PySem.W.nsIn K mainGlobals "int" = some none) (zbool : PySem.W.nsIn K mainGlobals "bool" = some none) (zabs : PySem.W.nsIn K mainGlobals "abs" = some none) (zenum : PySem.W.nsIn K mainGlobals "enumerate" = some none) (zrepr : PySem.W.nsIn K mainGlobals "repr" = some none) (zsum : PySem.W.nsIn K mainGlobals "sum" = some none) (zlk : PySem.W.nsIn K mainGlobals "LookupError" = some none) (zve : PySem.W.nsIn K mainGlobals "ValueError" = some none) :
    ∃ fd : FuncData, (∀ (s : Shared) (v : Value), BindsTo s fd ⟨[v], []⟩ [("_law_script", v)]) ∧ ∀ base : Heap, K.In base → base.Ns mainGlobals mg → FnG l.prog w K mg base CX0 6 fa fd ["_law_script"] (spLaw K) := by
  have e := hfa.symm.trans (PySem.W.mg_of X G iL.ns)
  cases e
  have bI : Binds K dI ["value"] [] := iI.fn.binds fun _ _ _ _ _ _ us hl => match us, hl with | [_], _ => rfl
  have bA : Binds K dA ["table", "value"] [] := iA.fn.binds fun _ _ _ _ _ _ us hl => match us, hl with | [_, _], _ => rfl
  have bR : Binds K dR ["table", "value"] [] := iR.fn.binds fun _ _ _ _ _ _ us hl => match us, hl with | [_, _], _ => rfl
  have bV : Binds K dV ["table", "one"] [] := iV.fn.binds fun _ _ _ _ _ _ us hl => match us, hl with | [_, _], _ => rfl
  have bO : Binds K dO ["table", "one"] [] := iO.fn.binds fun _ _ _ _ _ _ us hl => match us, hl with | [_, _], _ => rfl
  have bP : Binds K dP ["row", "sign"] [] := iP.fn.binds fun _ _ _ _ _ _ us hl => match us, hl with | [_, _], _ => rfl
  have bC : Binds K dC ["table"] [] := iC.fn.binds fun _ _ _ _ _ _ us hl => match us, hl with | [_], _ => rfl
  have bD : Binds K dD ["_law_script"] [] := iD.fn.binds fun _ _ _ _ _ _ us hl => match us, hl with | [_], _ => rfl
  have bN : Binds K dN ["_law_deck_here", "_law_many"] [] := iN.fn.binds fun _ _ _ _ _ _ us hl => match us, hl with | [_, _], _ => rfl
  have bS : Binds K dS ["_law_found", "_law_due_here"] [] := iS.fn.binds fun _ _ _ _ _ _ us hl => match us, hl with | [_, _], _ => rfl
  have bM : Binds K dM ["_law_deck_here", "_law_items"] [] := iM.fn.binds fun _ _ _ _ _ _ us hl => match us, hl with | [_, _], _ => rfl
  have bW : Binds K dW ["_law_deck_here", "_law_way", "_law_one_here", "_law_other"] [] := iW.fn.binds fun _ _ _ _ _ _ us hl => match us, hl with | [_, _, _, _], _ => rfl
  have bT : Binds K dT ["_law_deck_here", "_law_most"] [] := iT.fn.binds fun _ _ _ _ _ _ us hl => match us, hl with | [_, _], _ => rfl
  have bZ : Binds K dZ ["_law_deck_here"] [] := iZ.fn.binds fun _ _ _ _ _ _ us hl => match us, hl with | [_], _ => rfl
  have bG : Binds K dG ["_law_value", "_law_low", "_law_high"] [] := iG.fn.binds fun _ _ _ _ _ _ us hl => match us, hl with | [_, _, _], _ => rfl
  have bX : Binds K dX ["_law_door", "_law_table_here", "_law_one_here"] [] := iX.fn.binds fun _ _ _ _ _ _ us hl => match us, hl with | [_, _, _], _ => rfl
  have bY : Binds K dY ["_law_door", "_law_table_here", "_law_one_here"] [] := iY.fn.binds fun _ _ _ _ _ _ us hl => match us, hl with | [_, _, _], _ => rfl
  have bl : Blt mg := ⟨PySem.W.mg_none_of X G zlen, PySem.W.mg_none_of X G zisi, PySem.W.mg_none_of X G zlist, PySem.W.mg_none_of X G ztuple, PySem.W.mg_none_of X G zrange, PySem.W.mg_none_of X G zstr, PySem.W.mg_none_of X G zint, PySem.W.mg_none_of X G zbool⟩
  have xQ : OwnX K cQ iQ := ⟨⟨_, _, _, _, PySem.F.excBase_LookupError, PySem.F.store_LookupError, eQ_xi, eQ_xo⟩, eQ_sa, eQ_ga, eQ_gg, eQ_no, eQ_ini, eQ_ft, eQ_kp, eQ_ex, eQ_ty, eQ_hd, eQ_ca, eQ_cg, eQ_ct, eQ_mo, ⟨_, _, _, _, _, _, _, _, _, _, _, _, _, _, _, eQ_fn, eQ_cc⟩⟩
  have tx : Txt2 K mg fI fA fR fV fO fP fC fD fN fS fM fW fT fZ fG fX fY dI dA dR dV dO dP dC dD dN dS dM dW dT dZ dG dX dY cQ iQ := ⟨iI.fn, bI, PySem.W.mg_of X G iI.ns, iA.fn, bA, PySem.W.mg_of X G iA.ns, iR.fn, bR, PySem.W.mg_of X G iR.ns, iV.fn, bV, PySem.W.mg_of X G iV.ns, iO.fn, bO, PySem.W.mg_of X G iO.ns, iP.fn, bP, PySem.W.mg_of X G iP.ns, iC.fn, bC, PySem.W.mg_of X G iC.ns, iD.fn, bD, PySem.W.mg_of X G iD.ns, iN.fn, bN, PySem.W.mg_of X G iN.ns, iS.fn, bS, PySem.W.mg_of X G iS.ns, iM.fn, bM, PySem.W.mg_of X G iM.ns, iW.fn, bW, PySem.W.mg_of X G iW.ns, iT.fn, bT, PySem.W.mg_of X G iT.ns, iZ.fn, bZ, PySem.W.mg_of X G iZ.ns, iG.fn, bG, PySem.W.mg_of X G iG.ns, iX.fn, bX, PySem.W.mg_of X G iX.ns, iY.fn, bY, PySem.W.mg_of X G iY.ns, bl, PySem.W.mg_none_of X G zabs, PySem.W.mg_none_of X G zenum, PySem.W.mg_none_of X G zrepr, PySem.W.mg_none_of X G zsum, xQ, PySem.W.mg_of X G eQ_a, ⟨PySem.W.mg_none_of X G zlk, PySem.W.mg_none_of X G zve, ⟨_, _, _, PySem.W.mg_of X G h2, PySem.W.mg_of X G h3, PySem.W.mg_of X G h4, h5⟩, h6, h7⟩⟩
  refine ⟨dL, fun s v => ?_, fun base _ _ => ok_law iL.fn tx⟩
  have bL : Binds K dL ["_law_script"] [] := iL.fn.binds fun _ _ _ _ _ _ us hl => match us, hl with | [_], _ => rfl
  obtain ⟨oc, od, kV, doc, pm, an, cdv, ct, osl, rfl, lk, hcd⟩ := iL.fn.ex
  exact .of_eq rfl
end DS
open PySem PySem.W PyProof.Rows
set_option maxHeartbeats 0 in
theorem PySem.Challenge.cw_duelsets_k02_wins_losses_and_scores_holds : PySem.Challenge.rw_duelsets_k02_wins_losses_and_scores.Holds := by
  w_on; o_law; k_head; (case hw => w_witness2)
  k_fill
  refine DS.walk_top (l := PySem.Challenge.rw_duelsets_k02_wins_losses_and_scores) (n := 63) (k := 6) (x := "_law_script") (sp := fun w => DS.spLaw _) rfl (by decide) rfl ⟨rfl, by decide, by decide⟩ (fun w h Y => PySem.W.kIn_of Y) ?F (fun _ _ a ns hl _ hS => ⟨a, ns, rfl, hS, hl, fun _ => rfl⟩)
  case F =>
    intro w mg fa h KX G hmg
    refine' DS.all_mk KX G hmg (DS.in1 ?aI ?lI ?cI ?kI) (DS.in1 ?aA ?lA ?cA ?kA) (DS.in1 ?aR ?lR ?cR ?kR) (DS.in1 ?aV ?lV ?cV ?kV) (DS.in1 ?aO ?lO ?cO ?kO) (DS.in1 ?aP ?lP ?cP ?kP) (DS.in1 ?aC ?lC ?cC ?kC) (DS.in1 ?aD ?lD ?cD ?kD) (DS.in1 ?aN ?lN ?cN ?kN) (DS.in1 ?aS ?lS ?cS ?kS) (DS.in1 ?aM ?lM ?cM ?kM) (DS.in1 ?aW ?lW ?cW ?kW) (DS.in1 ?aT ?lT ?cT ?kT) (DS.in1 ?aZ ?lZ ?cZ ?kZ) (DS.in1 ?aG ?lG ?cG ?kG) (DS.in1 ?aX ?lX ?cX ?kX) (DS.in1 ?aY ?lY ?cY ?kY) (DS.in1 ?aL ?lL ?cL ?kL) ?eQ_a ?eQ_xi ?eQ_xo ?eQ_sa ?eQ_ga ?eQ_gg ?eQ_no ?eQ_ini ?eQ_ft ?eQ_kp ?eQ_ex ?eQ_ty ?eQ_hd ?eQ_ca ?eQ_cg ?eQ_ct ?eQ_mo ?eQ_fn ?eQ_cc ?h2 ?h3 ?h4 ?h5 ?h6 ?h7 ?zlen ?zisi ?zlist ?ztuple ?zrange ?zstr ?zint ?zbool ?zabs ?zenum ?zrepr ?zsum ?zlk ?zve
    (case aI => k_is); (case lI => k_is); (case cI => k_is); (case kI => k_is)
    (case aA => k_is); (case lA => k_is); (case cA => k_is); (case kA => k_is)
    (case aR => k_is); (case lR => k_is); (case cR => k_is); (case kR => k_is)
    (case aV => k_is); (case lV => k_is); (case cV => k_is); (case kV => k_is)
    (case aO => k_is); (case lO => k_is); (case cO => k_is); (case kO => k_is)
    (case aP => k_is); (case lP => k_is); (case cP => k_is); (case kP => k_is)
    (case aC => k_is); (case lC => k_is); (case cC => k_is); (case kC => k_is)
    (case aD => k_is); (case lD => k_is); (case cD => k_is); (case kD => k_is)
    (case aN => k_is); (case lN => k_is); (case cN => k_is); (case kN => k_is)
    (case aS => k_is); (case lS => k_is); (case cS => k_is); (case kS => k_is)
    (case aM => k_is); (case lM => k_is); (case cM => k_is); (case kM => k_is)
    (case aW => k_is); (case lW => k_is); (case cW => k_is); (case kW => k_is)
    (case aT => k_is); (case lT => k_is); (case cT => k_is); (case kT => k_is)
    (case aZ => k_is); (case lZ => k_is); (case cZ => k_is); (case kZ => k_is)
    (case aG => k_is); (case lG => k_is); (case cG => k_is); (case kG => k_is)
    (case aX => k_is); (case lX => k_is); (case cX => k_is); (case kX => k_is)
    (case aY => k_is); (case lY => k_is); (case cY => k_is); (case kY => k_is)
    (case aL => k_is); (case lL => k_is); (case cL => k_is); (case kL => k_is)
    (case eQ_a => first | k_is | kx_is | rfl)
    (case eQ_xi => first | k_is | kx_is | rfl)
    (case eQ_xo => first | k_is | kx_is | rfl)
    (case eQ_sa => first | k_is | kx_is | rfl)
    (case eQ_ga => first | k_is | kx_is | rfl)
    (case eQ_gg => first | k_is | kx_is | rfl)
    (case eQ_no => first | k_is | kx_is | rfl)
    (case eQ_ini => first | k_is | kx_is | rfl)
    (case eQ_ft => first | k_is | kx_is | rfl)
    (case eQ_kp => first | k_is | kx_is | rfl)
    (case eQ_ex => first | k_is | kx_is | rfl)
    (case eQ_ty => first | k_is | kx_is | rfl)
    (case eQ_hd => first | k_is | kx_is | rfl)
    (case eQ_ca => first | k_is | kx_is | rfl)
    (case eQ_cg => first | k_is | kx_is | rfl)
    (case eQ_ct => first | k_is | kx_is | rfl)
    (case eQ_mo => first | k_is | kx_is | rfl)
    (case eQ_fn => first | k_is | kx_is | rfl)
    (case eQ_cc => first | k_is | kx_is | rfl)
    (case h2 => first | k_is | kx_is | rfl)
    (case h3 => first | k_is | kx_is | rfl)
    (case h4 => first | k_is | kx_is | rfl)
    (case h5 => first | k_is | kx_is | rfl)
    (case h6 => first | k_is | kx_is | rfl)
    (case h7 => first | k_is | kx_is | rfl)
    (case zlen => k_is); (case zisi => k_is); (case zlist => k_is); (case ztuple => k_is); (case zrange => k_is); (case zstr => k_is); (case zint => k_is); (case zbool => k_is); (case zabs => k_is); (case zenum => k_is); (case zrepr => k_is); (case zsum => k_is); (case zlk => k_is); (case zve => k_is)
